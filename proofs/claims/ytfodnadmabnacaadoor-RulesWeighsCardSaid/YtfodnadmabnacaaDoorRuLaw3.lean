/- RulesTable: the walk. -/
import Derived.Test.YtfodnadmabnacaaDoorRuLaw2
namespace Go.Proofs.YtfodnadmabnacaaDoor
open Go.RowKit Base Base2

set_option maxRecDepth 100000 in
set_option maxHeartbeats 8000000 in
theorem table3 {K : World → Prop} (C : RulesC K) (n r x y : Int) (ov : Bool) (w : World) (hK : K w) (hn : in8 n) (hr : in8 r) (hx : in8 x) (hy : in8 y) :
    Calls Tryd.prog 3 #[.int .i64 n, .agg #[.int .i64 r, .int .i64 x, .int .i64 y, .bool ov]] w fun e w' => e = .returned (.bool true) ∧ Below w.heap.size w w' := by
  obtain ⟨W0, hW0⟩ : ∃ z, w.alloc (.cells #[.int .i64 r, .int .i64 x, .int .i64 y, .bool ov] 23) = z := ⟨_, rfl⟩
  have hA : Below w.heap.size w W0 := by rw [← hW0]; exact (Below.refl _ w).alloc (Nat.le_refl _) _
  have hz0 : W0.heap[w.heap.size]? = some (.cells #[.int .i64 r, .int .i64 x, .int .i64 y, .bool ov] 23 (0, 0)) := by rw [← hW0]; exact heap_alloc_new w _
  have hok : StepOk ⟨r, x, y, ov⟩ := ⟨hr, hx, hy⟩
  have HKP := Lib.hid C.keep
  have HA := Lib.hid hA
  have HZ0 := Lib.hid hz0
  have HK0 := Lib.hid (C.keep _ _ hK hA)
  have HAL := Lib.hid (aliveR C W0 (C.keep _ _ hK hA))
  have HTB := Lib.hid (fun W => rtable7 n W)
  unfold rowV at HTB
  have HRL := Lib.hid (fun W hk => C.rel n W hk hn)
  have HCD := Lib.hid (fun W hk => C.code n W hk hn)
  have HNM := Lib.hid (fun W hk => C.name n W hk hn)
  have HHO := Lib.hid (fun W hk => C.holds ⟨r, x, y, ov⟩ W hk hok)
  have HH2 := Lib.hid (fun W => rholds12 ⟨r, x, y, ov⟩ W)
  have HTX := Lib.hid (fun W hk => C.text ⟨r, x, y, ov⟩ W hk hok)
  have HT2 := Lib.hid (fun W => rtext14 ⟨r, x, y, ov⟩ hx.1 hx.2 hy.1 hy.2 W)
  dsimp only at HHO HH2 HTX HT2
  have HN := Lib.hid (name_at n)
  generalize nameS n = NM at *
  generalize holdS ⟨r, x, y, ov⟩ = hs at *
  generalize textS ⟨r, x, y, ov⟩ = TX at *
  generalize (rowT n).1 = nm at *
  generalize (rowT n).2.1 = rl at *
  generalize (rowT n).2.2 = cd at *
  have hcase : (nm ≠ ⟨#[]⟩ ∧ NM = nm) ∨ (nm = ⟨#[]⟩ ∧ NM = ⟨#[63]⟩) := by
    rcases HN.out with ⟨_, _, h1, h2, _⟩ | ⟨h1, h2, _⟩
    · exact .inl ⟨h1, h2⟩
    · exact .inr ⟨h1, h2⟩
  clear HN hA hz0 hok C hK hn hr hx hy
  go_enter Tryd.func3, Tryd.ntmps3
  go_upto_region 4 with (first
    | (go_at_call 6; (try rw [hW0]); refine HAL.out.mono ?_; rintro e w1 ⟨rfl, hb1⟩; have HB1 := Lib.hid hb1; clear hb1)
    | (go_at_call 7; refine (HTB.out _).mono ?_; rintro e w2 ⟨rfl, hb2⟩; have HB2 := Lib.hid (HB1.out.trans (hb2.mono HB1.out.size)); clear hb2))
  obtain ⟨W3, hW3⟩ : ∃ z, w2.alloc (.cells #[.string nm, .int .i64 rl, .int .i64 cd] 26) = z := ⟨_, rfl⟩
  have hb3 : Below w2.heap.size w2 W3 := by rw [← hW3]; exact (Below.refl _ _).alloc (Nat.le_refl _) _
  have hz3 : W3.heap[w2.heap.size]? = some (.cells #[.string nm, .int .i64 rl, .int .i64 cd] 26 (0, 0)) := by rw [← hW3]; exact heap_alloc_new w2 _
  have HB3 := Lib.hid (HB2.out.trans (hb3.mono HB2.out.size))
  have HY := Lib.hid (fun W (h : Below W3.heap.size W3 W) => cells3S ((h.block _ (blk_ltR hz3)).trans hz3))
  have HX := Lib.hid (fun W (h : Below W3.heap.size W3 W) => cells4S (((HB3.out.trans (h.mono HB3.out.size)).block _ (blk_ltR HZ0.out)).trans HZ0.out))
  have HKW := Lib.hid (fun W (h : Below W3.heap.size W3 W) => HKP.out _ _ HK0.out (HB3.out.trans (h.mono HB3.out.size)))
  obtain ⟨d0, d1, d2⟩ := HY.out _ (Below.refl _ _)
  rw [hW3]
  clear hW3 hb3 hz3 hW0 HAL HTB HB1 HB2 HZ0
  go_upto_if 14 with (fail)
  go_cut [6] from 13 to 14 (fun s6 wx => s6 = .string NM ∧ wx = W3)
  case first =>
    rcases hcase with ⟨h, rfl⟩ | ⟨h, rfl⟩
    · have g := empty_no h
      clear h
      go_wp2
      · rename_i h'
        rw [g] at h'
        cases h'
      · go_meet
        exact ⟨rfl, rfl⟩
    · have g : nm.toList.isEmpty = true := by rw [h]; simp
      clear h
      go_wp2
      · go_meet
        exact ⟨rfl, rfl⟩
      · rename_i h'
        rw [g] at h'
        cases h'
  case rest =>
    obtain ⟨rfl, rfl⟩ := hcut
    clear hcase d0 d1 d2
    go_upto_region 7 with (fail)
    refine wp_region_held_drew (S := fun W => Below wc.heap.size wc W) (by kernel_rfl) ((Below.refl _ _).drew) (fun hS => ?_)
    refine wpAnyH_take (i := 0) (v := .int .i64 n) rfl (by kernel_rfl) (by kernel_rfl) (by kernel_rfl) (fun _ _ _ h => h) (Or.inl ⟨by simp [Region.wanted], fun W _ => by go_simp⟩) hS ?_
    simp only [List.getElem_toArray, List.getElem_cons_zero, Act.put, List.setIfInBounds_toArray, List.set_cons_zero, List.set_cons_succ]
    refine wpAnyH_take (i := 2) (v := .pointer (some ⟨w2.heap.size, 1, none⟩)) rfl (by kernel_rfl) (by kernel_rfl) (by kernel_rfl) (fun _ _ _ h => h) (Or.inl ⟨by simp [Region.wanted], fun W _ => by go_simp⟩) hS ?_
    simp only [List.getElem_toArray, List.getElem_cons_zero, List.getElem_cons_succ, Act.put, List.setIfInBounds_toArray, List.set_cons_zero, List.set_cons_succ]
    refine wpAnyH_take (i := 3) (v := .int .i64 rl) rfl (by kernel_rfl) (by kernel_rfl) (by kernel_rfl) (fun _ _ _ h => h) (Or.inl ⟨by simp [Region.wanted], fun W hW => by have h1 := (HY.out W hW).2.1; go_simp⟩) hS ?_
    simp only [List.getElem_toArray, List.getElem_cons_zero, List.getElem_cons_succ, Act.put, List.setIfInBounds_toArray, List.set_cons_zero, List.set_cons_succ]
    refine wpAnyH_ready (rs := [1]) (by kernel_rfl) (by simp) ?_
    refine AllReadyH.cons rfl (fun K1 hK1 => ?_) AllReadyH.nil
    refine wanted_go rfl ?_
    simp only [List.getElem_toArray, List.getElem_cons_zero, List.getElem_cons_succ]
    go_wp2_with (go_at_call 8; refine (HRL.out _ (HKW.out _ hS)).mono ?_; rintro e u1 ⟨rfl, hb⟩; have HU := Lib.hid hb; clear hb)
    refine hK1.out _ _ ((hS).trans (HU.out.mono (hS).size)) (fun hS1 => ?_)
    refine wpAnyH_take (i := 4) (v := .bool true) rfl (by kernel_rfl) (by kernel_rfl) (by kernel_rfl) (fun _ _ _ h => h) (Or.inl ⟨by simp [Region.wanted], fun W _ => by go_simp⟩) hS1 ?_
    simp only [List.getElem_toArray, List.getElem_cons_zero, List.getElem_cons_succ, Act.put, List.setIfInBounds_toArray, List.set_cons_zero, List.set_cons_succ]
    refine wpAnyH_take (i := 5) (v := .bool true) rfl (by kernel_rfl) (by kernel_rfl) (by kernel_rfl) (fun _ _ _ h => h) (Or.inl ⟨by simp [Region.wanted], fun W _ => by go_simp⟩) hS1 ?_
    simp only [List.getElem_toArray, List.getElem_cons_zero, List.getElem_cons_succ, Act.put, List.setIfInBounds_toArray, List.set_cons_zero, List.set_cons_succ]
    refine wpAnyH_take (i := 6) (v := .int .i64 n) rfl (by kernel_rfl) (by kernel_rfl) (by kernel_rfl) (fun _ _ _ h => h) (Or.inl ⟨by rfl, fun W _ => by go_simp⟩) hS1 ?_
    simp only [List.getElem_toArray, List.getElem_cons_zero, List.getElem_cons_succ, Act.put, List.setIfInBounds_toArray, List.set_cons_zero, List.set_cons_succ]
    refine wpAnyH_take (i := 8) (v := .pointer (some ⟨w2.heap.size, 2, none⟩)) rfl (by kernel_rfl) (by kernel_rfl) (by kernel_rfl) (fun _ _ _ h => h) (Or.inl ⟨by rfl, fun W _ => by go_simp⟩) hS1 ?_
    simp only [List.getElem_toArray, List.getElem_cons_zero, List.getElem_cons_succ, Act.put, List.setIfInBounds_toArray, List.set_cons_zero, List.set_cons_succ]
    refine wpAnyH_take (i := 9) (v := .int .i64 cd) rfl (by kernel_rfl) (by kernel_rfl) (by kernel_rfl) (fun _ _ _ h => h) (Or.inl ⟨by rfl, fun W hW => by have h1 := (HY.out W hW).2.2; go_simp⟩) hS1 ?_
    simp only [List.getElem_toArray, List.getElem_cons_zero, List.getElem_cons_succ, Act.put, List.setIfInBounds_toArray, List.set_cons_zero, List.set_cons_succ]
    refine wpAnyH_ready (rs := [7]) (by kernel_rfl) (by simp) ?_
    refine AllReadyH.cons rfl (fun K2 hK2 => ?_) AllReadyH.nil
    rw [if_pos (by rfl)]
    simp only [List.getElem_toArray, List.getElem_cons_zero, List.getElem_cons_succ]
    go_wp2_with (go_at_call 9; refine (HCD.out _ (HKW.out _ hS1)).mono ?_; rintro e u2 ⟨rfl, hb⟩; have HU := Lib.hid hb; clear hb)
    refine hK2.out _ _ ((hS1).trans (HU.out.mono (hS1).size)) (fun hS2 => ?_)
    refine wpAnyH_take (i := 10) (v := .bool true) rfl (by kernel_rfl) (by kernel_rfl) (by kernel_rfl) (fun _ _ _ h => h) (Or.inl ⟨by rfl, fun W _ => by go_simp⟩) hS2 ?_
    simp only [List.getElem_toArray, List.getElem_cons_zero, List.getElem_cons_succ, Act.put, List.setIfInBounds_toArray, List.set_cons_zero, List.set_cons_succ]
    refine wpAnyH_take (i := 11) (v := .bool true) rfl (by kernel_rfl) (by kernel_rfl) (by kernel_rfl) (fun _ _ _ h => h) (Or.inl ⟨by simp [Region.wanted], fun W _ => by go_simp⟩) hS2 ?_
    simp only [List.getElem_toArray, List.getElem_cons_zero, List.getElem_cons_succ, Act.put, List.setIfInBounds_toArray, List.set_cons_zero, List.set_cons_succ]
    refine wpAnyH_take (i := 12) (v := .bool true) rfl (by kernel_rfl) (by kernel_rfl) (by kernel_rfl) (fun _ _ _ h => h) (Or.inl ⟨by simp [Region.wanted], fun W _ => by go_simp⟩) hS2 ?_
    simp only [List.getElem_toArray, List.getElem_cons_zero, List.getElem_cons_succ, Act.put, List.setIfInBounds_toArray, List.set_cons_zero, List.set_cons_succ]
    refine wpAnyH_take (i := 13) (v := .int .i64 n) rfl (by kernel_rfl) (by kernel_rfl) (by kernel_rfl) (fun _ _ _ h => h) (Or.inl ⟨by rfl, fun W _ => by go_simp⟩) hS2 ?_
    simp only [List.getElem_toArray, List.getElem_cons_zero, List.getElem_cons_succ, Act.put, List.setIfInBounds_toArray, List.set_cons_zero, List.set_cons_succ]
    refine wpAnyH_take (i := 15) (v := .string NM) rfl (by kernel_rfl) (by kernel_rfl) (by kernel_rfl) (fun _ _ _ h => h) (Or.inl ⟨by rfl, fun W _ => by go_simp⟩) hS2 ?_
    simp only [List.getElem_toArray, List.getElem_cons_zero, List.getElem_cons_succ, Act.put, List.setIfInBounds_toArray, List.set_cons_zero, List.set_cons_succ]
    refine wpAnyH_ready (rs := [14]) (by kernel_rfl) (by simp) ?_
    refine AllReadyH.cons rfl (fun K3 hK3 => ?_) AllReadyH.nil
    rw [if_pos (by rfl)]
    simp only [List.getElem_toArray, List.getElem_cons_zero, List.getElem_cons_succ]
    go_wp2_with (go_at_call 10; refine (HNM.out _ (HKW.out _ hS2)).mono ?_; rintro e u3 ⟨rfl, hb⟩; have HU := Lib.hid hb; clear hb)
    refine hK3.out _ _ ((hS2).trans (HU.out.mono (hS2).size)) (fun hS3 => ?_)
    refine wpAnyH_take (i := 16) (v := .bool true) rfl (by kernel_rfl) (by kernel_rfl) (by kernel_rfl) (fun _ _ _ h => h) (Or.inl ⟨by rfl, fun W _ => by go_simp⟩) hS3 ?_
    simp only [List.getElem_toArray, List.getElem_cons_zero, List.getElem_cons_succ, Act.put, List.setIfInBounds_toArray, List.set_cons_zero, List.set_cons_succ]
    refine wpAnyH_take (i := 17) (v := .bool true) rfl (by kernel_rfl) (by kernel_rfl) (by kernel_rfl) (fun _ _ _ h => h) (Or.inl ⟨by simp [Region.wanted], fun W _ => by go_simp⟩) hS3 ?_
    simp only [List.getElem_toArray, List.getElem_cons_zero, List.getElem_cons_succ, Act.put, List.setIfInBounds_toArray, List.set_cons_zero, List.set_cons_succ]
    refine wpAnyH_take (i := 18) (v := .bool true) rfl (by kernel_rfl) (by kernel_rfl) (by kernel_rfl) (fun _ _ _ h => h) (Or.inl ⟨by simp [Region.wanted], fun W _ => by go_simp⟩) hS3 ?_
    simp only [List.getElem_toArray, List.getElem_cons_zero, List.getElem_cons_succ, Act.put, List.setIfInBounds_toArray, List.set_cons_zero, List.set_cons_succ]
    refine wpAnyH_take (i := 19) (v := .agg #[.int .i64 r, .int .i64 x, .int .i64 y, .bool ov]) rfl (by kernel_rfl) (by kernel_rfl) (by kernel_rfl) (fun _ _ _ h => h) (Or.inl ⟨by rfl, fun W hW => by have h1 := (HX.out W hW).1; have h2 := (HX.out W hW).2.1; have h3 := (HX.out W hW).2.2.1; have h4 := (HX.out W hW).2.2.2; go_simp⟩) hS3 ?_
    simp only [List.getElem_toArray, List.getElem_cons_zero, List.getElem_cons_succ, Act.put, List.setIfInBounds_toArray, List.set_cons_zero, List.set_cons_succ]
    refine wpAnyH_take (i := 21) (v := .agg #[.int .i64 r, .int .i64 x, .int .i64 y, .bool ov]) rfl (by kernel_rfl) (by kernel_rfl) (by kernel_rfl) (fun _ _ _ h => h) (Or.inl ⟨by rfl, fun W hW => by have h1 := (HX.out W hW).1; have h2 := (HX.out W hW).2.1; have h3 := (HX.out W hW).2.2.1; have h4 := (HX.out W hW).2.2.2; go_simp⟩) hS3 ?_
    simp only [List.getElem_toArray, List.getElem_cons_zero, List.getElem_cons_succ, Act.put, List.setIfInBounds_toArray, List.set_cons_zero, List.set_cons_succ]
    refine wpAnyH_ready (rs := [20]) (by kernel_rfl) (by simp) ?_
    refine AllReadyH.cons rfl (fun K4 hK4 => ?_) AllReadyH.nil
    rw [if_pos (by rfl)]
    simp only [List.getElem_toArray, List.getElem_cons_zero, List.getElem_cons_succ]
    go_wp2_with (go_at_call 11; refine (HHO.out _ (HKW.out _ hS3)).mono ?_; rintro e u4 ⟨rfl, hb⟩; have HU := Lib.hid hb; clear hb)
    refine hK4.out _ _ ((hS3).trans (HU.out.mono (hS3).size)) (fun hS4 => ?_)
    refine wpAnyH_ready (rs := [22]) (by kernel_rfl) (by simp) ?_
    refine AllReadyH.cons rfl (fun K5 hK5 => ?_) AllReadyH.nil
    rw [if_pos (by rfl)]
    simp only [List.getElem_toArray, List.getElem_cons_zero, List.getElem_cons_succ]
    go_wp2_with (go_at_call 12; refine (HH2.out _).mono ?_; rintro e u5 ⟨rfl, hb⟩; have HU := Lib.hid hb; clear hb)
    refine hK5.out _ _ ((hS4).trans (HU.out.mono (hS4).size)) (fun hS5 => ?_)
    refine wpAnyH_take (i := 23) (v := .bool true) rfl (by kernel_rfl) (by kernel_rfl) (by kernel_rfl) (fun _ _ _ h => h) (Or.inl ⟨by rfl, fun W _ => by go_simp⟩) hS5 ?_
    simp only [List.getElem_toArray, List.getElem_cons_zero, List.getElem_cons_succ, Act.put, List.setIfInBounds_toArray, List.set_cons_zero, List.set_cons_succ]
    refine wpAnyH_take (i := 24) (v := .bool true) rfl (by kernel_rfl) (by kernel_rfl) (by kernel_rfl) (fun _ _ _ h => h) (Or.inl ⟨by simp [Region.wanted], fun W _ => by go_simp⟩) hS5 ?_
    simp only [List.getElem_toArray, List.getElem_cons_zero, List.getElem_cons_succ, Act.put, List.setIfInBounds_toArray, List.set_cons_zero, List.set_cons_succ]
    refine wpAnyH_take (i := 25) (v := .bool true) rfl (by kernel_rfl) (by kernel_rfl) (by kernel_rfl) (fun _ _ _ h => h) (Or.inl ⟨by simp [Region.wanted], fun W _ => by go_simp⟩) hS5 ?_
    simp only [List.getElem_toArray, List.getElem_cons_zero, List.getElem_cons_succ, Act.put, List.setIfInBounds_toArray, List.set_cons_zero, List.set_cons_succ]
    refine wpAnyH_take (i := 26) (v := .agg #[.int .i64 r, .int .i64 x, .int .i64 y, .bool ov]) rfl (by kernel_rfl) (by kernel_rfl) (by kernel_rfl) (fun _ _ _ h => h) (Or.inl ⟨by rfl, fun W hW => by have h1 := (HX.out W hW).1; have h2 := (HX.out W hW).2.1; have h3 := (HX.out W hW).2.2.1; have h4 := (HX.out W hW).2.2.2; go_simp⟩) hS5 ?_
    simp only [List.getElem_toArray, List.getElem_cons_zero, List.getElem_cons_succ, Act.put, List.setIfInBounds_toArray, List.set_cons_zero, List.set_cons_succ]
    refine wpAnyH_take (i := 28) (v := .agg #[.int .i64 r, .int .i64 x, .int .i64 y, .bool ov]) rfl (by kernel_rfl) (by kernel_rfl) (by kernel_rfl) (fun _ _ _ h => h) (Or.inl ⟨by rfl, fun W hW => by have h1 := (HX.out W hW).1; have h2 := (HX.out W hW).2.1; have h3 := (HX.out W hW).2.2.1; have h4 := (HX.out W hW).2.2.2; go_simp⟩) hS5 ?_
    simp only [List.getElem_toArray, List.getElem_cons_zero, List.getElem_cons_succ, Act.put, List.setIfInBounds_toArray, List.set_cons_zero, List.set_cons_succ]
    refine wpAnyH_ready (rs := [27]) (by kernel_rfl) (by simp) ?_
    refine AllReadyH.cons rfl (fun K6 hK6 => ?_) AllReadyH.nil
    rw [if_pos (by rfl)]
    simp only [List.getElem_toArray, List.getElem_cons_zero, List.getElem_cons_succ]
    go_wp2_with (go_at_call 13; refine (HTX.out _ (HKW.out _ hS5)).mono ?_; rintro e u6 ⟨rfl, hb⟩; have HU := Lib.hid hb; clear hb)
    refine hK6.out _ _ ((hS5).trans (HU.out.mono (hS5).size)) (fun hS6 => ?_)
    refine wpAnyH_ready (rs := [29]) (by kernel_rfl) (by simp) ?_
    refine AllReadyH.cons rfl (fun K7 hK7 => ?_) AllReadyH.nil
    rw [if_pos (by rfl)]
    simp only [List.getElem_toArray, List.getElem_cons_zero, List.getElem_cons_succ]
    go_wp2_with (go_at_call 14; refine (HT2.out _).mono ?_; rintro e u7 ⟨rfl, hb⟩; have HU := Lib.hid hb; clear hb)
    refine hK7.out _ _ ((hS6).trans (HU.out.mono (hS6).size)) (fun hS7 => ?_)
    refine wpAnyH_take (i := 30) (v := .bool true) rfl (by kernel_rfl) (by kernel_rfl) (by kernel_rfl) (fun _ _ _ h => h) (Or.inl ⟨by rfl, fun W _ => by go_simp⟩) hS7 ?_
    simp only [List.getElem_toArray, List.getElem_cons_zero, List.getElem_cons_succ, Act.put, List.setIfInBounds_toArray, List.set_cons_zero, List.set_cons_succ]
    refine wpAnyH_take (i := 31) (v := .bool true) rfl (by kernel_rfl) (by kernel_rfl) (by kernel_rfl) (fun _ _ _ h => h) (Or.inl ⟨by simp [Region.wanted], fun W _ => by go_simp⟩) hS7 ?_
    simp only [List.getElem_toArray, List.getElem_cons_zero, List.getElem_cons_succ, Act.put, List.setIfInBounds_toArray, List.set_cons_zero, List.set_cons_succ]
    refine wpAnyH_take (i := 32) (v := .bool true) rfl (by kernel_rfl) (by kernel_rfl) (by kernel_rfl) (fun _ _ _ h => h) (Or.inl ⟨by simp [Region.wanted], fun W _ => by go_simp⟩) hS7 ?_
    simp only [List.getElem_toArray, List.getElem_cons_zero, List.getElem_cons_succ, Act.put, List.setIfInBounds_toArray, List.set_cons_zero, List.set_cons_succ]
    refine wpAnyH_done (by kernel_rfl) ?_ _
    go_wp2
    go_ret
    exact ⟨rfl, HA.out.trans ((HB3.out.trans (hS7.mono HB3.out.size)).mono HA.out.size)⟩
end Go.Proofs.YtfodnadmabnacaaDoor
