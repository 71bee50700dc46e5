/- The program's Text: the contract. -/
import Derived.Test.YtfodnadmabnacaaDoorRuP3
import Derived.Test.YtfodnadmabnacaaDoorShelf
namespace Go.Proofs.YtfodnadmabnacaaDoor
open Go.RowKit Base Base2

theorem dec_itoa : ∀ k : Nat, Lib.decDigits k = decL k := by
  intro k
  induction k using Nat.strongRecOn with
  | _ k ih =>
    by_cases h : k < 10
    · rw [Lib.decDigits_one h, decL_small h]
    · rw [Lib.decDigits, dif_neg h, decL_more h, ih (k / 10) (by omega)]
theorem itoa_decZ (n : Int) : (⟨(Lib.itoa n).toArray⟩ : ByteArray) = decZ n := by
  unfold Lib.itoa decZ
  split
  · rw [dec_itoa]; unfold decB
    apply ByteArray.ext; simp
  · rw [dec_itoa]; rfl
theorem below_grow (w : World) (k : Nat) (os : Array Obj) : Below w.heap.size w (Sort.grow (w.drewN k) os) :=
  (below_drews k).trans ⟨rfl, rfl, rfl, by simp [Sort.grow], fun i hi => Sort.heap_grow_old (w.drewN k) os (k := i) hi⟩
theorem format21 (n : Int) (hn : in8 n) (w : World) (hT : PowAt w) : Calls Tryd.prog 21 #[.int .i64 n, .int .i64 10] w fun e w' => e = .returned (.string (decZ n)) ∧ Below w.heap.size w w' := by
  refine (shstrconv_FormatInt_10 n hn.1 hn.2 w hT).mono ?_
  rintro e w' ⟨rfl, q, os, rfl⟩
  exact ⟨by rw [itoa_decZ], below_grow w q os⟩
theorem text_over {s : StepT} (h : s.o = true) : textS s = nameS s.r ++ ⟨#[32, 111, 118, 101, 114]⟩ := by unfold textS; rw [h]; rfl
theorem text_not {s : StepT} (h : s.o = false) : textS s = nameS s.r ++ ⟨#[32]⟩ ++ decZ s.x ++ ⟨#[32]⟩ ++ signS (rowT s.r).2.1 ++ ⟨#[32]⟩ ++ decZ s.y := by unfold textS; rw [h]; rfl
theorem name_size (n : Int) : (nameS n).size ≤ 20 := by
  rcases name_at n with ⟨_, _, _, h, h2, _⟩ | h
  · rw [h]; exact h2
  · unfold nameS; split
    · rename_i hn; rw [row_yes hn]; exact (name_of n.toNat (by omega) (by omega)).2.1
    · exact (by decide : (1 : Nat) ≤ 20)
theorem sign_size (k : Int) : (signS k).size ≤ 2 := by
  unfold signS; split
  · exact Nat.le_refl 2
  · split
    · exact Nat.le_refl 2
    · split
      · exact (by decide : (1 : Nat) ≤ 2)
      · exact (by decide : (1 : Nat) ≤ 2)
set_option maxRecDepth 100000 in
set_option maxHeartbeats 8000000 in
theorem text13 (s : StepT) (w : World) (hK : KAll w) (hs : StepOk s) : Calls Tryd.prog 13 #[.agg #[.int .i64 s.r, .int .i64 s.x, .int .i64 s.y, .bool s.o]] w fun e w' => e = .returned (.string (textS s)) ∧ Below w.heap.size w w' := by
  obtain ⟨r, x, y, ov⟩ := s
  obtain ⟨W1, hW1⟩ : ∃ z, w.alloc (.cells #[.int .i64 r, .int .i64 x, .int .i64 y, .bool ov] 23) = z := ⟨_, rfl⟩
  have hb : Below w.heap.size w W1 := by rw [← hW1]; exact (Below.refl _ w).alloc (Nat.le_refl _) _
  have hx : W1.heap[w.heap.size]? = some (.cells #[.int .i64 r, .int .i64 x, .int .i64 y, .bool ov] 23 (0, 0)) := by rw [← hW1]; exact heap_alloc_new w _
  have HX0 := Lib.hid (fun W (h : Below W1.heap.size W1 W) => cells4S ((h.block _ (blk_ltR hx)).trans hx))
  have HB := Lib.hid hb
  have HW := Lib.hid hW1
  have HRL := Lib.hid (fun W (h : Below W1.heap.size W1 W) => related20 r W (k_keep _ _ (k_keep _ _ hK hb) h) hs.1)
  have HNM := Lib.hid (fun W (h : Below W1.heap.size W1 W) => name10 r W (k_keep _ _ (k_keep _ _ hK hb) h) hs.1)
  have HFX := Lib.hid (fun W (h : Below W1.heap.size W1 W) => format21 x hs.2.1 W (k_keep _ _ (k_keep _ _ hK hb) h).2)
  have HFY := Lib.hid (fun W (h : Below W1.heap.size W1 W) => format21 y hs.2.2 W (k_keep _ _ (k_keep _ _ hK hb) h).2)
  have hzn := name_size r
  have hzs := sign_size (rowT r).2.1
  have hzx := decZ_len hs.2.1.1 hs.2.1.2
  have hzy := decZ_len hs.2.2.1 hs.2.2.2
  clear hb hx hW1 hK hs
  dsimp only at HX0 hzx hzy ⊢
  cases ov with
  | true =>
    have HR := Lib.hid (text_over (s := ⟨r, x, y, true⟩) rfl)
    dsimp only at HR
    generalize nameS r = NM at *
    go_enter Tryd.func13, Tryd.ntmps13
    go_upto_region 1 with (fail)
    refine at_world (Φ := fun W => W = W1) HW.out ?_
    rintro W rfl
    have hsum : ¬ 9223372036854775807 < NM.size + 5 := by omega
    clear HW HRL HFX HFY
    obtain ⟨k0, k1, k2, k3⟩ := HX0.out W (Below.refl _ _)
    go_wp2_with (go_at_call 10; refine (HNM.out _ (Below.refl _ _)).mono ?_; rintro e w2 ⟨rfl, hb2⟩; have HB2 := Lib.hid hb2; clear hb2)
    go_ret
    exact ⟨by rw [HR.out]; rfl, HB.out.trans (HB2.out.mono HB.out.size)⟩
  | false =>
    have HR := Lib.hid (text_not (s := ⟨r, x, y, false⟩) rfl)
    dsimp only at HR
    generalize nameS r = NM at *
    generalize signS (rowT r).2.1 = SG at *
    generalize decZ x = DX at *
    generalize decZ y = DY at *
    generalize relF (rowT r).2.1 = fR at *
    go_enter Tryd.func13, Tryd.ntmps13
    go_upto_region 1 with (fail)
    refine at_world (Φ := fun W => W = W1) HW.out ?_
    rintro W1 rfl
    clear HW
    have HX := HX0
    obtain ⟨k0, k1, k2, k3⟩ := HX0.out W1 (Below.refl _ _)
    go_upto_region 3 with (fail)
    refine wp_region_held_drew (S := fun W0 => Below W1.heap.size W1 W0) (by kernel_rfl) ((Below.refl _ _).drew) (fun hS => ?_)
    refine wpAnyH_take (i := 0) (v := .pointer (some ⟨w.heap.size, 1, none⟩)) rfl (by kernel_rfl) (by kernel_rfl) (by kernel_rfl) (fun _ _ _ h => h) (Or.inl ⟨by simp [Region.wanted], fun W _ => by go_simp⟩) hS ?_
    simp only [List.getElem_toArray, List.getElem_cons_zero, Act.put, List.setIfInBounds_toArray, List.set_cons_zero, List.set_cons_succ]
    refine wpAnyH_take (i := 1) (v := .int .i64 x) rfl (by kernel_rfl) (by kernel_rfl) (by kernel_rfl) (fun _ _ _ h => h) (Or.inl ⟨by simp [Region.wanted], fun W hW => by have h1 := (HX.out W hW).2.1; go_simp⟩) hS ?_
    simp only [List.getElem_toArray, List.getElem_cons_zero, List.getElem_cons_succ, Act.put, List.setIfInBounds_toArray, List.set_cons_zero, List.set_cons_succ]
    refine wpAnyH_take (i := 3) (v := .pointer (some ⟨w.heap.size, 2, none⟩)) rfl (by kernel_rfl) (by kernel_rfl) (by kernel_rfl) (fun _ _ _ h => h) (Or.inl ⟨by simp [Region.wanted], fun W _ => by go_simp⟩) hS ?_
    simp only [List.getElem_toArray, List.getElem_cons_zero, List.getElem_cons_succ, Act.put, List.setIfInBounds_toArray, List.set_cons_zero, List.set_cons_succ]
    refine wpAnyH_take (i := 4) (v := .int .i64 y) rfl (by kernel_rfl) (by kernel_rfl) (by kernel_rfl) (fun _ _ _ h => h) (Or.inl ⟨by simp [Region.wanted], fun W hW => by have h1 := (HX.out W hW).2.2.1; go_simp⟩) hS ?_
    simp only [List.getElem_toArray, List.getElem_cons_zero, List.getElem_cons_succ, Act.put, List.setIfInBounds_toArray, List.set_cons_zero, List.set_cons_succ]
    refine wpAnyH_ready (rs := [2]) (by kernel_rfl) (by simp) ?_
    refine AllReadyH.cons rfl (fun K1 hK1 => ?_) AllReadyH.nil
    refine wanted_go rfl ?_
    simp only [List.getElem_toArray, List.getElem_cons_zero, List.getElem_cons_succ]
    go_wp2_with (go_at_call 21; refine (HFX.out _ hS).mono ?_; rintro e u1 ⟨rfl, hb⟩; have HU1 := Lib.hid hb; clear hb)
    refine hK1.out _ _ ((hS).trans (HU1.out.mono (hS).size)) (fun hS1 => ?_)
    refine wpAnyH_ready (rs := [5]) (by kernel_rfl) (by simp) ?_
    refine AllReadyH.cons rfl (fun K2 hK2 => ?_) AllReadyH.nil
    refine wanted_go rfl ?_
    simp only [List.getElem_toArray, List.getElem_cons_zero, List.getElem_cons_succ]
    go_wp2_with (go_at_call 21; refine (HFY.out _ hS1).mono ?_; rintro e u2 ⟨rfl, hb⟩; have HU2 := Lib.hid hb; clear hb)
    refine hK2.out _ _ ((hS1).trans (HU2.out.mono (hS1).size)) (fun hS2 => ?_)
    refine wpAnyH_take (i := 6) (v := .string DX) rfl (by kernel_rfl) (by kernel_rfl) (by kernel_rfl) (fun _ _ _ h => h) (Or.inl ⟨by simp [Region.wanted], fun W _ => by go_simp⟩) hS2 ?_
    simp only [List.getElem_toArray, List.getElem_cons_zero, List.getElem_cons_succ, Act.put, List.setIfInBounds_toArray, List.set_cons_zero, List.set_cons_succ]
    refine wpAnyH_take (i := 7) (v := .string DY) rfl (by kernel_rfl) (by kernel_rfl) (by kernel_rfl) (fun _ _ _ h => h) (Or.inl ⟨by simp [Region.wanted], fun W _ => by go_simp⟩) hS2 ?_
    simp only [List.getElem_toArray, List.getElem_cons_zero, List.getElem_cons_succ, Act.put, List.setIfInBounds_toArray, List.set_cons_zero, List.set_cons_succ]
    refine wpAnyH_done (by kernel_rfl) ?_ _
    go_upto_region 4 with (fail)
    refine wp_region_held_drew (S := fun W0 => Below W1.heap.size W1 W0) (by kernel_rfl) (hS2.trans (((Below.refl _ _).drew).mono hS2.size)) (fun gS => ?_)
    refine wpAnyH_take (i := 0) (v := .pointer (some ⟨w.heap.size, 0, none⟩)) rfl (by kernel_rfl) (by kernel_rfl) (by kernel_rfl) (fun _ _ _ h => h) (Or.inl ⟨by simp [Region.wanted], fun W _ => by go_simp⟩) gS ?_
    simp only [List.getElem_toArray, List.getElem_cons_zero, Act.put, List.setIfInBounds_toArray, List.set_cons_zero, List.set_cons_succ]
    refine wpAnyH_take (i := 1) (v := .int .i64 r) rfl (by kernel_rfl) (by kernel_rfl) (by kernel_rfl) (fun _ _ _ h => h) (Or.inl ⟨by simp [Region.wanted], fun W hW => by have h1 := (HX.out W hW).1; go_simp⟩) gS ?_
    simp only [List.getElem_toArray, List.getElem_cons_zero, List.getElem_cons_succ, Act.put, List.setIfInBounds_toArray, List.set_cons_zero, List.set_cons_succ]
    refine wpAnyH_take (i := 4) (v := .string DX) rfl (by kernel_rfl) (by kernel_rfl) (by kernel_rfl) (fun _ _ _ h => h) (Or.inl ⟨by simp [Region.wanted], fun W _ => by go_simp⟩) gS ?_
    simp only [List.getElem_toArray, List.getElem_cons_zero, List.getElem_cons_succ, Act.put, List.setIfInBounds_toArray, List.set_cons_zero, List.set_cons_succ]
    refine wpAnyH_take (i := 7) (v := .pointer (some ⟨w.heap.size, 0, none⟩)) rfl (by kernel_rfl) (by kernel_rfl) (by kernel_rfl) (fun _ _ _ h => h) (Or.inl ⟨by simp [Region.wanted], fun W _ => by go_simp⟩) gS ?_
    simp only [List.getElem_toArray, List.getElem_cons_zero, List.getElem_cons_succ, Act.put, List.setIfInBounds_toArray, List.set_cons_zero, List.set_cons_succ]
    refine wpAnyH_take (i := 8) (v := .int .i64 r) rfl (by kernel_rfl) (by kernel_rfl) (by kernel_rfl) (fun _ _ _ h => h) (Or.inl ⟨by simp [Region.wanted], fun W hW => by have h1 := (HX.out W hW).1; go_simp⟩) gS ?_
    simp only [List.getElem_toArray, List.getElem_cons_zero, List.getElem_cons_succ, Act.put, List.setIfInBounds_toArray, List.set_cons_zero, List.set_cons_succ]
    refine wpAnyH_take (i := 13) (v := .string DY) rfl (by kernel_rfl) (by kernel_rfl) (by kernel_rfl) (fun _ _ _ h => h) (Or.inl ⟨by simp [Region.wanted], fun W _ => by go_simp⟩) gS ?_
    simp only [List.getElem_toArray, List.getElem_cons_zero, List.getElem_cons_succ, Act.put, List.setIfInBounds_toArray, List.set_cons_zero, List.set_cons_succ]
    refine wpAnyH_ready (rs := [2]) (by kernel_rfl) (by simp) ?_
    refine AllReadyH.cons rfl (fun K1 hK1 => ?_) AllReadyH.nil
    refine wanted_go rfl ?_
    simp only [List.getElem_toArray, List.getElem_cons_zero, List.getElem_cons_succ]
    go_wp2_with (go_at_call 10; refine (HNM.out _ gS).mono ?_; rintro e u3 ⟨rfl, hb⟩; have HU3 := Lib.hid hb; clear hb)
    refine hK1.out _ _ ((gS).trans (HU3.out.mono (gS).size)) (fun gS1 => ?_)
    refine wpAnyH_take (i := 3) (v := .string (NM ++ ⟨#[32]⟩)) rfl (by kernel_rfl) (by kernel_rfl) (by kernel_rfl) (fun _ _ _ h => h) (Or.inl ⟨by simp [Region.wanted], fun W _ => by go_simp; omega⟩) gS1 ?_
    simp only [List.getElem_toArray, List.getElem_cons_zero, List.getElem_cons_succ, Act.put, List.setIfInBounds_toArray, List.set_cons_zero, List.set_cons_succ]
    refine wpAnyH_take (i := 5) (v := .string (NM ++ ⟨#[32]⟩ ++ DX)) rfl (by kernel_rfl) (by kernel_rfl) (by kernel_rfl) (fun _ _ _ h => h) (Or.inl ⟨by simp [Region.wanted], fun W _ => by go_simp; omega⟩) gS1 ?_
    simp only [List.getElem_toArray, List.getElem_cons_zero, List.getElem_cons_succ, Act.put, List.setIfInBounds_toArray, List.set_cons_zero, List.set_cons_succ]
    refine wpAnyH_take (i := 6) (v := .string (NM ++ ⟨#[32]⟩ ++ DX ++ ⟨#[32]⟩)) rfl (by kernel_rfl) (by kernel_rfl) (by kernel_rfl) (fun _ _ _ h => h) (Or.inl ⟨by simp [Region.wanted], fun W _ => by go_simp; omega⟩) gS1 ?_
    simp only [List.getElem_toArray, List.getElem_cons_zero, List.getElem_cons_succ, Act.put, List.setIfInBounds_toArray, List.set_cons_zero, List.set_cons_succ]
    refine wpAnyH_ready (rs := [9]) (by kernel_rfl) (by simp) ?_
    refine AllReadyH.cons rfl (fun K2 hK2 => ?_) AllReadyH.nil
    refine wanted_go rfl ?_
    simp only [List.getElem_toArray, List.getElem_cons_zero, List.getElem_cons_succ]
    go_wp2_with (go_at_call 20; refine (HRL.out _ gS1).mono ?_; rintro e u4 ⟨rfl, hb⟩; have HU4 := Lib.hid hb; clear hb)
    refine hK2.out _ _ ((gS1).trans (HU4.out.mono (gS1).size)) (fun gS2 => ?_)
    refine wpAnyH_take (i := 10) (v := .string SG) rfl (by kernel_rfl) (by kernel_rfl) (by kernel_rfl) (fun _ _ _ h => h) (Or.inl ⟨by simp [Region.wanted], fun W hW => by have h1 := fieldR_s SG (.func (.func fR) #[] #[]) W; go_simp⟩) gS2 ?_
    simp only [List.getElem_toArray, List.getElem_cons_zero, List.getElem_cons_succ, Act.put, List.setIfInBounds_toArray, List.set_cons_zero, List.set_cons_succ]
    refine wpAnyH_take (i := 11) (v := .string (NM ++ ⟨#[32]⟩ ++ DX ++ ⟨#[32]⟩ ++ SG)) rfl (by kernel_rfl) (by kernel_rfl) (by kernel_rfl) (fun _ _ _ h => h) (Or.inl ⟨by simp [Region.wanted], fun W _ => by go_simp; omega⟩) gS2 ?_
    simp only [List.getElem_toArray, List.getElem_cons_zero, List.getElem_cons_succ, Act.put, List.setIfInBounds_toArray, List.set_cons_zero, List.set_cons_succ]
    refine wpAnyH_take (i := 12) (v := .string (NM ++ ⟨#[32]⟩ ++ DX ++ ⟨#[32]⟩ ++ SG ++ ⟨#[32]⟩)) rfl (by kernel_rfl) (by kernel_rfl) (by kernel_rfl) (fun _ _ _ h => h) (Or.inl ⟨by simp [Region.wanted], fun W _ => by go_simp; omega⟩) gS2 ?_
    simp only [List.getElem_toArray, List.getElem_cons_zero, List.getElem_cons_succ, Act.put, List.setIfInBounds_toArray, List.set_cons_zero, List.set_cons_succ]
    refine wpAnyH_take (i := 14) (v := .string (NM ++ ⟨#[32]⟩ ++ DX ++ ⟨#[32]⟩ ++ SG ++ ⟨#[32]⟩ ++ DY)) rfl (by kernel_rfl) (by kernel_rfl) (by kernel_rfl) (fun _ _ _ h => h) (Or.inl ⟨by simp [Region.wanted], fun W _ => by go_simp; omega⟩) gS2 ?_
    simp only [List.getElem_toArray, List.getElem_cons_zero, List.getElem_cons_succ, Act.put, List.setIfInBounds_toArray, List.set_cons_zero, List.set_cons_succ]
    refine wpAnyH_take (i := 15) (v := .string (NM ++ ⟨#[32]⟩ ++ DX ++ ⟨#[32]⟩ ++ SG ++ ⟨#[32]⟩ ++ DY)) rfl (by kernel_rfl) (by kernel_rfl) (by kernel_rfl) (fun _ _ _ h => h) (Or.inl ⟨by simp [Region.wanted], fun W _ => by go_simp⟩) gS2 ?_
    simp only [List.getElem_toArray, List.getElem_cons_zero, List.getElem_cons_succ, Act.put, List.setIfInBounds_toArray, List.set_cons_zero, List.set_cons_succ]
    refine wpAnyH_done (by kernel_rfl) ?_ _
    go_wp2
    go_ret
    exact ⟨by rw [HR.out]; rfl, HB.out.trans (gS2.mono HB.out.size)⟩
end Go.Proofs.YtfodnadmabnacaaDoor
