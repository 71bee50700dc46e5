/- The walk of MoneyOrder. -/
import Derived.Test.YtipodikjdgnocaaMoneySumN
import Derived.Test.YtipodikjdgnocaaMoneyAlive
namespace Go.Proofs.Ytipodikjdgnocaa
open Go.RowKit Base

/-- What MoneyOrder's loop holds. -/
structure OrdS (B g h : Nat) (w : World) (x y : Int) (W : World) : Prop where
  s : NumAt W g 39 x
  t : NumAt W h 39 y
  lo : Below B w W
theorem OrdS.drew {B g h : Nat} {w W : World} {x y : Int} (k : OrdS B g h w x y W) : OrdS B g h w x y W.drew :=
  ⟨k.s.below ((Below.refl _ W).drew), k.t.below ((Below.refl _ W).drew), k.lo.trans ⟨rfl, rfl, rfl, Nat.le_refl _, fun _ _ => rfl⟩⟩

set_option maxRecDepth 100000 in
set_option maxHeartbeats 2000000 in
theorem order5 (a : Option Addr) (n cap : Nat) (l : List (Int × Int)) (m r : Int) (w : World) (hl : l.length = n) (hr : TwosAt w a l) (hin : ∀ p ∈ l, In64 p.1 ∧ In64 p.2) (hc : n ≤ cap) (hm : 0 ≤ m ∧ m ≤ 255) (hrt : 0 ≤ r ∧ r ≤ 65535) :
    Calls Try.prog 5 #[.slice a n cap, .int .u8 m, .int .u16 r] w fun e w' => e = .returned (.bool true) ∧ Below w.heap.size w w' := by
  obtain ⟨B, hB⟩ : ∃ B, B = w.heap.size := ⟨_, rfl⟩
  have HB := Lib.hid hB
  have HAL := Lib.hid (fun (W : World) => alive6 W)
  rw [← hB]
  by_cases h60 : n > 60
  · have h6 : (n : Int) > 60 := by omega
    clear hr hin hc hB hl
    go_enter Try.func5, Try.ntmps5
    go_wp2_with (go_at_call 6; refine (HAL.out _).mono ?_; rintro e W1 ⟨rfl, hb1⟩; have HB1 := Lib.hid hb1; clear hb1)
    go_ret
    exact ⟨rfl, by rw [HB.out]; exact HB1.out⟩
  have HR := Lib.hid hr; have HIN := Lib.hid hin; have HL := Lib.hid hl
  have h6 : ¬ (n : Int) > 60 := by omega
  clear hr hin hl hB
  go_enter Try.func5, Try.ntmps5
  go_upto_region 5 with (go_at_call 6; refine (HAL.out _).mono ?_; rintro e W1 ⟨rfl, hb1⟩; have HB1 := Lib.hid hb1; clear hb1)
  go_upto_region 6 with (fail)
  have hs1 : B ≤ W1.heap.size := by rw [HB.out]; exact HB1.out.size
  have hO : OrdS B W1.heap.size (W1.heap.size + 1) w 0 0 ((W1.alloc (.cells #[.int .u64 0, .int .u64 0, .int .u64 0] 39)).alloc (.cells #[.int .u64 0, .int .u64 0, .int .u64 0] 39)) := by
    have k1 := num_new W1
    have k2 := num_new (W1.alloc (.cells #[.int .u64 0, .int .u64 0, .int .u64 0] 39))
    rw [show (W1.alloc (.cells #[.int .u64 0, .int .u64 0, .int .u64 0] 39)).heap.size = W1.heap.size + 1 by simp] at k2
    refine ⟨k1.below ((Below.refl _ _).alloc (Nat.le_refl _) _), k2, ?_⟩
    have kb : Below B w W1 := by rw [HB.out]; exact HB1.out
    exact (kb.alloc hs1 _).alloc (by simp; omega) _
  generalize W1.heap.size = g at *
  have HBG := Lib.hid hs1
  refine at_world (Φ := fun W => OrdS B g (g + 1) w 0 0 W) hO ?_
  clear hO hs1 HB1 HAL
  rintro W2 hO2
  have HO2 := Lib.hid hO2
  clear hO2
  obtain ⟨m', hm'⟩ : ∃ m' : Nat, m = (m' : Int) := ⟨m.toNat, by omega⟩
  subst hm'
  go_upto_region 7 with (fail)
  go_loopw [9] (fun vi W => ∃ (i : Nat), i ≤ n ∧ vi = .int .i64 (i : Int) ∧ OrdS B g (g + 1) w (sumN (prd l) i) (sumN (fun j => prd l ((j + m') % n)) i) W) (fun vi _ => n - (intOf vi).toNat)
  case atStart => exact ⟨0, by omega, rfl, HO2.out⟩
  case round =>
    obtain ⟨i, hi, rfl, hO⟩ := hrel
    by_cases hlt : (i : Int) < (n : Int)
    · have hlen : 1 ≤ l.length := by rw [HL.out]; omega
      obtain ⟨b0, off, rfl, hb0, hcells⟩ := HR.out.cells hlen
      obtain ⟨k, hk⟩ : ∃ k, (i + m') % n = k := ⟨_, rfl⟩
      have hkn : k < n := by rw [← hk]; exact Nat.mod_lt _ (by omega)
      have hn0 : ((n : Int) == 0) = false := by simp; omega
      have ek1 : ((i : Int) + (m' : Int)).tmod (n : Int) = (k : Int) := by rw [Int.tmod_eq_emod_of_nonneg (by omega), ← hk, Int.natCast_emod, Int.natCast_add]
      have ek2 : ((i : Int) + (m' : Int)) % (n : Int) = (k : Int) := by rw [← hk, Int.natCast_emod, Int.natCast_add]
      have hci := hcells i (by rw [HL.out]; omega)
      have hck := hcells k (by rw [HL.out]; omega)
      have inI := HIN.out (l.getD i (0, 0)) (by rw [List.getD_eq_getElem?_getD, List.getElem?_eq_getElem (by rw [HL.out]; omega)]; exact List.getElem_mem _)
      have inK := HIN.out (l.getD k (0, 0)) (by rw [List.getD_eq_getElem?_getD, List.getElem?_eq_getElem (by rw [HL.out]; omega)]; exact List.getElem_mem _)
      have HX1 := Lib.hid (show sumN (prd l) i + (l.getD i (0, 0)).1 * (l.getD i (0, 0)).2 = sumN (prd l) (i + 1) from rfl)
      have HY1 := Lib.hid (show sumN (fun j => prd l ((j + m') % n)) i + (l.getD k (0, 0)).2 * (l.getD k (0, 0)).1 = sumN (fun j => prd l ((j + m') % n)) (i + 1) by simp only [sumN]; rw [hk, Int.mul_comm]; rfl)
      have bx : In192 (sumN (prd l) (i + 1)) := by have h : (sumN (prd l) (i + 1)).natAbs ≤ 5104235503814076951950619111476523171840 := sum_range (f := fun j => j) HIN.out (by omega); unfold In192; omega
      have bY : In192 (sumN (fun j => prd l ((j + m') % n)) (i + 1)) := by have := sum_range (f := fun j => (j + m') % n) HIN.out (n := i + 1) (by omega); unfold In192; omega
      have HC0 := Lib.hid (fun (W : World) (h : Below B w W) => show W.cell? ⟨b0, off + i * 2, none⟩ = some (.int .i64 (l.getD i (0, 0)).1) from (h.cell (by rw [HB.out]; exact hb0)).trans hci.1)
      have HC1 := Lib.hid (fun (W : World) (h : Below B w W) => show W.cell? ⟨b0, off + i * 2 + 1, none⟩ = some (.int .i64 (l.getD i (0, 0)).2) from (h.cell (by rw [HB.out]; exact hb0)).trans hci.2)
      have HK0 := Lib.hid (fun (W : World) (h : Below B w W) => show W.cell? ⟨b0, off + k * 2, none⟩ = some (.int .i64 (l.getD k (0, 0)).1) from (h.cell (by rw [HB.out]; exact hb0)).trans hck.1)
      have HK1 := Lib.hid (fun (W : World) (h : Below B w W) => show W.cell? ⟨b0, off + k * 2 + 1, none⟩ = some (.int .i64 (l.getD k (0, 0)).2) from (h.cell (by rw [HB.out]; exact hb0)).trans hck.2)
      generalize l.getD i (0, 0) = pi at *
      generalize l.getD k (0, 0) = pk at *
      obtain ⟨A, C⟩ := pi
      obtain ⟨D, E⟩ := pk
      simp only at HX1 HY1 inI inK HC0 HC1 HK0 HK1
      have HADD1 := Lib.hid (fun (W : World) (h : NumAt W g 39 (sumN (prd l) i)) => addMul17 g (sumN (prd l) i) A C W h inI.1 inI.2 (by rw [HX1.out]; exact bx))
      have HADD2 := Lib.hid (fun (W : World) (h : NumAt W (g + 1) 39 (sumN (fun j => prd l ((j + m') % n)) i)) => addMul17 (g + 1) (sumN (fun j => prd l ((j + m') % n)) i) E D W h inK.2 inK.1 (by rw [HY1.out]; exact bY))
      rw [HX1.out] at HADD1
      rw [HY1.out] at HADD2
      have HO := Lib.hid hO
      have HKN := Lib.hid hkn
      obtain ⟨x1, hx1⟩ : ∃ x, sumN (prd l) (i + 1) = x := ⟨_, rfl⟩
      obtain ⟨y1, hy1⟩ : ∃ x, sumN (fun j => prd l ((j + m') % n)) (i + 1) = x := ⟨_, rfl⟩
      rw [hx1] at HADD1; rw [hy1] at HADD2
      have HX := Lib.hid hx1; have HY := Lib.hid hy1
      obtain ⟨x0, hx0⟩ : ∃ x, sumN (prd l) i = x := ⟨_, rfl⟩
      obtain ⟨y0, hy0⟩ : ∃ x, sumN (fun j => prd l ((j + m') % n)) i = x := ⟨_, rfl⟩
      rw [hx0] at HADD1 HO; rw [hy0] at HADD2 HO
      clear hx1 hy1 hx0 hy0 hO hci hck hcells inI inK bx bY HX1 HY1 hk hkn HR hb0 hlen
      have HD := Lib.hid HO.out.drew
      go_upto_region 9 with (fail)
      have HBL := Lib.hid HD.out.lo
      refine wp_region_held_drew (S := fun W => Below B w W) (by kernel_rfl) (HBL.out) (fun hS => ?_)
      refine wpAnyH_take (i := 0) (v := .slice (some ⟨b0, off, none⟩) n cap) rfl (by kernel_rfl) (by kernel_rfl) (by kernel_rfl) (fun _ _ _ h => h) (Or.inl ⟨by simp [Region.wanted], fun W _ => by go_simp⟩) hS ?_
      simp only [List.getElem_toArray, List.getElem_cons_zero, Act.put, List.setIfInBounds_toArray, List.set_cons_zero, List.set_cons_succ]
      refine wpAnyH_take (i := 1) (v := .int .i64 (i : Int)) rfl (by kernel_rfl) (by kernel_rfl) (by kernel_rfl) (fun _ _ _ h => h) (Or.inl ⟨by simp [Region.wanted], fun W _ => by go_simp⟩) hS ?_
      simp only [List.getElem_toArray, List.getElem_cons_zero, List.getElem_cons_succ, Act.put, List.setIfInBounds_toArray, List.set_cons_zero, List.set_cons_succ]
      refine wpAnyH_take (i := 2) (v := .pointer (some ⟨b0, off + i * 2, none⟩)) rfl (by kernel_rfl) (by kernel_rfl) (by kernel_rfl) (fun _ _ _ h => h) (Or.inl ⟨by simp [Region.wanted], fun W _ => by go_simp⟩) hS ?_
      simp only [List.getElem_toArray, List.getElem_cons_zero, List.getElem_cons_succ, Act.put, List.setIfInBounds_toArray, List.set_cons_zero, List.set_cons_succ]
      refine wpAnyH_take (i := 3) (v := .pointer (some ⟨b0, off + i * 2, none⟩)) rfl (by kernel_rfl) (by kernel_rfl) (by kernel_rfl) (fun _ _ _ h => h) (Or.inl ⟨by simp [Region.wanted], fun W _ => by go_simp⟩) hS ?_
      simp only [List.getElem_toArray, List.getElem_cons_zero, List.getElem_cons_succ, Act.put, List.setIfInBounds_toArray, List.set_cons_zero, List.set_cons_succ]
      refine wpAnyH_take (i := 5) (v := .slice (some ⟨b0, off, none⟩) n cap) rfl (by kernel_rfl) (by kernel_rfl) (by kernel_rfl) (fun _ _ _ h => h) (Or.inl ⟨by simp [Region.wanted], fun W _ => by go_simp⟩) hS ?_
      simp only [List.getElem_toArray, List.getElem_cons_zero, List.getElem_cons_succ, Act.put, List.setIfInBounds_toArray, List.set_cons_zero, List.set_cons_succ]
      refine wpAnyH_take (i := 6) (v := .int .i64 (i : Int)) rfl (by kernel_rfl) (by kernel_rfl) (by kernel_rfl) (fun _ _ _ h => h) (Or.inl ⟨by simp [Region.wanted], fun W _ => by go_simp⟩) hS ?_
      simp only [List.getElem_toArray, List.getElem_cons_zero, List.getElem_cons_succ, Act.put, List.setIfInBounds_toArray, List.set_cons_zero, List.set_cons_succ]
      refine wpAnyH_take (i := 7) (v := .pointer (some ⟨b0, off + i * 2, none⟩)) rfl (by kernel_rfl) (by kernel_rfl) (by kernel_rfl) (fun _ _ _ h => h) (Or.inl ⟨by simp [Region.wanted], fun W _ => by go_simp⟩) hS ?_
      simp only [List.getElem_toArray, List.getElem_cons_zero, List.getElem_cons_succ, Act.put, List.setIfInBounds_toArray, List.set_cons_zero, List.set_cons_succ]
      refine wpAnyH_take (i := 8) (v := .pointer (some ⟨b0, off + i * 2 + 1, none⟩)) rfl (by kernel_rfl) (by kernel_rfl) (by kernel_rfl) (fun _ _ _ h => h) (Or.inl ⟨by simp [Region.wanted], fun W _ => by go_simp⟩) hS ?_
      simp only [List.getElem_toArray, List.getElem_cons_zero, List.getElem_cons_succ, Act.put, List.setIfInBounds_toArray, List.set_cons_zero, List.set_cons_succ]
      refine wpAnyH_take (i := 4) (v := .int .i64 A) rfl (by kernel_rfl) (by kernel_rfl) (by kernel_rfl) (fun _ _ _ h => h) (Or.inl ⟨by simp [Region.wanted], fun W hW => by have h1 := HC0.out W hW; go_simp⟩) hS ?_
      simp only [List.getElem_toArray, List.getElem_cons_zero, List.getElem_cons_succ, Act.put, List.setIfInBounds_toArray, List.set_cons_zero, List.set_cons_succ]
      refine wpAnyH_take (i := 9) (v := .int .i64 C) rfl (by kernel_rfl) (by kernel_rfl) (by kernel_rfl) (fun _ _ _ h => h) (Or.inl ⟨by simp [Region.wanted], fun W hW => by have h1 := HC1.out W hW; go_simp⟩) hS ?_
      simp only [List.getElem_toArray, List.getElem_cons_zero, List.getElem_cons_succ, Act.put, List.setIfInBounds_toArray, List.set_cons_zero, List.set_cons_succ]
      refine wpAnyH_ready (rs := [10]) (by kernel_rfl) (by simp) ?_
      refine AllReadyH.cons rfl (fun K1 hK1 => ?_) AllReadyH.nil
      refine wanted_go rfl ?_
      simp only [List.getElem_toArray, List.getElem_cons_zero, List.getElem_cons_succ]
      go_wp2_with (go_at_call 17; refine (HADD1.out _ HD.out.s).mono ?_; rintro e W5 ⟨rfl, hn1, hg1⟩; have HO5 := Lib.hid (show OrdS B g (g + 1) w x1 y0 W5 from ⟨hn1, HD.out.t.grown hg1 (by omega), below_grownB HD.out.lo hg1 (by rw [HB.out]; exact Nat.le_refl _) HBG.out⟩); clear hn1 hg1)
      refine hK1.out _ _ (HO5.out.lo) (fun hS1 => ?_)
      refine wpAnyH_done (by kernel_rfl) ?_ _
      clear HD HBL HADD1 HC0 HC1
      go_upto_region 11 with (fail)
      have HD6 := Lib.hid HO5.out.drew
      have HBL := Lib.hid HD6.out.lo
      have hkI : (k : Int) < (n : Int) := by have := HKN.out; omega
      refine wp_region_held_drew (S := fun W => Below B w W) (by kernel_rfl) (HBL.out) (fun hS => ?_)
      refine wpAnyH_take (i := 0) (v := .slice (some ⟨b0, off, none⟩) n cap) rfl (by kernel_rfl) (by kernel_rfl) (by kernel_rfl) (fun _ _ _ h => h) (Or.inl ⟨by simp [Region.wanted], fun W _ => by go_simp⟩) hS ?_
      simp only [List.getElem_toArray, List.getElem_cons_zero, Act.put, List.setIfInBounds_toArray, List.set_cons_zero, List.set_cons_succ]
      refine wpAnyH_take (i := 1) (v := .int .i64 (k : Int)) rfl (by kernel_rfl) (by kernel_rfl) (by kernel_rfl) (fun _ _ _ h => h) (Or.inl ⟨by simp [Region.wanted], fun W _ => by go_simp⟩) hS ?_
      simp only [List.getElem_toArray, List.getElem_cons_zero, List.getElem_cons_succ, Act.put, List.setIfInBounds_toArray, List.set_cons_zero, List.set_cons_succ]
      refine wpAnyH_take (i := 2) (v := .pointer (some ⟨b0, off + k * 2, none⟩)) rfl (by kernel_rfl) (by kernel_rfl) (by kernel_rfl) (fun _ _ _ h => h) (Or.inl ⟨by simp [Region.wanted], fun W _ => by go_simp⟩) hS ?_
      simp only [List.getElem_toArray, List.getElem_cons_zero, List.getElem_cons_succ, Act.put, List.setIfInBounds_toArray, List.set_cons_zero, List.set_cons_succ]
      refine wpAnyH_take (i := 3) (v := .pointer (some ⟨b0, off + k * 2 + 1, none⟩)) rfl (by kernel_rfl) (by kernel_rfl) (by kernel_rfl) (fun _ _ _ h => h) (Or.inl ⟨by simp [Region.wanted], fun W _ => by go_simp⟩) hS ?_
      simp only [List.getElem_toArray, List.getElem_cons_zero, List.getElem_cons_succ, Act.put, List.setIfInBounds_toArray, List.set_cons_zero, List.set_cons_succ]
      refine wpAnyH_take (i := 5) (v := .slice (some ⟨b0, off, none⟩) n cap) rfl (by kernel_rfl) (by kernel_rfl) (by kernel_rfl) (fun _ _ _ h => h) (Or.inl ⟨by simp [Region.wanted], fun W _ => by go_simp⟩) hS ?_
      simp only [List.getElem_toArray, List.getElem_cons_zero, List.getElem_cons_succ, Act.put, List.setIfInBounds_toArray, List.set_cons_zero, List.set_cons_succ]
      refine wpAnyH_take (i := 6) (v := .int .i64 (k : Int)) rfl (by kernel_rfl) (by kernel_rfl) (by kernel_rfl) (fun _ _ _ h => h) (Or.inl ⟨by simp [Region.wanted], fun W _ => by go_simp⟩) hS ?_
      simp only [List.getElem_toArray, List.getElem_cons_zero, List.getElem_cons_succ, Act.put, List.setIfInBounds_toArray, List.set_cons_zero, List.set_cons_succ]
      refine wpAnyH_take (i := 7) (v := .pointer (some ⟨b0, off + k * 2, none⟩)) rfl (by kernel_rfl) (by kernel_rfl) (by kernel_rfl) (fun _ _ _ h => h) (Or.inl ⟨by simp [Region.wanted], fun W _ => by go_simp⟩) hS ?_
      simp only [List.getElem_toArray, List.getElem_cons_zero, List.getElem_cons_succ, Act.put, List.setIfInBounds_toArray, List.set_cons_zero, List.set_cons_succ]
      refine wpAnyH_take (i := 8) (v := .pointer (some ⟨b0, off + k * 2, none⟩)) rfl (by kernel_rfl) (by kernel_rfl) (by kernel_rfl) (fun _ _ _ h => h) (Or.inl ⟨by simp [Region.wanted], fun W _ => by go_simp⟩) hS ?_
      simp only [List.getElem_toArray, List.getElem_cons_zero, List.getElem_cons_succ, Act.put, List.setIfInBounds_toArray, List.set_cons_zero, List.set_cons_succ]
      refine wpAnyH_take (i := 4) (v := .int .i64 E) rfl (by kernel_rfl) (by kernel_rfl) (by kernel_rfl) (fun _ _ _ h => h) (Or.inl ⟨by simp [Region.wanted], fun W hW => by have h1 := HK1.out W hW; go_simp⟩) hS ?_
      simp only [List.getElem_toArray, List.getElem_cons_zero, List.getElem_cons_succ, Act.put, List.setIfInBounds_toArray, List.set_cons_zero, List.set_cons_succ]
      refine wpAnyH_take (i := 9) (v := .int .i64 D) rfl (by kernel_rfl) (by kernel_rfl) (by kernel_rfl) (fun _ _ _ h => h) (Or.inl ⟨by simp [Region.wanted], fun W hW => by have h1 := HK0.out W hW; go_simp⟩) hS ?_
      simp only [List.getElem_toArray, List.getElem_cons_zero, List.getElem_cons_succ, Act.put, List.setIfInBounds_toArray, List.set_cons_zero, List.set_cons_succ]
      refine wpAnyH_ready (rs := [10]) (by kernel_rfl) (by simp) ?_
      refine AllReadyH.cons rfl (fun K1 hK1 => ?_) AllReadyH.nil
      refine wanted_go rfl ?_
      simp only [List.getElem_toArray, List.getElem_cons_zero, List.getElem_cons_succ]
      go_wp2_with (go_at_call 17; refine (HADD2.out _ HD6.out.t).mono ?_; rintro e W7 ⟨rfl, hn1, hg1⟩; have HO7 := Lib.hid (show OrdS B g (g + 1) w x1 y1 W7 from ⟨HD6.out.s.grown hg1 (by omega), hn1, below_grownB HD6.out.lo hg1 (by rw [HB.out]; exact Nat.le_refl _) (by have := HBG.out; omega)⟩); clear hn1 hg1)
      refine hK1.out _ _ (HO7.out.lo) (fun hS1 => ?_)
      refine wpAnyH_done (by kernel_rfl) ?_ _
      go_wp2
      go_roundw
      case rel => exact ⟨i + 1, by omega, by go_num, by rw [HX.out, HY.out]; exact HO7.out⟩
      case measure => simp [intOf] <;> omega
    · have hin' : i = n := by omega
      subst hin'
      have hxy : sumN (fun j => prd l ((j + m') % i)) i = sumN (prd l) i := by
        rcases Nat.eq_zero_or_pos i with h | h
        · subst h; rfl
        · exact sumN_turn (prd l) i m' h
      rw [hxy] at hO
      have bx : (sumN (prd l) i).natAbs ≤ 5104235503814076951950619111476523171840 := sum_range (f := fun j => j) HIN.out (by omega)
      obtain ⟨q, hq⟩ : ∃ q, r % 1001 = q := ⟨_, rfl⟩
      have hq1 : r.tmod 1001 = q := by rw [Int.tmod_eq_emod_of_nonneg (by omega)]; exact hq
      have HT := Lib.hid (fun (k : Nat) (W : World) (h : NumAt W k 39 (sumN (prd l) i)) => total18 k _ W h)
      have HSH := Lib.hid (fun (k : Nat) (W : World) (h : NumAt W k 39 (sumN (prd l) i)) => share19 k _ q W h (by unfold In64'; omega) (fun _ _ _ => share_in bx (by omega)))
      generalize sumN (prd l) i = x at *
      generalize fitV x = fv at *
      generalize fitB x = fb at *
      generalize (if mayB x q = true then fitV (shr x q) else 0) = sv at *
      generalize (mayB x q && fitB (shr x q)) = sb at *
      have HO := Lib.hid hO
      clear hO hxy bx HR HIN HL
      go_upto_region 13 with (go_at_call 18; refine (HT.out _ _ HO.out.s).mono ?_; rintro e V1 ⟨rfl, rfl⟩)
      go_upto_region 14 with (go_at_call 18; refine (HT.out _ _ HO.out.t).mono ?_; rintro e V2 ⟨rfl, rfl⟩)
      go_upto_region 15 with (go_at_call 19; refine (HSH.out _ _ HO.out.s).mono ?_; rintro e V3 ⟨rfl, hb3⟩; have HT3 := Lib.hid (HO.out.t.below hb3); have HB3 := Lib.hid (bB HB.out HO.out.lo hb3); clear hb3)
      go_wp2_with (go_at_call 19; refine (HSH.out _ _ HT3.out).mono ?_; rintro e V4 ⟨rfl, hb4⟩; have HB4 := Lib.hid (bB HB.out HB3.out hb4); clear hb4)
      go_ret
      exact ⟨rfl, HB4.out⟩
end Go.Proofs.Ytipodikjdgnocaa
