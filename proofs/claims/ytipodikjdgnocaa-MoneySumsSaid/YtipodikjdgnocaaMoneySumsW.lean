/- The walk of MoneySums. -/
import Derived.Test.YtipodikjdgnocaaMoneySumN
import Derived.Test.YtipodikjdgnocaaMoneyTwoW
namespace Go.Proofs.Ytipodikjdgnocaa
open Go.RowKit Base

/-- What MoneySums' variables hold: the program's sum is z1, the document's z0. -/
structure MidS (B g h : Nat) (w : World) (x : Bool) (u : Value) (z0 z1 : Int) (W : World) : Prop where
  s : NumAt W g 39 z1
  bx : BoxAt W h x u
  big : BigIs W (.agg #[.bool x, u]) z0
  lo : Below B w W
  le : B ≤ W.heap.size
theorem MidS.below {B g h : Nat} {w : World} {x : Bool} {u : Value} {z0 z1 : Int} {W W' : World} (s : MidS B g h w x u z0 z1 W) (hb : Below W.heap.size W W') : MidS B g h w x u z0 z1 W' :=
  ⟨s.s.below hb, s.bx.below hb, s.big.below hb, s.lo.trans (hb.mono s.le), Nat.le_trans s.le hb.size⟩
theorem DigsAt.num {W W' : World} {a : Option Addr} {l : List Nat} {g : Nat} {A B C : Int} {T : Nat} (h : DigsAt W a l) (hn : W.heap[g]? = Option.some (Obj.cells (NumC A B C) T (0, 0))) (hg : W.grownBy W' (Option.some g)) : DigsAt W' a l := by
  rcases h with h | ⟨b, off, rfl, h1, h2⟩
  · exact .inl h
  · by_cases e : l = []
    · exact .inl e
    · refine .inr ⟨b, off, rfl, Nat.lt_of_lt_of_le h1 hg.size, fun i d hi => ?_⟩
      have hne : b ≠ g := by
        rintro rfl
        obtain ⟨d0, hd0⟩ : ∃ d, l[0]? = Option.some d := by cases l with | nil => exact absurd rfl e | cons y l => exact ⟨y, rfl⟩
        have k := h2 0 d0 hd0
        rw [cell_of_row W b _ _ T (0, 0) hn] at k
        rcases Nat.lt_or_ge (off + 0) 3 with hlt | hge
        · have : off = 0 ∨ off = 1 ∨ off = 2 := by omega
          rcases this with rfl | rfl | rfl <;> simp [NumC] at k
        · rw [Array.getElem?_eq_none (by simpa [NumC] using hge)] at k; cases k
      have hb := hg.block b h1 (by simpa using hne)
      rw [← h2 i d hi]
      simp only [World.cell?, hb]
theorem BigIs.num {W W' : World} {v : Value} {z : Int} {g T : Nat} {y : Int} (h : BigIs W v z) (hn : NumAt W g T y) (hg : W.grownBy W' (some g)) : BigIs W' v z := by
  obtain ⟨neg, a, l, cap, h1, h2, h3⟩ := h
  obtain ⟨A, B, C, _, hc⟩ := hn
  exact ⟨neg, a, l, cap, h1, h2.num hc hg, h3⟩
/-- Behind a call that added to the sum. -/
theorem MidS.moved {B g h : Nat} {w : World} {x : Bool} {u : Value} {z0 z1 z2 : Int} {W W' : World} (s : MidS B g h w x u z0 z1 W) (hn : NumAt W' g 39 z2) (hg : W.grownBy W' (some g)) (hB : B ≤ w.heap.size) (hBg : B ≤ g) (hgh : h = g + 1) : MidS B g h w x u z0 z2 W' :=
  ⟨hn, (hg.block h (lt_of_block s.bx) (by simp; omega)).trans s.bx, s.big.num s.s hg, below_grownB s.lo hg hB hBg, Nat.le_trans s.le hg.size⟩
/-- Behind the store of a great number. -/
theorem MidS.stored {B g h : Nat} {w : World} {x x' : Bool} {a : Option Addr} {k c : Nat} {a' : Option Addr} {k' c' : Nat} {z0 z1 z2 : Int} {W : World} (s : MidS B g h w x (.slice a k c) z0 z1 W) (hb : BigIs W (.agg #[.bool x', .slice a' k' c']) z2) (hgh : h = g + 1) (hBh : B ≤ h) :
    MidS B g h w x' (.slice a' k' c') z2 z1 ((W.setCell ⟨h, 0, none⟩ (.bool x')).setCell ⟨h, 1, none⟩ (.slice a' k' c')) := by
  obtain ⟨A, C, D, h1, h2⟩ := s.s
  refine ⟨⟨A, C, D, h1, ?_⟩, (s.bx.set0 x').set1 _, ?_, (s.lo.setCell (p := ⟨h, 0, none⟩) hBh _).setCell (p := ⟨h, 1, none⟩) hBh _, ?_⟩
  · rw [heap_setCell_ne _ (by omega), heap_setCell_ne _ (by omega)]; exact h2
  · exact (hb.boxCell s.bx (i := 0) (.bool x')).boxCell (s.bx.set0 x') (i := 1) (.slice a' k' c')
  · have := s.le; simpa [World.setCell] using this
theorem BigIs.sign {W : World} {x : Bool} {u : Value} {z : Int} (h : BigIs W (.agg #[.bool x, u]) z) : x = decide (z < 0) := by
  obtain ⟨neg, a, l, cap, h1, h2, h3, h4, h5, h6, h7⟩ := h
  simp only [Value.agg.injEq, Array.mk.injEq, List.cons.injEq, Value.bool.injEq, and_true] at h1
  obtain ⟨rfl, rfl⟩ := h1
  rw [h7]
  cases x
  · rw [sgn_false]; exact (decide_eq_false (by omega)).symm
  · rw [sgn_true]
    have hv : valD l ≠ 0 := fun e => h6 rfl (topD_zero h5 e)
    exact (decide_eq_true (by omega)).symm
theorem BigIs.nought (W : World) : BigIs W (.agg #[.bool false, .slice none 0 0]) 0 := ⟨false, none, [], 0, rfl, .inl rfl, Nat.le_refl _, digsD_nil, topD_nil, (fun h => by cases h), rfl⟩
theorem pow100' {z : Int} (h : z.natAbs ≤ 5104235503814076951950619111476523171840000) : z.natAbs < 10000 ^ 100 := by
  have : (10000 : Nat) ^ 12 ≤ 10000 ^ 100 := Nat.pow_le_pow_right (by omega) (by omega)
  have e : (10000 : Nat) ^ 12 = 1000000000000000000000000000000000000000000000000 := by decide
  omega

set_option maxRecDepth 100000 in
set_option maxHeartbeats 4000000 in
theorem sums4 (a : Option Addr) (n cap : Nat) (l : List (Int × Int)) (r : Int) (w : World) (hl : l.length = n) (hr : TwosAt w a l) (hin : ∀ p ∈ l, In64 p.1 ∧ In64 p.2) (_hc : n ≤ cap) (hrt : In64' r) :
    Calls Try.prog 4 #[.slice a n cap, .int .i64 r] w fun e w' => e = .returned (.bool true) ∧ Below w.heap.size w w' := by
  obtain ⟨B, hB⟩ : ∃ B, B = w.heap.size := ⟨_, rfl⟩
  have HB := Lib.hid hB
  have HAL := Lib.hid (fun (W : World) => alive6 W)
  rw [← hB]
  by_cases h60 : n > 60
  · have h6 : (n : Int) > 60 := by omega
    clear hr hin _hc hB hl hrt
    go_enter Try.func4, Try.ntmps4
    go_wp2_with (go_at_call 6; refine (HAL.out _).mono ?_; rintro e W1 ⟨rfl, hb1⟩; have HB1 := Lib.hid hb1; clear hb1)
    go_ret
    exact ⟨rfl, by rw [HB.out]; exact HB1.out⟩
  have HR := Lib.hid hr; have HIN := Lib.hid hin; have HL := Lib.hid hl; have HRT := Lib.hid hrt
  have h6 : ¬ (n : Int) > 60 := by omega
  clear hr hin hl hB hrt
  go_enter Try.func4, Try.ntmps4
  go_upto_region 5 with (go_at_call 6; refine (HAL.out _).mono ?_; rintro e W1 ⟨rfl, hb1⟩; have HB1 := Lib.hid hb1; clear hb1)
  go_upto_region 7 with (fail)
  have hs1 : B ≤ W1.heap.size := by rw [HB.out]; exact HB1.out.size
  have hO : MidS B W1.heap.size (W1.heap.size + 1) w false (.slice none 0 0) 0 0 ((W1.alloc (.cells #[.int .u64 0, .int .u64 0, .int .u64 0] 39)).alloc (.cells #[.bool false, .slice none 0 0] 25)) := by
    have k1 := num_new W1
    have k2 := BoxAt.new (W1.alloc (.cells #[.int .u64 0, .int .u64 0, .int .u64 0] 39)) false (.slice none 0 0)
    rw [show (W1.alloc (.cells #[.int .u64 0, .int .u64 0, .int .u64 0] 39)).heap.size = W1.heap.size + 1 by simp] at k2
    refine ⟨k1.below ((Below.refl _ _).alloc (Nat.le_refl _) _), k2, BigIs.nought _, ?_, by simp; omega⟩
    have kb : Below B w W1 := by rw [HB.out]; exact HB1.out
    exact (kb.alloc hs1 _).alloc (by simp; omega) _
  obtain ⟨h, hh⟩ : ∃ h, h = W1.heap.size + 1 := ⟨_, rfl⟩
  rw [← hh] at hO ⊢
  generalize W1.heap.size = g at *
  have HBG := Lib.hid hs1; have HGH := Lib.hid hh; have HBH := Lib.hid (show B ≤ h by omega)
  refine at_world (Φ := fun W => MidS B g h w false (.slice none 0 0) 0 0 W) hO ?_
  clear hO hs1 hh HB1 HAL
  rintro W2 hO2
  have HO2 := Lib.hid hO2
  clear hO2
  go_upto_region 8 with (fail)
  go_loopw [7] (fun vi W => ∃ (i : Nat) (x : Bool) (p : Option Addr) (k c : Nat), i ≤ n ∧ vi = .int .i64 (i : Int) ∧ MidS B g h w x (.slice p k c) (sumN (prd l) i) (sumN (prd l) i) W) (fun vi _ => n - (intOf vi).toNat)
  case atStart => exact ⟨0, false, none, 0, 0, by omega, rfl, HO2.out⟩
  case round =>
    clear HO2
    obtain ⟨i, x, p, k, c, hi, rfl, hO⟩ := hrel
    by_cases hlt : (i : Int) < (n : Int)
    · have hlen : 1 ≤ l.length := by rw [HL.out]; omega
      obtain ⟨b0, off, rfl, hb0, hcells⟩ := HR.out.cells hlen
      have hci := hcells i (by rw [HL.out]; omega)
      have inI := HIN.out (l.getD i (0, 0)) (by rw [List.getD_eq_getElem?_getD, List.getElem?_eq_getElem (by rw [HL.out]; omega)]; exact List.getElem_mem _)
      have HX1 := Lib.hid (show sumN (prd l) i + (l.getD i (0, 0)).1 * (l.getD i (0, 0)).2 = sumN (prd l) (i + 1) from rfl)
      have bz0 : (sumN (prd l) i).natAbs ≤ 5104235503814076951950619111476523171840 := sum_range (f := fun j => j) HIN.out (by omega)
      have bz1 : (sumN (prd l) (i + 1)).natAbs ≤ 5104235503814076951950619111476523171840 := sum_range (f := fun j => j) HIN.out (by omega)
      have HC0 := Lib.hid (fun (W : World) (h : Below B w W) => show W.cell? ⟨b0, off + i * 2, none⟩ = some (.int .i64 (l.getD i (0, 0)).1) from (h.cell (by rw [HB.out]; exact hb0)).trans hci.1)
      have HC1 := Lib.hid (fun (W : World) (h : Below B w W) => show W.cell? ⟨b0, off + i * 2 + 1, none⟩ = some (.int .i64 (l.getD i (0, 0)).2) from (h.cell (by rw [HB.out]; exact hb0)).trans hci.2)
      generalize l.getD i (0, 0) = pi at *
      obtain ⟨A, C⟩ := pi
      simp only at HX1 inI HC0 HC1
      obtain ⟨z0, hz0⟩ : ∃ z, sumN (prd l) i = z := ⟨_, rfl⟩
      obtain ⟨z1, hz1⟩ : ∃ z, sumN (prd l) (i + 1) = z := ⟨_, rfl⟩
      rw [hz0] at HX1 bz0 hO; rw [hz1] at HX1 bz1
      have HZ1 := Lib.hid hz1
      have b192 : In192 z1 := by unfold In192; omega
      have HADD := Lib.hid (fun (W : World) (h : NumAt W g 39 z0) => addMul17 g z0 A C W h inI.1 inI.2 (by rw [HX1.out]; exact b192))
      have HADD1 := Lib.hid (fun (h1 : C = 1) (W : World) (h : NumAt W g 39 z0) => add16 g z0 A W h inI.1 (by rw [h1, Int.mul_one] at HX1; rw [HX1.out]; exact b192))
      have HX2 := Lib.hid (fun (h1 : C = 1) => show z0 + A = z1 by rw [h1, Int.mul_one] at HX1; exact HX1.out)
      rw [HX1.out] at HADD
      have HOA := Lib.hid (fun (W : World) => of7 A W inI.1.1 inI.1.2)
      have HOC := Lib.hid (fun (W : World) => of7 C W inI.2.1 inI.2.2)
      have pb := prod_bound inI.1 inI.2
      have HMU := Lib.hid (fun (v1 v2 : Value) (W : World) (h1 : BigIs W v1 A) (h2 : BigIs W v2 C) => mul15 v1 v2 A C W h1 h2 (pow100 (by have := inI.1; unfold In64 at this; omega)) (pow100 (by have := inI.2; unfold In64 at this; omega)))
      have HAD := Lib.hid (fun (v1 v2 : Value) (W : World) (h1 : BigIs W v1 z0) (h2 : BigIs W v2 (A * C)) => add13 v1 v2 z0 (A * C) W h1 h2 (pow100' (by omega)) (pow100 pb))
      rw [HX1.out] at HAD
      generalize A * C = AC at *
      have HS12 := Lib.hid (fun (v : Value) (W : World) (h : BigIs W v z1) => same12 v z1 W h (pow100' (by omega)))
      have HTO := Lib.hid (fun (W : World) (h : NumAt W g 39 z1) => total18 g z1 W h)
      have HSH := Lib.hid (fun (W : World) (h : NumAt W g 39 z1) => share19 g z1 r W h HRT.out (fun _ _ _ => share_in bz1 (by omega)))
      have HOR := Lib.hid (fun (W : World) => of7 r W HRT.out.1 HRT.out.2)
      have HMR := Lib.hid (fun (hm : mayB z1 r = true) (v1 v2 : Value) (W : World) (h1 : BigIs W v1 z1) (h2 : BigIs W v2 r) => mul15 v1 v2 z1 r W h1 h2 (pow100' (by omega)) (pow100 (by have := HRT.out; unfold In64' at this; omega)))
      have bzr : mayB z1 r = true → 0 ≤ z1 * r ∧ (z1 * r).natAbs ≤ 5104235503814076951950619111476523171840000 := fun hm => by
        have hm' := of_decide_eq_true hm
        refine ⟨Int.mul_nonneg hm'.1 hm'.2.1, ?_⟩
        have k := Nat.mul_le_mul bz1 (show r.natAbs ≤ 1000 by omega)
        rw [← Int.natAbs_mul] at k
        omega
      have HUP := Lib.hid (fun (hm : mayB z1 r = true) (v : Value) (W : World) (h : BigIs W v (z1 * r)) => upBy20 v (z1 * r) 100 W h (pow100' (bzr hm).2) (bzr hm).1 (by omega) (by omega))
      have HSM := Lib.hid (fun (hm : mayB z1 r = true) (v : Value) (W : World) (h : BigIs W v (shr z1 r)) => same12 v (shr z1 r) W h (pow100' (by have := bzr hm; unfold shr; omega)))
      have HUE := Lib.hid (fun (hm : mayB z1 r = true) => show ((((z1 * r).toNat + (100 - 1)) / 100 : Nat) : Int) = shr z1 r by have := bzr hm; unfold shr; omega)
      have HN64 := Lib.hid inI
      clear hcells hci inI bz0 bz1 b192 pb bzr hz0 hz1 hb0 hlen HR HX1
      have HO := Lib.hid hO
      clear hO
      have cc := HC1.out wr HO.out.lo
      go_upto_if 33 with (fail)
      clear cc
      go_cut [] from 28 to 50 (fun wx => MidS B g h w x (.slice p k c) z0 z1 wx)
      case first =>
        by_cases hC : C = 1
        · have HA1 := Lib.hid (HADD1.out hC)
          rw [HX2.out hC] at HA1
          subst hC
          have ca := HC0.out wr HO.out.lo
          go_wp2_with (go_at_call 16; refine (HA1.out _ HO.out.s).mono ?_; rintro e W5 ⟨rfl, hn1, hg1⟩; have HM5 := Lib.hid (HO.out.moved hn1 hg1 (by rw [HB.out]; exact Nat.le_refl _) HBG.out HGH.out); clear hn1 hg1)
          go_meet
          exact HM5.out
        · have hC2 : (C == 1) = false := by simpa using hC
          have HD := Lib.hid (HO.out.below ((Below.refl _ wr).drew))
          go_upto_region 12 with (fail)
          refine wp_region_held_drew (S := fun W => Below B w W) (by kernel_rfl) (HD.out.lo) (fun hS => ?_)
          refine wpAnyH_take (i := 0) (v := .slice (some ⟨b0, off, none⟩) n cap) rfl (by kernel_rfl) (by kernel_rfl) (by kernel_rfl) (fun _ _ _ h => h) (Or.inl ⟨by simp [Region.wanted], fun W _ => by go_simp⟩) hS ?_
          simp only [List.getElem_toArray, List.getElem_cons_zero, Act.put, List.setIfInBounds_toArray, List.set_cons_zero, List.set_cons_succ]
          refine wpAnyH_take (i := 1) (v := .int .i64 (i : Int)) rfl (by kernel_rfl) (by kernel_rfl) (by kernel_rfl) (fun _ _ _ h => h) (Or.inl ⟨by simp [Region.wanted], fun W _ => by go_simp⟩) hS ?_
          simp only [List.getElem_toArray, List.getElem_cons_zero, List.getElem_cons_succ, Act.put, List.setIfInBounds_toArray, List.set_cons_zero, List.set_cons_succ]
          refine wpAnyH_take (i := 2) (v := .pointer (some ⟨b0, off + i * 2, none⟩)) rfl (by kernel_rfl) (by kernel_rfl) (by kernel_rfl) (fun _ _ _ h => h) (Or.inl ⟨by simp [Region.wanted], fun W _ => by go_simp⟩) hS ?_
          simp only [List.getElem_toArray, List.getElem_cons_zero, List.getElem_cons_succ, Act.put, List.setIfInBounds_toArray, List.set_cons_zero, List.set_cons_succ]
          refine wpAnyH_take (i := 3) (v := .pointer (some ⟨b0, off + i * 2, none⟩)) rfl (by kernel_rfl) (by kernel_rfl) (by kernel_rfl) (fun _ _ _ h => h) (Or.inl ⟨by simp [Region.wanted], fun W _ => by go_simp⟩) hS ?_
          simp only [List.getElem_toArray, List.getElem_cons_zero, List.getElem_cons_succ, Act.put, List.setIfInBounds_toArray, List.set_cons_zero, List.set_cons_succ]
          refine wpAnyH_take (i := 5) (v := .slice (some ⟨b0, off, none⟩) n cap) rfl (by kernel_rfl) (by kernel_rfl) (by kernel_rfl) (fun _ _ _ h => h) (Or.inl ⟨by simp [Region.wanted], fun W _ => by go_simp⟩) hS ?_
          simp only [List.getElem_toArray, List.getElem_cons_zero, List.getElem_cons_succ, Act.put, List.setIfInBounds_toArray, List.set_cons_zero, List.set_cons_succ]
          refine wpAnyH_take (i := 6) (v := .int .i64 (i : Int)) rfl (by kernel_rfl) (by kernel_rfl) (by kernel_rfl) (fun _ _ _ h => h) (Or.inl ⟨by simp [Region.wanted], fun W _ => by go_simp⟩) hS ?_
          simp only [List.getElem_toArray, List.getElem_cons_zero, List.getElem_cons_succ, Act.put, List.setIfInBounds_toArray, List.set_cons_zero, List.set_cons_succ]
          refine wpAnyH_take (i := 7) (v := .pointer (some ⟨b0, off + i * 2, none⟩)) rfl (by kernel_rfl) (by kernel_rfl) (by kernel_rfl) (fun _ _ _ h => h) (Or.inl ⟨by simp [Region.wanted], fun W _ => by go_simp⟩) hS ?_
          simp only [List.getElem_toArray, List.getElem_cons_zero, List.getElem_cons_succ, Act.put, List.setIfInBounds_toArray, List.set_cons_zero, List.set_cons_succ]
          refine wpAnyH_take (i := 8) (v := .pointer (some ⟨b0, off + i * 2 + 1, none⟩)) rfl (by kernel_rfl) (by kernel_rfl) (by kernel_rfl) (fun _ _ _ h => h) (Or.inl ⟨by simp [Region.wanted], fun W _ => by go_simp⟩) hS ?_
          simp only [List.getElem_toArray, List.getElem_cons_zero, List.getElem_cons_succ, Act.put, List.setIfInBounds_toArray, List.set_cons_zero, List.set_cons_succ]
          refine wpAnyH_take (i := 4) (v := .int .i64 A) rfl (by kernel_rfl) (by kernel_rfl) (by kernel_rfl) (fun _ _ _ h => h) (Or.inl ⟨by simp [Region.wanted], fun W hW => by have h1 := HC0.out W hW; go_simp⟩) hS ?_
          simp only [List.getElem_toArray, List.getElem_cons_zero, List.getElem_cons_succ, Act.put, List.setIfInBounds_toArray, List.set_cons_zero, List.set_cons_succ]
          refine wpAnyH_take (i := 9) (v := .int .i64 C) rfl (by kernel_rfl) (by kernel_rfl) (by kernel_rfl) (fun _ _ _ h => h) (Or.inl ⟨by simp [Region.wanted], fun W hW => by have h1 := HC1.out W hW; go_simp⟩) hS ?_
          simp only [List.getElem_toArray, List.getElem_cons_zero, List.getElem_cons_succ, Act.put, List.setIfInBounds_toArray, List.set_cons_zero, List.set_cons_succ]
          refine wpAnyH_ready (rs := [10]) (by kernel_rfl) (by simp) ?_
          refine AllReadyH.cons rfl (fun K1 hK1 => ?_) AllReadyH.nil
          refine wanted_go rfl ?_
          simp only [List.getElem_toArray, List.getElem_cons_zero, List.getElem_cons_succ]
          go_wp2_with (go_at_call 17; refine (HADD.out _ HD.out.s).mono ?_; rintro e W5 ⟨rfl, hn1, hg1⟩; have HM5 := Lib.hid (HD.out.moved hn1 hg1 (by rw [HB.out]; exact Nat.le_refl _) HBG.out HGH.out); clear hn1 hg1)
          refine hK1.out _ _ (HM5.out.lo) (fun hS1 => ?_)
          refine wpAnyH_done (by kernel_rfl) ?_ _
          go_wp2
          go_meet
          exact HM5.out
      case rest =>
        have HO2 := Lib.hid hcut
        clear hcut HO HADD HADD1 HX2
        go_upto_region 13 with (fail)
        go_cut [] from 51 to 65 (fun wx => ∃ (x' : Bool) (p' : Option Addr) (k' c' : Nat), MidS B g h w x' (.slice p' k' c') z1 z1 wx)
        case first =>
          have HD2 := Lib.hid (HO2.out.below ((Below.refl _ wc).drew))
          refine wp_region_held_drew (S := fun W => Below B w W) (by kernel_rfl) HD2.out.lo (fun _ => ?_)
          refine wpAnyH_take (i := 1) (v := .slice (some ⟨b0, off, none⟩) n cap) rfl (by kernel_rfl) (by kernel_rfl) (by kernel_rfl) (fun _ _ _ h => h) (Or.inl ⟨by simp [Region.wanted], fun W _ => by go_simp⟩) HD2.out.lo ?_
          simp only [List.getElem_toArray, List.getElem_cons_zero, List.getElem_cons_succ, Act.put, List.setIfInBounds_toArray, List.set_cons_zero, List.set_cons_succ]
          refine wpAnyH_take (i := 2) (v := .int .i64 (i : Int)) rfl (by kernel_rfl) (by kernel_rfl) (by kernel_rfl) (fun _ _ _ h => h) (Or.inl ⟨by simp [Region.wanted], fun W _ => by go_simp⟩) HD2.out.lo ?_
          simp only [List.getElem_toArray, List.getElem_cons_zero, List.getElem_cons_succ, Act.put, List.setIfInBounds_toArray, List.set_cons_zero, List.set_cons_succ]
          refine wpAnyH_take (i := 3) (v := .pointer (some ⟨b0, off + i * 2, none⟩)) rfl (by kernel_rfl) (by kernel_rfl) (by kernel_rfl) (fun _ _ _ h => h) (Or.inl ⟨by simp [Region.wanted], fun W _ => by go_simp⟩) HD2.out.lo ?_
          simp only [List.getElem_toArray, List.getElem_cons_zero, List.getElem_cons_succ, Act.put, List.setIfInBounds_toArray, List.set_cons_zero, List.set_cons_succ]
          refine wpAnyH_take (i := 4) (v := .pointer (some ⟨b0, off + i * 2, none⟩)) rfl (by kernel_rfl) (by kernel_rfl) (by kernel_rfl) (fun _ _ _ h => h) (Or.inl ⟨by simp [Region.wanted], fun W _ => by go_simp⟩) HD2.out.lo ?_
          simp only [List.getElem_toArray, List.getElem_cons_zero, List.getElem_cons_succ, Act.put, List.setIfInBounds_toArray, List.set_cons_zero, List.set_cons_succ]
          refine wpAnyH_take (i := 5) (v := .int .i64 A) rfl (by kernel_rfl) (by kernel_rfl) (by kernel_rfl) (fun _ _ _ h => h) (Or.inl ⟨by simp [Region.wanted], fun W hW => by have h1 := HC0.out W hW; go_simp⟩) HD2.out.lo ?_
          simp only [List.getElem_toArray, List.getElem_cons_zero, List.getElem_cons_succ, Act.put, List.setIfInBounds_toArray, List.set_cons_zero, List.set_cons_succ]
          refine wpAnyH_take (i := 7) (v := .slice (some ⟨b0, off, none⟩) n cap) rfl (by kernel_rfl) (by kernel_rfl) (by kernel_rfl) (fun _ _ _ h => h) (Or.inl ⟨by simp [Region.wanted], fun W _ => by go_simp⟩) HD2.out.lo ?_
          simp only [List.getElem_toArray, List.getElem_cons_zero, List.getElem_cons_succ, Act.put, List.setIfInBounds_toArray, List.set_cons_zero, List.set_cons_succ]
          refine wpAnyH_take (i := 8) (v := .int .i64 (i : Int)) rfl (by kernel_rfl) (by kernel_rfl) (by kernel_rfl) (fun _ _ _ h => h) (Or.inl ⟨by simp [Region.wanted], fun W _ => by go_simp⟩) HD2.out.lo ?_
          simp only [List.getElem_toArray, List.getElem_cons_zero, List.getElem_cons_succ, Act.put, List.setIfInBounds_toArray, List.set_cons_zero, List.set_cons_succ]
          refine wpAnyH_take (i := 9) (v := .pointer (some ⟨b0, off + i * 2, none⟩)) rfl (by kernel_rfl) (by kernel_rfl) (by kernel_rfl) (fun _ _ _ h => h) (Or.inl ⟨by simp [Region.wanted], fun W _ => by go_simp⟩) HD2.out.lo ?_
          simp only [List.getElem_toArray, List.getElem_cons_zero, List.getElem_cons_succ, Act.put, List.setIfInBounds_toArray, List.set_cons_zero, List.set_cons_succ]
          refine wpAnyH_take (i := 10) (v := .pointer (some ⟨b0, off + i * 2 + 1, none⟩)) rfl (by kernel_rfl) (by kernel_rfl) (by kernel_rfl) (fun _ _ _ h => h) (Or.inl ⟨by simp [Region.wanted], fun W _ => by go_simp⟩) HD2.out.lo ?_
          simp only [List.getElem_toArray, List.getElem_cons_zero, List.getElem_cons_succ, Act.put, List.setIfInBounds_toArray, List.set_cons_zero, List.set_cons_succ]
          refine wpAnyH_take (i := 11) (v := .int .i64 C) rfl (by kernel_rfl) (by kernel_rfl) (by kernel_rfl) (fun _ _ _ h => h) (Or.inl ⟨by simp [Region.wanted], fun W hW => by have h1 := HC1.out W hW; go_simp⟩) HD2.out.lo ?_
          simp only [List.getElem_toArray, List.getElem_cons_zero, List.getElem_cons_succ, Act.put, List.setIfInBounds_toArray, List.set_cons_zero, List.set_cons_succ]
          refine wpAnyH_ready (rs := [0, 6]) (by kernel_rfl) (by simp) ?_
          refine AllReadyH.cons rfl (fun K hK => ?_) (AllReadyH.cons rfl (fun K hK => ?_) AllReadyH.nil)
          · refine wanted_go rfl ?_
            simp only [List.getElem_toArray, List.getElem_cons_zero]
            have c0 := (HD2.out).bx.c0; have c1 := (HD2.out).bx.c1
            go_wp2
            clear c0 c1
            refine hK.out _ _ (HD2.out).lo (fun _ => ?_)
            refine wpAnyH_ready (rs := [6]) (by kernel_rfl) (by simp) ?_
            refine AllReadyH.cons rfl (fun K hK => ?_) AllReadyH.nil
            refine wanted_go rfl ?_
            simp only [List.getElem_toArray, List.getElem_cons_zero, List.getElem_cons_succ]
            go_wp2_with (go_at_call 7; refine (HOA.out _).mono ?_; rintro e V1 ⟨x1, p1, n1, c1, rfl, hg, hb⟩; have HG1 := Lib.hid hg; have HS1 := Lib.hid ((HD2.out).below hb); clear hg hb)
            refine hK.out _ _ (HS1.out).lo (fun _ => ?_)
            refine wpAnyH_ready (rs := [12]) (by kernel_rfl) (by simp) ?_
            refine AllReadyH.cons rfl (fun K hK => ?_) AllReadyH.nil
            refine wanted_go rfl ?_
            simp only [List.getElem_toArray, List.getElem_cons_zero, List.getElem_cons_succ]
            go_wp2_with (go_at_call 7; refine (HOC.out _).mono ?_; rintro e V2 ⟨x2, p2, n2, c2, rfl, hg, hb⟩; have HG2 := Lib.hid hg; have HS2 := Lib.hid ((HS1.out).below hb); have HG3 := Lib.hid ((HG1.out).below hb); clear hg hb)
            refine hK.out _ _ (HS2.out).lo (fun _ => ?_)
            refine wpAnyH_ready (rs := [13]) (by kernel_rfl) (by simp) ?_
            refine AllReadyH.cons rfl (fun K hK => ?_) AllReadyH.nil
            refine wanted_go rfl ?_
            simp only [List.getElem_toArray, List.getElem_cons_zero, List.getElem_cons_succ]
            go_wp2_with (go_at_call 15; refine (HMU.out _ _ _ (HG3.out) (HG2.out)).mono ?_; rintro e V4 ⟨x4, p4, n4, c4, rfl, hg, hb⟩; have HG4 := Lib.hid hg; have HS4 := Lib.hid ((HS2.out).below hb); clear hg hb)
            refine hK.out _ _ (HS4.out).lo (fun _ => ?_)
            refine wpAnyH_ready (rs := [14]) (by kernel_rfl) (by simp) ?_
            refine AllReadyH.cons rfl (fun K hK => ?_) AllReadyH.nil
            refine wanted_go rfl ?_
            simp only [List.getElem_toArray, List.getElem_cons_zero, List.getElem_cons_succ]
            go_wp2_with (go_at_call 13; refine (HAD.out _ _ _ (HS4.out).big (HG4.out)).mono ?_; rintro e V5 ⟨x5, p5, n5, c5, rfl, hg, hb⟩; have HG5 := Lib.hid hg; have HS5 := Lib.hid ((HS4.out).below hb); clear hg hb)
            refine hK.out _ _ (HS5.out).lo (fun _ => ?_)
            refine wpAnyH_ready (rs := [15]) (by kernel_rfl) (by simp) ?_
            refine AllReadyH.cons rfl (fun K hK => ?_) AllReadyH.nil
            refine wanted_go rfl ?_
            simp only [List.getElem_toArray, List.getElem_cons_zero, List.getElem_cons_succ]
            have c0 := (HS5.out).bx.c0; have c1 := (HS5.out).bx.c1; have f0 := (HS5.out).bx.f 0; have f1 := (HS5.out).bx.f 1
            have HE := Lib.hid ((HS5.out).stored (HG5.out) HGH.out HBH.out)
            go_wp2
            clear c0 c1 f0 f1
            refine hK.out _ _ HE.out.lo (fun _ => ?_)
            refine wpAnyH_done (by kernel_rfl) ?_ _
            go_wp2
            go_meet
            exact ⟨_, _, _, _, HE.out⟩
          · refine wanted_go rfl ?_
            simp only [List.getElem_toArray, List.getElem_cons_zero, List.getElem_cons_succ]
            go_wp2_with (go_at_call 7; refine (HOA.out _).mono ?_; rintro e V7 ⟨x7, p7, n7, c7, rfl, hg, hb⟩; have HG7 := Lib.hid hg; have HS7 := Lib.hid ((HD2.out).below hb); clear hg hb)
            refine hK.out _ _ (HS7.out).lo (fun _ => ?_)
            refine wpAnyH_ready (rs := [0, 12]) (by kernel_rfl) (by simp) ?_
            refine AllReadyH.cons rfl (fun K hK => ?_) (AllReadyH.cons rfl (fun K hK => ?_) AllReadyH.nil)
            · refine wanted_go rfl ?_
              simp only [List.getElem_toArray, List.getElem_cons_zero]
              have c0 := (HS7.out).bx.c0; have c1 := (HS7.out).bx.c1
              go_wp2
              clear c0 c1
              refine hK.out _ _ (HS7.out).lo (fun _ => ?_)
              refine wpAnyH_ready (rs := [12]) (by kernel_rfl) (by simp) ?_
              refine AllReadyH.cons rfl (fun K hK => ?_) AllReadyH.nil
              refine wanted_go rfl ?_
              simp only [List.getElem_toArray, List.getElem_cons_zero, List.getElem_cons_succ]
              go_wp2_with (go_at_call 7; refine (HOC.out _).mono ?_; rintro e V8 ⟨x8, p8, n8, c8, rfl, hg, hb⟩; have HG8 := Lib.hid hg; have HS8 := Lib.hid ((HS7.out).below hb); have HG9 := Lib.hid ((HG7.out).below hb); clear hg hb)
              refine hK.out _ _ (HS8.out).lo (fun _ => ?_)
              refine wpAnyH_ready (rs := [13]) (by kernel_rfl) (by simp) ?_
              refine AllReadyH.cons rfl (fun K hK => ?_) AllReadyH.nil
              refine wanted_go rfl ?_
              simp only [List.getElem_toArray, List.getElem_cons_zero, List.getElem_cons_succ]
              go_wp2_with (go_at_call 15; refine (HMU.out _ _ _ (HG9.out) (HG8.out)).mono ?_; rintro e V10 ⟨x10, p10, n10, c10, rfl, hg, hb⟩; have HG10 := Lib.hid hg; have HS10 := Lib.hid ((HS8.out).below hb); clear hg hb)
              refine hK.out _ _ (HS10.out).lo (fun _ => ?_)
              refine wpAnyH_ready (rs := [14]) (by kernel_rfl) (by simp) ?_
              refine AllReadyH.cons rfl (fun K hK => ?_) AllReadyH.nil
              refine wanted_go rfl ?_
              simp only [List.getElem_toArray, List.getElem_cons_zero, List.getElem_cons_succ]
              go_wp2_with (go_at_call 13; refine (HAD.out _ _ _ (HS10.out).big (HG10.out)).mono ?_; rintro e V11 ⟨x11, p11, n11, c11, rfl, hg, hb⟩; have HG11 := Lib.hid hg; have HS11 := Lib.hid ((HS10.out).below hb); clear hg hb)
              refine hK.out _ _ (HS11.out).lo (fun _ => ?_)
              refine wpAnyH_ready (rs := [15]) (by kernel_rfl) (by simp) ?_
              refine AllReadyH.cons rfl (fun K hK => ?_) AllReadyH.nil
              refine wanted_go rfl ?_
              simp only [List.getElem_toArray, List.getElem_cons_zero, List.getElem_cons_succ]
              have c0 := (HS11.out).bx.c0; have c1 := (HS11.out).bx.c1; have f0 := (HS11.out).bx.f 0; have f1 := (HS11.out).bx.f 1
              have HE := Lib.hid ((HS11.out).stored (HG11.out) HGH.out HBH.out)
              go_wp2
              clear c0 c1 f0 f1
              refine hK.out _ _ HE.out.lo (fun _ => ?_)
              refine wpAnyH_done (by kernel_rfl) ?_ _
              go_wp2
              go_meet
              exact ⟨_, _, _, _, HE.out⟩
            · refine wanted_go rfl ?_
              simp only [List.getElem_toArray, List.getElem_cons_zero, List.getElem_cons_succ]
              go_wp2_with (go_at_call 7; refine (HOC.out _).mono ?_; rintro e V13 ⟨x13, p13, n13, c13, rfl, hg, hb⟩; have HG13 := Lib.hid hg; have HS13 := Lib.hid ((HS7.out).below hb); have HG14 := Lib.hid ((HG7.out).below hb); clear hg hb)
              refine hK.out _ _ (HS13.out).lo (fun _ => ?_)
              refine wpAnyH_ready (rs := [0, 13]) (by kernel_rfl) (by simp) ?_
              refine AllReadyH.cons rfl (fun K hK => ?_) (AllReadyH.cons rfl (fun K hK => ?_) AllReadyH.nil)
              · refine wanted_go rfl ?_
                simp only [List.getElem_toArray, List.getElem_cons_zero]
                have c0 := (HS13.out).bx.c0; have c1 := (HS13.out).bx.c1
                go_wp2
                clear c0 c1
                refine hK.out _ _ (HS13.out).lo (fun _ => ?_)
                refine wpAnyH_ready (rs := [13]) (by kernel_rfl) (by simp) ?_
                refine AllReadyH.cons rfl (fun K hK => ?_) AllReadyH.nil
                refine wanted_go rfl ?_
                simp only [List.getElem_toArray, List.getElem_cons_zero, List.getElem_cons_succ]
                go_wp2_with (go_at_call 15; refine (HMU.out _ _ _ (HG14.out) (HG13.out)).mono ?_; rintro e V15 ⟨x15, p15, n15, c15, rfl, hg, hb⟩; have HG15 := Lib.hid hg; have HS15 := Lib.hid ((HS13.out).below hb); clear hg hb)
                refine hK.out _ _ (HS15.out).lo (fun _ => ?_)
                refine wpAnyH_ready (rs := [14]) (by kernel_rfl) (by simp) ?_
                refine AllReadyH.cons rfl (fun K hK => ?_) AllReadyH.nil
                refine wanted_go rfl ?_
                simp only [List.getElem_toArray, List.getElem_cons_zero, List.getElem_cons_succ]
                go_wp2_with (go_at_call 13; refine (HAD.out _ _ _ (HS15.out).big (HG15.out)).mono ?_; rintro e V16 ⟨x16, p16, n16, c16, rfl, hg, hb⟩; have HG16 := Lib.hid hg; have HS16 := Lib.hid ((HS15.out).below hb); clear hg hb)
                refine hK.out _ _ (HS16.out).lo (fun _ => ?_)
                refine wpAnyH_ready (rs := [15]) (by kernel_rfl) (by simp) ?_
                refine AllReadyH.cons rfl (fun K hK => ?_) AllReadyH.nil
                refine wanted_go rfl ?_
                simp only [List.getElem_toArray, List.getElem_cons_zero, List.getElem_cons_succ]
                have c0 := (HS16.out).bx.c0; have c1 := (HS16.out).bx.c1; have f0 := (HS16.out).bx.f 0; have f1 := (HS16.out).bx.f 1
                have HE := Lib.hid ((HS16.out).stored (HG16.out) HGH.out HBH.out)
                go_wp2
                clear c0 c1 f0 f1
                refine hK.out _ _ HE.out.lo (fun _ => ?_)
                refine wpAnyH_done (by kernel_rfl) ?_ _
                go_wp2
                go_meet
                exact ⟨_, _, _, _, HE.out⟩
              · refine wanted_go rfl ?_
                simp only [List.getElem_toArray, List.getElem_cons_zero, List.getElem_cons_succ]
                go_wp2_with (go_at_call 15; refine (HMU.out _ _ _ (HG14.out) (HG13.out)).mono ?_; rintro e V18 ⟨x18, p18, n18, c18, rfl, hg, hb⟩; have HG18 := Lib.hid hg; have HS18 := Lib.hid ((HS13.out).below hb); clear hg hb)
                refine hK.out _ _ (HS18.out).lo (fun _ => ?_)
                refine wpAnyH_ready (rs := [0]) (by kernel_rfl) (by simp) ?_
                refine AllReadyH.cons rfl (fun K hK => ?_) AllReadyH.nil
                refine wanted_go rfl ?_
                simp only [List.getElem_toArray, List.getElem_cons_zero]
                have c0 := (HS18.out).bx.c0; have c1 := (HS18.out).bx.c1
                go_wp2
                clear c0 c1
                refine hK.out _ _ (HS18.out).lo (fun _ => ?_)
                refine wpAnyH_ready (rs := [14]) (by kernel_rfl) (by simp) ?_
                refine AllReadyH.cons rfl (fun K hK => ?_) AllReadyH.nil
                refine wanted_go rfl ?_
                simp only [List.getElem_toArray, List.getElem_cons_zero, List.getElem_cons_succ]
                go_wp2_with (go_at_call 13; refine (HAD.out _ _ _ (HS18.out).big (HG18.out)).mono ?_; rintro e V19 ⟨x19, p19, n19, c19, rfl, hg, hb⟩; have HG19 := Lib.hid hg; have HS19 := Lib.hid ((HS18.out).below hb); clear hg hb)
                refine hK.out _ _ (HS19.out).lo (fun _ => ?_)
                refine wpAnyH_ready (rs := [15]) (by kernel_rfl) (by simp) ?_
                refine AllReadyH.cons rfl (fun K hK => ?_) AllReadyH.nil
                refine wanted_go rfl ?_
                simp only [List.getElem_toArray, List.getElem_cons_zero, List.getElem_cons_succ]
                have c0 := (HS19.out).bx.c0; have c1 := (HS19.out).bx.c1; have f0 := (HS19.out).bx.f 0; have f1 := (HS19.out).bx.f 1
                have HE := Lib.hid ((HS19.out).stored (HG19.out) HGH.out HBH.out)
                go_wp2
                clear c0 c1 f0 f1
                refine hK.out _ _ HE.out.lo (fun _ => ?_)
                refine wpAnyH_done (by kernel_rfl) ?_ _
                go_wp2
                go_meet
                exact ⟨_, _, _, _, HE.out⟩
        case rest =>
          obtain ⟨x1, p1, n1, c1, hcut⟩ := hcut
          have HO3 := Lib.hid hcut
          clear hcut HO2 HC0 HC1 HOA HOC HMU HAD
          have HSG := Lib.hid (HO3.out.big.sign)
          generalize fitV z1 = tv at *
          generalize fitB z1 = tb at *
          go_upto_region 17 with (first
            | (go_at_call 18; refine (HTO.out _ HO3.out.s).mono ?_; rintro e V1 ⟨rfl, rfl⟩)
            | (refine wpList_load_row rfl 25 (.tmp 6) rfl h rfl 25 #[.bool x1, .slice p1 n1 c1] (0, 0) _ HO3.out.bx Try.underlying25 rfl info25 ?_)
            | (go_at_call 12; refine (HS12.out _ _ HO3.out.big).mono ?_; rintro e V2 ⟨rfl, hb⟩; have HO4 := Lib.hid (HO3.out.below hb); clear hb))
          clear HO3 HTO HS12
          by_cases hm : mayB z1 r = true
          · have hm' := of_decide_eq_true hm
            have HMR2 := Lib.hid (HMR.out hm); have HUP2 := Lib.hid (HUP.out hm); have HSM2 := Lib.hid (HSM.out hm)
            rw [HUE.out hm] at HUP2
            rw [hm, if_pos rfl, Bool.true_and] at HSH
            have hx1 : x1 = false := by rw [HSG.out]; exact decide_eq_false (by omega)
            subst hx1
            have g1 : ¬ r < 0 := by omega
            have g2 : ¬ r > 1000 := by omega
            generalize fitV (shr z1 r) = sv at *
            generalize fitB (shr z1 r) = sb at *
            generalize shr z1 r = s1 at *
            generalize z1 * r = zr at *
            clear hm hm' HMR HUP HSM HUE HSG
            go_upto_region 18 with (go_at_call 19; refine (HSH.out _ HO4.out.s).mono ?_; rintro e V3 ⟨rfl, hb⟩; have HO5 := Lib.hid (HO4.out.below hb); clear hb)
            have cx := HO5.out.bx.c0
            go_upto_region 21 with (fail)
            clear cx
            have HD3 := Lib.hid (HO5.out.below ((Below.refl _ _).drew))
            refine wp_region_held_drew (S := fun W => MidS B g h w false (.slice p1 n1 c1) z1 z1 W) (by kernel_rfl) HD3.out (fun _ => ?_)
            refine wpAnyH_take (i := 0) (v := .int .i64 sv) rfl (by kernel_rfl) (by kernel_rfl) (by kernel_rfl) (fun _ _ _ h => h) (Or.inl ⟨by simp [Region.wanted], fun W _ => by go_simp⟩) HD3.out ?_
            simp only [List.getElem_toArray, List.getElem_cons_zero, Act.put, List.setIfInBounds_toArray, List.set_cons_zero, List.set_cons_succ]
            refine wpAnyH_take (i := 1) (v := .bool sb) rfl (by kernel_rfl) (by kernel_rfl) (by kernel_rfl) (fun _ _ _ h => h) (Or.inl ⟨by simp [Region.wanted], fun W _ => by go_simp⟩) HD3.out ?_
            simp only [List.getElem_toArray, List.getElem_cons_zero, List.getElem_cons_succ, Act.put, List.setIfInBounds_toArray, List.set_cons_zero, List.set_cons_succ]
            refine wpAnyH_take (i := 2) (v := .agg #[.bool false, .slice p1 n1 c1]) rfl (by kernel_rfl) (by kernel_rfl) (by kernel_rfl) (fun _ _ _ h => h) (yieldsIf_loadG (by simp [Region.wanted]) 25 (.tmp 6) rfl _ _ rfl (fun W hW => load25 hW.bx)) HD3.out ?_
            simp only [List.getElem_toArray, List.getElem_cons_zero, List.getElem_cons_succ, Act.put, List.setIfInBounds_toArray, List.set_cons_zero, List.set_cons_succ]
            refine wpAnyH_take (i := 3) (v := .int .i64 r) rfl (by kernel_rfl) (by kernel_rfl) (by kernel_rfl) (fun _ _ _ h => h) (Or.inl ⟨by simp [Region.wanted], fun W _ => by go_simp⟩) HD3.out ?_
            simp only [List.getElem_toArray, List.getElem_cons_zero, List.getElem_cons_succ, Act.put, List.setIfInBounds_toArray, List.set_cons_zero, List.set_cons_succ]
            refine wpAnyH_ready (rs := [4]) (by kernel_rfl) (by simp) ?_
            refine AllReadyH.cons rfl (fun K hK => ?_) AllReadyH.nil
            refine wanted_go rfl ?_
            simp only [List.getElem_toArray, List.getElem_cons_zero, List.getElem_cons_succ]
            go_wp2_with (go_at_call 7; refine (HOR.out _).mono ?_; rintro e V91 ⟨x91, p91, n91, c91, rfl, hg, hb⟩; have HG91 := Lib.hid hg; have HS91 := Lib.hid ((HD3.out).below hb); clear hg hb)
            refine hK.out _ _ HS91.out (fun _ => ?_)
            refine wpAnyH_ready (rs := [5]) (by kernel_rfl) (by simp) ?_
            refine AllReadyH.cons rfl (fun K hK => ?_) AllReadyH.nil
            refine wanted_go rfl ?_
            simp only [List.getElem_toArray, List.getElem_cons_zero, List.getElem_cons_succ]
            go_wp2_with (go_at_call 15; refine (HMR2.out _ _ _ HS91.out.big HG91.out).mono ?_; rintro e V92 ⟨x92, p92, n92, c92, rfl, hg, hb⟩; have HG92 := Lib.hid hg; have HS92 := Lib.hid ((HS91.out).below hb); clear hg hb)
            refine hK.out _ _ HS92.out (fun _ => ?_)
            refine wpAnyH_ready (rs := [6]) (by kernel_rfl) (by simp) ?_
            refine AllReadyH.cons rfl (fun K hK => ?_) AllReadyH.nil
            refine wanted_go rfl ?_
            simp only [List.getElem_toArray, List.getElem_cons_zero, List.getElem_cons_succ]
            go_wp2_with (go_at_call 20; refine (HUP2.out _ _ HG92.out).mono ?_; rintro e V93 ⟨x93, p93, n93, c93, rfl, hg, hb⟩; have HG93 := Lib.hid hg; have HS93 := Lib.hid ((HS92.out).below hb); clear hg hb)
            refine hK.out _ _ HS93.out (fun _ => ?_)
            refine wpAnyH_ready (rs := [7]) (by kernel_rfl) (by simp) ?_
            refine AllReadyH.cons rfl (fun K hK => ?_) AllReadyH.nil
            refine wanted_go rfl ?_
            simp only [List.getElem_toArray, List.getElem_cons_zero, List.getElem_cons_succ]
            go_wp2_with (go_at_call 12; refine (HSM2.out _ _ HG93.out).mono ?_; rintro e V94 ⟨rfl, hb⟩; have HS94 := Lib.hid ((HS93.out).below hb); clear hb)
            refine hK.out _ _ HS94.out (fun _ => ?_)
            refine wpAnyH_take (i := 8) (v := .bool false) rfl (by kernel_rfl) (by kernel_rfl) (by kernel_rfl) (fun _ _ _ h => h) (Or.inl ⟨by simp [Region.wanted], fun W _ => by go_simp⟩) HS94.out ?_
            simp only [List.getElem_toArray, List.getElem_cons_zero, List.getElem_cons_succ, Act.put, List.setIfInBounds_toArray, List.set_cons_zero, List.set_cons_succ]
            refine wpAnyH_done (by kernel_rfl) ?_ _
            go_wp2
            go_roundw
            case rel => exact ⟨i + 1, _, _, _, _, by omega, by go_num, by rw [HZ1.out]; exact HS94.out⟩
            case measure => simp [intOf] <;> omega
          · rw [Bool.eq_false_iff.2 hm, if_neg (by decide), Bool.false_and] at HSH
            have hm' : ¬ (0 ≤ z1 ∧ 0 ≤ r ∧ r ≤ 1000) := fun h => hm (decide_eq_true h)
            clear HMR HUP HSM HUE hm
            go_upto_region 18 with (go_at_call 19; refine (HSH.out _ HO4.out.s).mono ?_; rintro e V3 ⟨rfl, hb⟩; have HO5 := Lib.hid (HO4.out.below hb); clear hb)
            have cx := HO5.out.bx.c0
            by_cases hz : z1 < 0
            · rw [decide_eq_true hz] at HSG
              have hx1 := HSG.out
              subst hx1
              clear hz hm' HSG
              go_wp2
              go_roundw
              case rel => exact ⟨i + 1, _, _, _, _, by omega, by go_num, by rw [HZ1.out]; exact HO5.out⟩
              case measure => simp [intOf] <;> omega
            · rw [decide_eq_false hz] at HSG
              have hx1 := HSG.out
              subst hx1
              by_cases hr0 : r < 0
              · clear hz hm' HSG
                go_wp2
                go_roundw
                case rel => exact ⟨i + 1, _, _, _, _, by omega, by go_num, by rw [HZ1.out]; exact HO5.out⟩
                case measure => simp [intOf] <;> omega
              · have hr1 : r > 1000 := by omega
                clear hz hm' HSG
                go_wp2
                go_roundw
                case rel => exact ⟨i + 1, _, _, _, _, by omega, by go_num, by rw [HZ1.out]; exact HO5.out⟩
                case measure => simp [intOf] <;> omega
    · have HO := Lib.hid hO
      have N1 := Lib.hid (fun (W : World) => add16n 1 W)
      have N2 := Lib.hid (fun (W : World) => addMul17n 1 1 W)
      have N3 := Lib.hid (fun (W : World) => total18n W)
      have N4 := Lib.hid (fun (W : World) => share19n 1 W)
      clear hO HR HIN HL
      go_wp2_with (first
        | (go_at_call 16; refine (N1.out _).mono ?_; rintro e V1 ⟨rfl, rfl⟩)
        | (go_at_call 17; refine (N2.out _).mono ?_; rintro e V1 ⟨rfl, rfl⟩)
        | (go_at_call 18; refine (N3.out _).mono ?_; rintro e V1 ⟨rfl, rfl⟩)
        | (go_at_call 19; refine (N4.out _).mono ?_; rintro e V1 ⟨rfl, rfl⟩))
      go_ret
      exact ⟨rfl, HO.out.lo⟩
end Go.Proofs.Ytipodikjdgnocaa
