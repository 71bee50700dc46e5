/- The walk of MoneyTwo. -/
import Derived.Test.YtipodikjdgnocaaMoneyAlive
namespace Go.Proofs.Ytipodikjdgnocaa
open Go.RowKit Base

theorem yieldsIf_loadG {P : Program} {ops : Array Oper} {S : World → Prop} {op : Oper} {a : Act} (hw : Region.wanted op (yielded ops a.tmps) = true) (ty : TypeId) (x : Operand) (ho : op.op = .load ty x)
    (p v : Value) (hx : a.eval x = p) (hS : ∀ w, S w → (Instr.loadAt ty p).run P w = .ok v w) : YieldsIf P ops S op v a :=
  .inl ⟨hw, fun w hw' => by
    unfold execOp
    simp only [ho, hx, Sem.run_bind, Sem.run_pure, hS w hw', Result.andThen_ok]⟩
theorem load25 {W : World} {g : Nat} {neg : Bool} {u : Value} (h : BoxAt W g neg u) : (Instr.loadAt 25 (.pointer (some ⟨g, 0, none⟩))).run Try.prog W = .ok (.agg #[.bool neg, u]) W := by
  simp only [Instr.loadAt, Instr.sureAddr, Sem.run_bind, Sem.run_pure, Result.andThen_ok, run_loadVar_row W g 25 25 #[.bool neg, u] (0, 0) _ h Try.underlying25 rfl info25]
theorem BigIs.abs {W : World} {x : Bool} {p : Option Addr} {n c : Nat} {z : Int} (h : BigIs W (.agg #[.bool x, .slice p n c]) z) : BigIs W (.agg #[.bool false, .slice p n c]) (z.natAbs : Int) := by
  obtain ⟨neg, a, l, cap, h1, h2, h3, h4, h5, h6, h7⟩ := h
  simp only [Value.agg.injEq, Array.mk.injEq, List.cons.injEq, Value.bool.injEq, Value.slice.injEq, and_true] at h1
  obtain ⟨rfl, rfl, rfl, rfl⟩ := h1
  refine ⟨false, _, l, _, rfl, h2, h3, h4, h5, (fun h => by cases h), ?_⟩
  rw [h7]
  cases x
  · rw [sgn_false]; simp
  · rw [sgn_true]; rw [sgn_false]; simp
/-- What MoneyTwo's variables hold. -/
structure TwoS (B g h : Nat) (w : World) (x y : Bool) (u v : Value) (a b : Int) (W : World) : Prop where
  bx : BoxAt W g x u
  by' : BoxAt W h y v
  ba : BigIs W (.agg #[.bool x, u]) a
  bb : BigIs W (.agg #[.bool y, v]) b
  lo : Below B w W
  le : B ≤ W.heap.size
theorem TwoS.below {B g h : Nat} {w : World} {x y : Bool} {u v : Value} {a b : Int} {W W' : World} (s : TwoS B g h w x y u v a b W) (hb : Below W.heap.size W W') : TwoS B g h w x y u v a b W' :=
  ⟨s.bx.below hb, s.by'.below hb, s.ba.below hb, s.bb.below hb, s.lo.trans (hb.mono s.le), Nat.le_trans s.le hb.size⟩
/-- A box of the absolute number. -/
structure TwoZ (B g h k : Nat) (w : World) (x y : Bool) (u v : Value) (a b : Int) (W : World) : Prop where
  s : TwoS B g h w x y u v a b W
  z : BoxAt W k false u
  bz : BigIs W (.agg #[.bool false, u]) (a.natAbs : Int)
theorem TwoZ.below {B g h k : Nat} {w : World} {x y : Bool} {u v : Value} {a b : Int} {W W' : World} (s : TwoZ B g h k w x y u v a b W) (hb : Below W.heap.size W W') : TwoZ B g h k w x y u v a b W' :=
  ⟨s.s.below hb, s.z.below hb, s.bz.below hb⟩
theorem pow100 {z : Int} (h : -85070591730234615865843651857942052864 ≤ z ∧ z ≤ 85070591730234615865843651857942052864) : z.natAbs < 10000 ^ 100 := by
  have : (10000 : Nat) ^ 10 ≤ 10000 ^ 100 := Nat.pow_le_pow_right (by omega) (by omega)
  have e : (10000 : Nat) ^ 10 = 10000000000000000000000000000000000000000 := by decide
  omega

set_option maxRecDepth 100000 in
set_option maxHeartbeats 2000000 in
theorem two3 (a b : Int) (w : World) (ha : In64' a) (hb : In64' b) : Calls Try.prog 3 #[.int .i64 a, .int .i64 b] w fun e w' => e = .returned (.bool true) ∧ Below w.heap.size w w' := by
  obtain ⟨B, hB⟩ : ∃ B, B = w.heap.size := ⟨_, rfl⟩
  rw [← hB]
  have HB := Lib.hid hB
  have HAL := Lib.hid (fun (W : World) => alive6 W)
  have HOA := Lib.hid (fun (W : World) => of7 a W ha.1 ha.2)
  have HOB := Lib.hid (fun (W : World) => of7 b W hb.1 hb.2)
  have HPA := Lib.hid (fun (W : World) => add8 a b W ha hb)
  have HPS := Lib.hid (fun (W : World) => sub9 a b W ha hb)
  have HPM := Lib.hid (fun (W : World) => mul10 a b W ha hb)
  have HPB := Lib.hid (fun (W : World) => abs11 a W ha)
  have pa : a.natAbs < 10000 ^ 100 := pow100 (by unfold In64' at ha; omega)
  have pb : b.natAbs < 10000 ^ 100 := pow100 (by unfold In64' at hb; omega)
  have HRA := Lib.hid (fun (v1 v2 : Value) (W : World) (h1 : BigIs W v1 a) (h2 : BigIs W v2 b) => add13 v1 v2 a b W h1 h2 pa pb)
  have HRN := Lib.hid (fun (v : Value) (W : World) (h : BigIs W v b) => neg14 v b W h pb)
  have HRS := Lib.hid (fun (v1 v2 : Value) (W : World) (h1 : BigIs W v1 a) (h2 : BigIs W v2 (-b)) => add13 v1 v2 a (-b) W h1 h2 pa (by rw [Int.natAbs_neg]; exact pb))
  have HRM := Lib.hid (fun (v1 v2 : Value) (W : World) (h1 : BigIs W v1 a) (h2 : BigIs W v2 b) => mul15 v1 v2 a b W h1 h2 pa pb)
  have HS1 := Lib.hid (fun (v : Value) (W : World) (h : BigIs W v (a + b)) => same12 v (a + b) W h (pow100 (by unfold In64' at *; omega)))
  have HS2 := Lib.hid (fun (v : Value) (W : World) (h : BigIs W v (a + -b)) => same12 v (a + -b) W h (pow100 (by unfold In64' at *; omega)))
  have HS3 := Lib.hid (fun (v : Value) (W : World) (h : BigIs W v (a * b)) => same12 v (a * b) W h (pow100 (prod_bound ha hb)))
  have HS4 := Lib.hid (fun (v : Value) (W : World) (h : BigIs W v (a.natAbs : Int)) => same12 v (a.natAbs : Int) W h (pow100 (by unfold In64' at *; omega)))
  rw [show a - b = a + -b by omega] at HPS
  obtain ⟨z1, hz1⟩ : ∃ z, a + b = z := ⟨_, rfl⟩
  obtain ⟨z2, hz2⟩ : ∃ z, a + -b = z := ⟨_, rfl⟩
  obtain ⟨z3, hz3⟩ : ∃ z, a * b = z := ⟨_, rfl⟩
  obtain ⟨z4, hz4⟩ : ∃ z, (a.natAbs : Int) = z := ⟨_, rfl⟩
  rw [hz1] at HPA HRA HS1; rw [hz2] at HPS HRS HS2; rw [hz3] at HPM HRM HS3; rw [hz4] at HPB HS4
  generalize fitV z1 = v1 at *; generalize fitB z1 = b1 at *
  generalize fitV z2 = v2 at *; generalize fitB z2 = b2 at *
  generalize fitV z3 = v3 at *; generalize fitB z3 = b3 at *
  generalize fitV z4 = v4 at *; generalize fitB z4 = b4 at *
  have HZ4 := Lib.hid hz4
  clear ha hb pa pb hB hz1 hz2 hz3 hz4
  go_enter Try.func3, Try.ntmps3
  go_upto_region 3 with (go_at_call 6; refine (HAL.out _).mono ?_; rintro e W1 ⟨rfl, hb1⟩; have HB1 := Lib.hid hb1; clear hb1)
  go_upto_region 4 with (first
    | (go_at_call_of 7 (Value.int .i64 a); refine (HOA.out _).mono ?_; rintro e W2 ⟨xa, pa, na, ca, rfl, hbig, hb2⟩; have HBA := Lib.hid hbig; have HB2 := Lib.hid (bt2 HB1.out hb2); clear hbig hb2)
    | (go_at_call_of 7 (Value.int .i64 b); refine (HOB.out _).mono ?_; rintro e W3 ⟨xb, pb, nb, cb, rfl, hbig, hb3⟩; have HBB := Lib.hid hbig; have HBA2 := Lib.hid (HBA.out.below hb3); have HB3 := Lib.hid (bt2 HB2.out hb3); clear hbig hb3)
    | (fail))
  have hT : TwoS B W3.heap.size (W3.heap.size + 1) w xa xb (.slice pa na ca) (.slice pb nb cb) a b ((W3.alloc (.cells #[.bool xa, .slice pa na ca] 25)).alloc (.cells #[.bool xb, .slice pb nb cb] 25)) := by
    obtain ⟨k1, k2, k3⟩ := BoxAt.new2 (w := W3) xa xb (.slice pa na ca) (.slice pb nb cb)
    exact ⟨k1, k2, HBA2.out.below k3, HBB.out.below k3, by rw [HB.out]; exact bt2 HB3.out k3, Nat.le_trans (by rw [HB.out]; exact HB3.out.size) k3.size⟩
  generalize W3.heap.size + 1 = h at *
  generalize W3.heap.size = g at *
  refine at_world (Φ := fun W => TwoS B g h w xa xb (.slice pa na ca) (.slice pb nb cb) a b W) hT ?_
  clear hT HBA HBA2 HBB HB1 HB2 HB3 HOA HOB HAL
  rintro W4 hT4
  have HT4 := Lib.hid hT4
  clear hT4
  go_upto_region 5 with (go_at_call 8; refine (HPA.out _).mono ?_; rintro e W5 ⟨rfl, hb5⟩; have HT5 := Lib.hid (HT4.out.below hb5); clear hb5)
  go_upto_region 6 with (go_at_call 9; refine (HPS.out _).mono ?_; rintro e W6 ⟨rfl, hb6⟩; have HT6 := Lib.hid (HT5.out.below hb6); clear hb6)
  go_upto_region 7 with (go_at_call 10; refine (HPM.out _).mono ?_; rintro e W7 ⟨rfl, hb7⟩; have HT7 := Lib.hid (HT6.out.below hb7); clear hb7)
  go_upto_region 8 with (go_at_call 11; refine (HPB.out _).mono ?_; rintro e W8 ⟨rfl, hb8⟩; have HT8 := Lib.hid (HT7.out.below hb8); clear hb8)
  clear HT4 HT5 HT6 HT7 HPA HPS HPM HPB
  go_upto_region 10 with (refine wpList_load_row rfl 25 (.tmp 5) rfl g rfl 25 #[.bool xa, .slice pa na ca] (0, 0) _ HT8.out.bx Try.underlying25 rfl info25 ?_)
  have hZ : TwoZ B g h W8.heap.size w xa xb (.slice pa na ca) (.slice pb nb cb) a b (W8.alloc (.cells #[.bool false, .slice pa na ca] 25)) := by
    have kb := (Below.refl W8.heap.size W8).alloc (Nat.le_refl _) (.cells #[.bool false, .slice pa na ca] 25)
    exact ⟨HT8.out.below kb, BoxAt.new W8 false _, BigIs.abs (HT8.out.ba.below kb)⟩
  generalize W8.heap.size = k at *
  refine at_world (Φ := fun W => TwoZ B g h k w xa xb (.slice pa na ca) (.slice pb nb cb) a b W) hZ ?_
  clear hZ HT8
  rintro W9 hZ9
  have hZD := hZ9.below ((Below.refl _ W9).drew)
  clear hZ9
  refine wp_region_held_drew (S := fun W => TwoZ B g h k w xa xb (.slice pa na ca) (.slice pb nb cb) a b W) (by kernel_rfl) hZD (fun hS0 => ?_)
  clear hZD
  refine wpAnyH_take (i := 0) (v := .int .i64 v1) rfl (by kernel_rfl) (by kernel_rfl) (by kernel_rfl) (fun _ _ _ h => h) (Or.inl ⟨by simp [Region.wanted], fun W _ => by go_simp⟩) hS0 ?_
  simp only [List.getElem_toArray, List.getElem_cons_zero, Act.put, List.setIfInBounds_toArray, List.set_cons_zero, List.set_cons_succ]
  refine wpAnyH_take (i := 1) (v := .bool b1) rfl (by kernel_rfl) (by kernel_rfl) (by kernel_rfl) (fun _ _ _ h => h) (Or.inl ⟨by simp [Region.wanted], fun W _ => by go_simp⟩) hS0 ?_
  simp only [List.getElem_toArray, List.getElem_cons_zero, List.getElem_cons_succ, Act.put, List.setIfInBounds_toArray, List.set_cons_zero, List.set_cons_succ]
  refine wpAnyH_take (i := 2) (v := .agg #[.bool xa, .slice pa na ca]) rfl (by kernel_rfl) (by kernel_rfl) (by kernel_rfl) (fun _ _ _ h => h) (yieldsIf_loadG (by simp [Region.wanted]) 25 (.tmp 5) rfl _ _ rfl (fun W hW => load25 hW.s.bx)) hS0 ?_
  simp only [List.getElem_toArray, List.getElem_cons_zero, List.getElem_cons_succ, Act.put, List.setIfInBounds_toArray, List.set_cons_zero, List.set_cons_succ]
  refine wpAnyH_take (i := 3) (v := .agg #[.bool xb, .slice pb nb cb]) rfl (by kernel_rfl) (by kernel_rfl) (by kernel_rfl) (fun _ _ _ h => h) (yieldsIf_loadG (by simp [Region.wanted]) 25 (.tmp 6) rfl _ _ rfl (fun W hW => load25 hW.s.by')) hS0 ?_
  simp only [List.getElem_toArray, List.getElem_cons_zero, List.getElem_cons_succ, Act.put, List.setIfInBounds_toArray, List.set_cons_zero, List.set_cons_succ]
  refine wpAnyH_ready (rs := [4]) (by kernel_rfl) (by simp) ?_
  refine AllReadyH.cons rfl (fun K1 hK1 => ?_) AllReadyH.nil
  refine wanted_go rfl ?_
  simp only [List.getElem_toArray, List.getElem_cons_zero, List.getElem_cons_succ]
  go_wp2_with (go_at_call 13; refine (HRA.out _ _ _ (hS0).s.ba (hS0).s.bb).mono ?_; rintro e V1 ⟨x1, p1, n1, c1, rfl, hg1, hb1⟩; have HG1 := Lib.hid hg1; have HV1 := Lib.hid ((hS0).below hb1); clear hg1 hb1)
  refine hK1.out _ _ (HV1.out) (fun hS1 => ?_)
  refine wpAnyH_ready (rs := [5]) (by kernel_rfl) (by simp) ?_
  refine AllReadyH.cons rfl (fun K2 hK2 => ?_) AllReadyH.nil
  refine wanted_go rfl ?_
  simp only [List.getElem_toArray, List.getElem_cons_zero, List.getElem_cons_succ]
  go_wp2_with (go_at_call 12; refine (HS1.out _ _ HG1.out).mono ?_; rintro e V2 ⟨rfl, hb2⟩; have HV2 := Lib.hid ((hS1).below hb2); clear hb2)
  refine hK2.out _ _ (HV2.out) (fun hS2 => ?_)
  refine wpAnyH_take (i := 6) (v := .bool true) rfl (by kernel_rfl) (by kernel_rfl) (by kernel_rfl) (fun _ _ _ h => h) (Or.inl ⟨by simp [Region.wanted], fun W _ => by go_simp⟩) hS2 ?_
  simp only [List.getElem_toArray, List.getElem_cons_zero, List.getElem_cons_succ, Act.put, List.setIfInBounds_toArray, List.set_cons_zero, List.set_cons_succ]
  refine wpAnyH_take (i := 7) (v := .int .i64 v2) rfl (by kernel_rfl) (by kernel_rfl) (by kernel_rfl) (fun _ _ _ h => h) (Or.inl ⟨by rfl, fun W _ => by go_simp⟩) hS2 ?_
  simp only [List.getElem_toArray, List.getElem_cons_zero, List.getElem_cons_succ, Act.put, List.setIfInBounds_toArray, List.set_cons_zero, List.set_cons_succ]
  refine wpAnyH_take (i := 8) (v := .bool b2) rfl (by kernel_rfl) (by kernel_rfl) (by kernel_rfl) (fun _ _ _ h => h) (Or.inl ⟨by rfl, fun W _ => by go_simp⟩) hS2 ?_
  simp only [List.getElem_toArray, List.getElem_cons_zero, List.getElem_cons_succ, Act.put, List.setIfInBounds_toArray, List.set_cons_zero, List.set_cons_succ]
  refine wpAnyH_take (i := 9) (v := .agg #[.bool xa, .slice pa na ca]) rfl (by kernel_rfl) (by kernel_rfl) (by kernel_rfl) (fun _ _ _ h => h) (yieldsIf_loadG (by rfl) 25 (.tmp 5) rfl _ _ rfl (fun W hW => load25 hW.s.bx)) hS2 ?_
  simp only [List.getElem_toArray, List.getElem_cons_zero, List.getElem_cons_succ, Act.put, List.setIfInBounds_toArray, List.set_cons_zero, List.set_cons_succ]
  refine wpAnyH_take (i := 10) (v := .agg #[.bool xb, .slice pb nb cb]) rfl (by kernel_rfl) (by kernel_rfl) (by kernel_rfl) (fun _ _ _ h => h) (yieldsIf_loadG (by rfl) 25 (.tmp 6) rfl _ _ rfl (fun W hW => load25 hW.s.by')) hS2 ?_
  simp only [List.getElem_toArray, List.getElem_cons_zero, List.getElem_cons_succ, Act.put, List.setIfInBounds_toArray, List.set_cons_zero, List.set_cons_succ]
  refine wpAnyH_ready (rs := [11]) (by kernel_rfl) (by simp) ?_
  refine AllReadyH.cons rfl (fun K3 hK3 => ?_) AllReadyH.nil
  rw [if_pos (by rfl)]
  simp only [List.getElem_toArray, List.getElem_cons_zero, List.getElem_cons_succ]
  go_wp2_with (go_at_call 14; refine (HRN.out _ _ (hS2).s.bb).mono ?_; rintro e V3 ⟨x3, p3, n3, c3, rfl, hg3, hb3⟩; have HG3 := Lib.hid hg3; have HV3 := Lib.hid ((hS2).below hb3); clear hg3 hb3)
  refine hK3.out _ _ (HV3.out) (fun hS3 => ?_)
  refine wpAnyH_ready (rs := [12]) (by kernel_rfl) (by simp) ?_
  refine AllReadyH.cons rfl (fun K4 hK4 => ?_) AllReadyH.nil
  rw [if_pos (by rfl)]
  simp only [List.getElem_toArray, List.getElem_cons_zero, List.getElem_cons_succ]
  go_wp2_with (go_at_call 13; refine (HRS.out _ _ _ (hS3).s.ba HG3.out).mono ?_; rintro e V4 ⟨x4, p4, n4, c4, rfl, hg4, hb4⟩; have HG4 := Lib.hid hg4; have HV4 := Lib.hid ((hS3).below hb4); clear hg4 hb4)
  refine hK4.out _ _ (HV4.out) (fun hS4 => ?_)
  refine wpAnyH_ready (rs := [13]) (by kernel_rfl) (by simp) ?_
  refine AllReadyH.cons rfl (fun K5 hK5 => ?_) AllReadyH.nil
  rw [if_pos (by rfl)]
  simp only [List.getElem_toArray, List.getElem_cons_zero, List.getElem_cons_succ]
  go_wp2_with (go_at_call 12; refine (HS2.out _ _ HG4.out).mono ?_; rintro e V5 ⟨rfl, hb5⟩; have HV5 := Lib.hid ((hS4).below hb5); clear hb5)
  refine hK5.out _ _ (HV5.out) (fun hS5 => ?_)
  refine wpAnyH_take (i := 14) (v := .bool true) rfl (by kernel_rfl) (by kernel_rfl) (by kernel_rfl) (fun _ _ _ h => h) (Or.inl ⟨by simp [Region.wanted], fun W _ => by go_simp⟩) hS5 ?_
  simp only [List.getElem_toArray, List.getElem_cons_zero, List.getElem_cons_succ, Act.put, List.setIfInBounds_toArray, List.set_cons_zero, List.set_cons_succ]
  refine wpAnyH_take (i := 15) (v := .bool true) rfl (by kernel_rfl) (by kernel_rfl) (by kernel_rfl) (fun _ _ _ h => h) (Or.inl ⟨by simp [Region.wanted], fun W _ => by go_simp⟩) hS5 ?_
  simp only [List.getElem_toArray, List.getElem_cons_zero, List.getElem_cons_succ, Act.put, List.setIfInBounds_toArray, List.set_cons_zero, List.set_cons_succ]
  refine wpAnyH_take (i := 16) (v := .int .i64 v3) rfl (by kernel_rfl) (by kernel_rfl) (by kernel_rfl) (fun _ _ _ h => h) (Or.inl ⟨by rfl, fun W _ => by go_simp⟩) hS5 ?_
  simp only [List.getElem_toArray, List.getElem_cons_zero, List.getElem_cons_succ, Act.put, List.setIfInBounds_toArray, List.set_cons_zero, List.set_cons_succ]
  refine wpAnyH_take (i := 17) (v := .bool b3) rfl (by kernel_rfl) (by kernel_rfl) (by kernel_rfl) (fun _ _ _ h => h) (Or.inl ⟨by rfl, fun W _ => by go_simp⟩) hS5 ?_
  simp only [List.getElem_toArray, List.getElem_cons_zero, List.getElem_cons_succ, Act.put, List.setIfInBounds_toArray, List.set_cons_zero, List.set_cons_succ]
  refine wpAnyH_take (i := 18) (v := .agg #[.bool xa, .slice pa na ca]) rfl (by kernel_rfl) (by kernel_rfl) (by kernel_rfl) (fun _ _ _ h => h) (yieldsIf_loadG (by rfl) 25 (.tmp 5) rfl _ _ rfl (fun W hW => load25 hW.s.bx)) hS5 ?_
  simp only [List.getElem_toArray, List.getElem_cons_zero, List.getElem_cons_succ, Act.put, List.setIfInBounds_toArray, List.set_cons_zero, List.set_cons_succ]
  refine wpAnyH_take (i := 19) (v := .agg #[.bool xb, .slice pb nb cb]) rfl (by kernel_rfl) (by kernel_rfl) (by kernel_rfl) (fun _ _ _ h => h) (yieldsIf_loadG (by rfl) 25 (.tmp 6) rfl _ _ rfl (fun W hW => load25 hW.s.by')) hS5 ?_
  simp only [List.getElem_toArray, List.getElem_cons_zero, List.getElem_cons_succ, Act.put, List.setIfInBounds_toArray, List.set_cons_zero, List.set_cons_succ]
  refine wpAnyH_ready (rs := [20]) (by kernel_rfl) (by simp) ?_
  refine AllReadyH.cons rfl (fun K6 hK6 => ?_) AllReadyH.nil
  rw [if_pos (by rfl)]
  simp only [List.getElem_toArray, List.getElem_cons_zero, List.getElem_cons_succ]
  go_wp2_with (go_at_call 15; refine (HRM.out _ _ _ (hS5).s.ba (hS5).s.bb).mono ?_; rintro e V6 ⟨x6, p6, n6, c6, rfl, hg6, hb6⟩; have HG6 := Lib.hid hg6; have HV6 := Lib.hid ((hS5).below hb6); clear hg6 hb6)
  refine hK6.out _ _ (HV6.out) (fun hS6 => ?_)
  refine wpAnyH_ready (rs := [21]) (by kernel_rfl) (by simp) ?_
  refine AllReadyH.cons rfl (fun K7 hK7 => ?_) AllReadyH.nil
  rw [if_pos (by rfl)]
  simp only [List.getElem_toArray, List.getElem_cons_zero, List.getElem_cons_succ]
  go_wp2_with (go_at_call 12; refine (HS3.out _ _ HG6.out).mono ?_; rintro e V7 ⟨rfl, hb7⟩; have HV7 := Lib.hid ((hS6).below hb7); clear hb7)
  refine hK7.out _ _ (HV7.out) (fun hS7 => ?_)
  refine wpAnyH_take (i := 22) (v := .bool true) rfl (by kernel_rfl) (by kernel_rfl) (by kernel_rfl) (fun _ _ _ h => h) (Or.inl ⟨by simp [Region.wanted], fun W _ => by go_simp⟩) hS7 ?_
  simp only [List.getElem_toArray, List.getElem_cons_zero, List.getElem_cons_succ, Act.put, List.setIfInBounds_toArray, List.set_cons_zero, List.set_cons_succ]
  refine wpAnyH_take (i := 23) (v := .bool true) rfl (by kernel_rfl) (by kernel_rfl) (by kernel_rfl) (fun _ _ _ h => h) (Or.inl ⟨by simp [Region.wanted], fun W _ => by go_simp⟩) hS7 ?_
  simp only [List.getElem_toArray, List.getElem_cons_zero, List.getElem_cons_succ, Act.put, List.setIfInBounds_toArray, List.set_cons_zero, List.set_cons_succ]
  refine wpAnyH_take (i := 24) (v := .int .i64 v4) rfl (by kernel_rfl) (by kernel_rfl) (by kernel_rfl) (fun _ _ _ h => h) (Or.inl ⟨by rfl, fun W _ => by go_simp⟩) hS7 ?_
  simp only [List.getElem_toArray, List.getElem_cons_zero, List.getElem_cons_succ, Act.put, List.setIfInBounds_toArray, List.set_cons_zero, List.set_cons_succ]
  refine wpAnyH_take (i := 25) (v := .bool b4) rfl (by kernel_rfl) (by kernel_rfl) (by kernel_rfl) (fun _ _ _ h => h) (Or.inl ⟨by rfl, fun W _ => by go_simp⟩) hS7 ?_
  simp only [List.getElem_toArray, List.getElem_cons_zero, List.getElem_cons_succ, Act.put, List.setIfInBounds_toArray, List.set_cons_zero, List.set_cons_succ]
  refine wpAnyH_take (i := 26) (v := .agg #[.bool false, .slice pa na ca]) rfl (by kernel_rfl) (by kernel_rfl) (by kernel_rfl) (fun _ _ _ h => h) (yieldsIf_loadG (by rfl) 25 (.tmp 15) rfl _ _ rfl (fun W hW => load25 hW.z)) hS7 ?_
  simp only [List.getElem_toArray, List.getElem_cons_zero, List.getElem_cons_succ, Act.put, List.setIfInBounds_toArray, List.set_cons_zero, List.set_cons_succ]
  refine wpAnyH_ready (rs := [27]) (by kernel_rfl) (by simp) ?_
  refine AllReadyH.cons rfl (fun K8 hK8 => ?_) AllReadyH.nil
  rw [if_pos (by rfl)]
  simp only [List.getElem_toArray, List.getElem_cons_zero, List.getElem_cons_succ]
  go_wp2_with (go_at_call 12; refine (HS4.out _ _ (by have k := (hS7).bz; rw [HZ4.out] at k; exact k)).mono ?_; rintro e V8 ⟨rfl, hb8⟩; have HV8 := Lib.hid ((hS7).below hb8); clear hb8)
  refine hK8.out _ _ (HV8.out) (fun hS8 => ?_)
  refine wpAnyH_take (i := 28) (v := .bool true) rfl (by kernel_rfl) (by kernel_rfl) (by kernel_rfl) (fun _ _ _ h => h) (Or.inl ⟨by simp [Region.wanted], fun W _ => by go_simp⟩) hS8 ?_
  simp only [List.getElem_toArray, List.getElem_cons_zero, List.getElem_cons_succ, Act.put, List.setIfInBounds_toArray, List.set_cons_zero, List.set_cons_succ]
  refine wpAnyH_take (i := 29) (v := .bool true) rfl (by kernel_rfl) (by kernel_rfl) (by kernel_rfl) (fun _ _ _ h => h) (Or.inl ⟨by simp [Region.wanted], fun W _ => by go_simp⟩) hS8 ?_
  simp only [List.getElem_toArray, List.getElem_cons_zero, List.getElem_cons_succ, Act.put, List.setIfInBounds_toArray, List.set_cons_zero, List.set_cons_succ]
  refine wpAnyH_done (by kernel_rfl) ?_ _
  go_wp2
  go_ret
  exact ⟨rfl, hS8.s.lo⟩
end Go.Proofs.Ytipodikjdgnocaa
