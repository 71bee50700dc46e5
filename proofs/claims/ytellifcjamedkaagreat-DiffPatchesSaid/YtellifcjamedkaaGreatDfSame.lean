/- The document's Same of changes: the contract. -/
import Derived.Test.YtellifcjamedkaaGreatMRd
import Derived.Test.YtellifcjamedkaaGreatMCl
namespace Go.Proofs.YtellifcjamedkaaGreat
open Go.RowKit Base Base2
theorem ChV.ext_c {x y : ChT} (h1 : x.l = y.l) (h2 : x.a = y.a) (h3 : x.b = y.b) (h4 : x.was = y.was) (h5 : x.now = y.now) : x = y := by
  obtain ⟨a, b, c, d, e⟩ := x
  obtain ⟨a', b', c', d', e'⟩ := y
  subst h1 h2 h3 h4 h5
  rfl
theorem drew_on {w W : World} (h : ∃ m, W = w.drewN m) (n : Nat) : ∃ m, W.drewN n = w.drewN m := by obtain ⟨m, rfl⟩ := h; exact ⟨m + n, World.drewN_drewN _ _ _⟩
theorem ChAt.drew {W : World} {a : Option Addr} {l : List ChV} (h : ChAt W a l) (m : Nat) : ChAt (W.drewN m) a l := h
set_option maxRecDepth 100000 in
set_option maxHeartbeats 64000000 in
theorem rsameI (a u : Option Addr) (p q : Nat) (A B : List ChV) (w : World) (hA : ChAt w a A) (hB : ChAt w u B) (vA : ∀ x ∈ A, I64s w x.a1 x.c.was ∧ I64s w x.a2 x.c.now) (vB : ∀ x ∈ B, I64s w x.a1 x.c.was ∧ I64s w x.a2 x.c.now) (hl : ∀ x ∈ A, x.c.was.length ≤ 1000000 ∧ x.c.now.length ≤ 1000000) (R : Bool) (hR : R = true ↔ A.map ChV.c = B.map ChV.c) (hm : A.length ≤ 1000000) :
    Calls Tryz.prog 12 #[.slice a A.length p, .slice u B.length q] w fun e w' => e = .returned (.bool R) ∧ ∃ m, w' = w.drewN m := by
  have HR := Lib.hid hR
  have HMX := Lib.hid (show (A.length : Int) ≤ 1000000 by omega)
  have HA := Lib.hid hA
  have HB := Lib.hid hB
  have HVA := Lib.hid vA
  have HVB := Lib.hid vB
  have HLL := Lib.hid hl
  clear hR hA hB vA vB hl hm
  obtain ⟨n, hn⟩ : ∃ n, A.length = n := ⟨_, rfl⟩
  obtain ⟨k, hk⟩ : ∃ k, B.length = k := ⟨_, rfl⟩
  have HN := Lib.hid hn
  have HK := Lib.hid hk
  rw [hn]
  rw [hk]
  clear hn hk
  by_cases hnk : n = k
  case neg =>
    have g1 : ((n : Int) != (k : Int)) = true := by simp; omega
    have HXY := Lib.hid (show R = false by rw [← Bool.not_eq_true, HR.out]; intro e; have h := congrArg List.length e; rw [List.length_map, List.length_map, HN.out, HK.out] at h; exact hnk h)
    go_enter Tryz.func12, Tryz.ntmps12
    go_wp2
    go_ret
    exact ⟨ret_bool HXY.out.symm, 0, rfl⟩
  subst hnk
  go_enter Tryz.func12, Tryz.ntmps12
  go_wp2
  go_loopw [5] (fun vi W => ∃ i : Nat, vi = .int .i64 (i : Int) ∧ i ≤ n ∧ (∀ j, j < i → (A[j]?).map ChV.c = (B[j]?).map ChV.c) ∧ ∃ m, W = w.drewN m) (fun vi _ => n - (intOf vi).toNat)
  case atStart => exact ⟨0, rfl, Nat.zero_le _, fun j h => absurd h (Nat.not_lt_zero _), 0, rfl⟩
  case round =>
    obtain ⟨i, rfl, hi, he, hw⟩ := hrel
    have HE := Lib.hid he
    have HWR := Lib.hid hw
    clear he hw
    by_cases hlt : i < n
    case neg =>
      have HXY := Lib.hid (show R = true by
        rw [HR.out]
        refine List.ext_getElem? fun j => ?_
        rw [List.getElem?_map, List.getElem?_map]
        by_cases hj : j < i
        · exact HE.out j hj
        · rw [List.getElem?_eq_none (by have := HN.out; omega), List.getElem?_eq_none (by have := HK.out; omega)])
      go_wp2
      go_ret
      exact ⟨ret_bool HXY.out.symm, HWR.out⟩
    obtain ⟨x, hx⟩ : ∃ x, A[i]? = some x := ⟨A[i]'(by have := HN.out; omega), by simp [show i < A.length by have := HN.out; omega]⟩
    obtain ⟨y, hy⟩ : ∃ y, B[i]? = some y := ⟨B[i]'(by have := HK.out; omega), by simp [show i < B.length by have := HK.out; omega]⟩
    obtain ⟨g, o, rfl, a0, a1, a2, a3, a4⟩ := (show ChAt wr a A by obtain ⟨m, rfl⟩ := HWR.out; exact HA.out.drew m) i x hx
    obtain ⟨g2, o2, rfl, b0, b1, b2, b3, b4⟩ := (show ChAt wr u B by obtain ⟨m, rfl⟩ := HWR.out; exact HB.out.drew m) i y hy
    have HBW := Lib.hid (show Below w.heap.size w wr by obtain ⟨m, rfl⟩ := HWR.out; exact below_drews m)
    have HW := Lib.hid (fun r => rsame12 x.a1 y.a1 x.c.was y.c.was x.c1 y.c1 (wr.drewN r) ((((HVA.out x (List.mem_of_getElem? hx)).1.below HBW.out).below (below_drews r))) ((((HVB.out y (List.mem_of_getElem? hy)).1.below HBW.out).below (below_drews r))) (HLL.out x (List.mem_of_getElem? hx)).1)
    have HS := Lib.hid (fun r => rsame12 x.a2 y.a2 x.c.now y.c.now x.c2 y.c2 (wr.drewN r) ((((HVA.out x (List.mem_of_getElem? hx)).2.below HBW.out).below (below_drews r))) ((((HVB.out y (List.mem_of_getElem? hy)).2.below HBW.out).below (below_drews r))) (HLL.out x (List.mem_of_getElem? hx)).2)
    obtain ⟨⟨xl, xa, xb, xw, xn⟩, X1, c1, X2, c2⟩ := x
    obtain ⟨⟨yl, ya, yb, yw, yn⟩, Y1, d1, Y2, d2⟩ := y
    have HX := Lib.hid hx
    have HY := Lib.hid hy
    clear hx hy
    dsimp only at HW HS a0 a1 a2 a3 a4 b0 b1 b2 b3 b4
    go_upto_region 6 with (fail)
    dsimp only [List.append]
    refine wp_region_quiet_lit (by kernel_rfl) (by kernel_rfl) ?_
    obtain ⟨r0, g0⟩ : ∃ r : Bool, (xl != yl) = r := ⟨_, rfl⟩
    obtain ⟨r1, g1⟩ : ∃ r : Bool, (xa != ya) = r := ⟨_, rfl⟩
    obtain ⟨r2, g2⟩ : ∃ r : Bool, (xb != yb) = r := ⟨_, rfl⟩
    obtain ⟨r3, g3⟩ : ∃ r : Bool, decide (xw = yw) = r := ⟨_, rfl⟩
    obtain ⟨r4, g4⟩ : ∃ r : Bool, decide (xn = yn) = r := ⟨_, rfl⟩
    rw [g3] at HW
    rw [g4] at HS
    have G0 := Lib.hid g0
    have G1 := Lib.hid g1
    have G2 := Lib.hid g2
    have G3 := Lib.hid g3
    clear g3
    have G4 := Lib.hid g4
    clear g4
    repeat (go_big_quiet_step (fail))
    cases r0
    case true =>
      have HF := Lib.hid (show R = false by rw [← Bool.not_eq_true, HR.out]; intro e; have h := congrArg (fun l : List ChT => l[i]?) e; rw [List.getElem?_map, List.getElem?_map, HX.out, HY.out] at h; have h2 := congrArg ChT.l (Option.some.inj h); exact (show ¬ xl = yl by simpa using G0.out) h2)
      repeat (go_big_quiet_step (fail))
      refine wpQuiet_nil ?_
      intro w9 hw9
      obtain ⟨nq, hw9⟩ := hw9
      subst hw9
      go_wp2
      go_ret
      exact ⟨ret_bool HF.out.symm, drew_on HWR.out nq⟩
    repeat (go_big_quiet_step (fail))
    cases r1
    case true =>
      have HF := Lib.hid (show R = false by rw [← Bool.not_eq_true, HR.out]; intro e; have h := congrArg (fun l : List ChT => l[i]?) e; rw [List.getElem?_map, List.getElem?_map, HX.out, HY.out] at h; have h2 := congrArg ChT.a (Option.some.inj h); exact (show ¬ xa = ya by simpa using G1.out) h2)
      repeat (go_big_quiet_step (fail))
      refine wpQuiet_nil ?_
      intro w9 hw9
      obtain ⟨nq, hw9⟩ := hw9
      subst hw9
      go_wp2
      go_ret
      exact ⟨ret_bool HF.out.symm, drew_on HWR.out nq⟩
    repeat (go_big_quiet_step (fail))
    cases r2
    case true =>
      have HF := Lib.hid (show R = false by rw [← Bool.not_eq_true, HR.out]; intro e; have h := congrArg (fun l : List ChT => l[i]?) e; rw [List.getElem?_map, List.getElem?_map, HX.out, HY.out] at h; have h2 := congrArg ChT.b (Option.some.inj h); exact (show ¬ xb = yb by simpa using G2.out) h2)
      repeat (go_big_quiet_step (fail))
      refine wpQuiet_nil ?_
      intro w9 hw9
      obtain ⟨nq, hw9⟩ := hw9
      subst hw9
      go_wp2
      go_ret
      exact ⟨ret_bool HF.out.symm, drew_on HWR.out nq⟩
    repeat (go_big_quiet_step (fail))
    cases r3
    case false =>
      have HF := Lib.hid (show R = false by rw [← Bool.not_eq_true, HR.out]; intro e; have h := congrArg (fun l : List ChT => l[i]?) e; rw [List.getElem?_map, List.getElem?_map, HX.out, HY.out] at h; have h2 := congrArg ChT.was (Option.some.inj h); exact (of_decide_eq_false G3.out) h2)
      go_big_quiet_step ((go_at_call 28; exact quietS HW.out _))
      repeat (go_big_quiet_step (fail))
      refine wpQuiet_nil ?_
      intro w9 hw9
      obtain ⟨nq, hw9⟩ := hw9
      subst hw9
      go_wp2
      go_ret
      exact ⟨ret_bool HF.out.symm, drew_on HWR.out nq⟩
    go_big_quiet_step ((go_at_call 28; exact quietS HW.out _))
    repeat (go_big_quiet_step (fail))
    cases r4
    case false =>
      have HF := Lib.hid (show R = false by rw [← Bool.not_eq_true, HR.out]; intro e; have h := congrArg (fun l : List ChT => l[i]?) e; rw [List.getElem?_map, List.getElem?_map, HX.out, HY.out] at h; have h2 := congrArg ChT.now (Option.some.inj h); exact (of_decide_eq_false G4.out) h2)
      go_big_quiet_step ((go_at_call 28; exact quietS HS.out _))
      repeat (go_big_quiet_step (fail))
      refine wpQuiet_nil ?_
      intro w9 hw9
      obtain ⟨nq, hw9⟩ := hw9
      subst hw9
      go_wp2
      go_ret
      exact ⟨ret_bool HF.out.symm, drew_on HWR.out nq⟩
    go_big_quiet_step ((go_at_call 28; exact quietS HS.out _))
    repeat (go_big_quiet_step (fail))
    refine wpQuiet_nil ?_
    intro w9 hw9
    obtain ⟨nq, hw9⟩ := hw9
    subst hw9
    have hmx : n ≤ 1000000 := by have h := HMX.out; rw [HN.out] at h; omega
    go_wp2
    go_roundw
    case rel => exact ⟨i + 1, by go_num, hlt, fun j hj => (Nat.lt_succ_iff_lt_or_eq.1 hj).elim (HE.out j) (fun e => by rw [e, HX.out, HY.out]; show some _ = some _; exact congrArg some (ChV.ext_c (x := ⟨xl, xa, xb, xw, xn⟩) (y := ⟨yl, ya, yb, yw, yn⟩) (show xl = yl by simpa using G0.out) (show xa = ya by simpa using G1.out) (show xb = yb by simpa using G2.out) (of_decide_eq_true G3.out) (of_decide_eq_true G4.out))), drew_on HWR.out nq⟩
    case measure => simp [intOf]; omega
theorem rsameC (a u : Option Addr) (p q : Nat) (A B : List ChV) (w : World) (hA : ChAt w a A) (hB : ChAt w u B) (vA : ∀ x ∈ A, ValAt w x.a1 x.c.was ∧ ValAt w x.a2 x.c.now) (vB : ∀ x ∈ B, ValAt w x.a1 x.c.was ∧ ValAt w x.a2 x.c.now) (hl : ∀ x ∈ A, x.c.was.length ≤ 1000000 ∧ x.c.now.length ≤ 1000000) (R : Bool) (hR : R = true ↔ A.map ChV.c = B.map ChV.c) (hm : A.length ≤ 1000000) :
    Calls Tryz.prog 12 #[.slice a A.length p, .slice u B.length q] w fun e w' => e = .returned (.bool R) ∧ ∃ m, w' = w.drewN m :=
  rsameI a u p q A B w hA hB (fun x hx => ⟨(vA x hx).1.i64s, (vA x hx).2.i64s⟩) (fun x hx => ⟨(vB x hx).1.i64s, (vB x hx).2.i64s⟩) hl R hR hm
end Go.Proofs.YtellifcjamedkaaGreat
