/- Whether a great number fits: the contracts of the document's Fits, and of the laws' same. -/
import Derived.Test.YtmndkbfjmamnfaaMoneyUp
namespace Go.Proofs.Ytmndkbfjmamnfaa
open Go.RowKit Base

/-- Does it fit? -/
def fitB (z : Int) : Bool := decide (-9223372036854775808 ≤ z ∧ z ≤ 9223372036854775807)
/-- The number, if it fits. -/
def fitV (z : Int) : Int := if -9223372036854775808 ≤ z ∧ z ≤ 9223372036854775807 then z else 0
theorem fit_yes {z : Int} (h : -9223372036854775808 ≤ z ∧ z ≤ 9223372036854775807) : fitB z = true ∧ fitV z = z := by unfold fitB fitV; rw [if_pos h]; simpa using h
theorem fit_no {z : Int} (h : ¬ (-9223372036854775808 ≤ z ∧ z ≤ 9223372036854775807)) : fitB z = false ∧ fitV z = 0 := by unfold fitB fitV; rw [if_neg h]; exact ⟨decide_eq_false h, rfl⟩
theorem valD_drop_le (l : List Nat) : ∀ k, valD (l.drop k) ≤ valD l := by
  intro k
  induction k with
  | zero => exact Nat.le_refl _
  | succ k ih => have := valD_drop l k; omega

set_option maxRecDepth 100000 in
set_option maxHeartbeats 1000000 in
theorem fits24 (v1 : Value) (z1 : Int) (w : World) (h1 : BigIs w v1 z1) (hz1 : z1.natAbs < 10000 ^ 100) :
    Calls Try.prog 35 #[v1] w fun e w' => e = .returned (.tuple #[.int .i64 (fitV z1), .bool (fitB z1)]) ∧ Below w.heap.size w w' := by
  obtain ⟨x, a, la, ca, rfl, hda, hca, hga, hta, hxa, hz1e⟩ := h1
  have hn : la.length ≤ 100 := len_le hta 100 (by rw [hz1e] at hz1; cases x <;> simpa [sgn] using hz1)
  obtain ⟨n, hla⟩ : ∃ n, la.length = n := ⟨_, rfl⟩
  rw [hla] at hn hca ⊢
  obtain ⟨B, hB⟩ : ∃ B, B = w.heap.size := ⟨_, rfl⟩
  rw [← hB]
  have HDA := Lib.hid (fun (W : World) (hb : Below B w W) => hda.below' hB hb)
  have HGA := Lib.hid hga; have HLA := Lib.hid hla
  have HB := Lib.hid hB
  have HZ := Lib.hid hz1e
  have HOF := Lib.hid (fun (W : World) => of7 (-9223372036854775808) W (by omega) (by omega))
  obtain ⟨FV, hFV⟩ : ∃ v, fitV z1 = v := ⟨_, rfl⟩
  obtain ⟨FB, hFB⟩ : ∃ v, fitB z1 = v := ⟨_, rfl⟩
  rw [hFV, hFB]
  have HFV := Lib.hid hFV; have HFB := Lib.hid hFB
  clear hda hga hta hxa hz1e hla hB hz1 hFV hFB
  go_enter Try.func35, Try.ntmps35
  go_upto_region 2 with (go_at_call 31; refine (HOF.out _).mono ?_; rintro e w1 ⟨xo, ao, ko, co, rfl, hbig7, hb7⟩; have HBIG7 := Lib.hid hbig7; have HB7 := Lib.hid hb7; clear hbig7 hb7)
  obtain ⟨xo', ao', lo, co', hveq, hdo, hco, hgo, hto, hxo, hzo⟩ := HBIG7.out
  simp only [Value.agg.injEq, Array.mk.injEq, List.cons.injEq, Value.bool.injEq, Value.slice.injEq, and_true] at hveq
  obtain ⟨rfl, rfl, rfl, rfl⟩ := hveq
  have hv63 : valD lo = 9223372036854775808 := by
    cases xo
    · rw [sgn_false] at hzo; omega
    · rw [sgn_true] at hzo; omega
  rw [← HB.out]
  have hb1 : BoxAt w1 B x (.slice a n ca) := by
    rw [HB.out]
    exact ((HB7.out.block _ (by simp)).trans (BoxAt.new w _ _))
  have hb2 := BoxAt.new w1 xo (.slice ao lo.length co)
  have hbl : Below B w w1 := ((Below.refl B w).alloc (by rw [HB.out]; exact Nat.le_refl _) _).trans (HB7.out.mono (by simp; have := HB.out; omega))
  obtain ⟨g, hg⟩ : ∃ g, g = w1.heap.size := ⟨_, rfl⟩
  rw [← hg] at hb2 ⊢
  have hal := (Below.refl w1.heap.size w1).alloc (Nat.le_refl _) (.cells #[.bool xo, .slice ao lo.length co] 71)
  refine at_world (Φ := fun W => BoxAt W B x (.slice a n ca) ∧ BoxAt W g xo (.slice ao lo.length co) ∧ Below B w W ∧ DigsAt W ao lo) ⟨hb1.below hal, hb2, bB HB.out hbl hal, hdo.below hal⟩ ?_
  rintro W hW
  have HW := Lib.hid hW
  have ca0 := hW.1.c0; have ca1 := hW.1.c1; have cg1 := hW.2.1.c1
  have hlo : lo.length ≤ 100 := len_le hto 100 (by rw [hv63]; decide)
  obtain ⟨V, hV⟩ : ∃ V, valD la = V := ⟨_, rfl⟩
  have HL1 := Lib.hid (less27 ao a lo la lo.length n co ca W rfl HLA.out hW.2.2.2 (HDA.out W hW.2.2.1) hgo HGA.out (by omega) (by omega))
  have HL2 := Lib.hid (less27 a ao la lo n lo.length ca co W HLA.out rfl (HDA.out W hW.2.2.1) hW.2.2.2 HGA.out hgo (by omega) (by omega))
  rw [hv63, hV] at HL1 HL2
  have HV := Lib.hid hV
  generalize lo.length = no at *
  clear hW hb1 hb2 hbl hg hal hdo hco hgo hto hxo hzo hv63 hV HBIG7 HB7 HOF
  cases x
  · have hz : z1 = (V : Int) := by rw [HZ.out, HV.out]; rfl
    have HLX := Lib.hid HL2.out
    by_cases hlt : V < 9223372036854775808
    · rw [decide_eq_true hlt] at HLX
      have HFIT := Lib.hid (show fitB z1 = true ∧ fitV z1 = (V : Int) by have := fit_yes (z := z1) (by omega); rw [← hz]; exact this)
      clear HL1 HL2 hz
      have hVle : V ≤ 9223372036854775808 := by omega
      go_upto_region 6 with (go_at_call 59; refine HLX.out.mono ?_; rintro e w' ⟨rfl, rfl⟩)
      clear ca0 cg1
      go_loop [5, 6] (fun vn vi => ∃ (k : Nat) (z : Int), z + 1 = (k : Int) ∧ k ≤ n ∧ vi = .int .i64 z ∧ vn = .int .i64 (-((valD (la.drop k) : Nat) : Int))) (fun _ vi => (intOf vi + 1).toNat)
      case atStart => exact ⟨n, (n : Int) - 1, by omega, Nat.le_refl _, by go_num, by rw [List.drop_of_length_le (by rw [HLA.out]; exact Nat.le_refl _)]; rfl⟩
      case round =>
        obtain ⟨k, z, hz, hk, rfl, rfl⟩ := hrel
        by_cases hge : z ≥ 0
        · obtain ⟨j, rfl⟩ : ∃ j : Nat, z = (j : Int) := ⟨z.toNat, by omega⟩
          have hkj : k = j + 1 := by omega
          subst hkj
          obtain ⟨ba, oa, hae, _, _⟩ := (HDA.out W HW.out.2.2.1).some (by rw [HLA.out]; omega)
          subst hae
          have hcp := digs_at (HDA.out W HW.out.2.2.1) (i := j) (by rw [HLA.out]; omega)
          have hY := valD_drop la j
          have hle := valD_drop_le la j
          rw [HV.out] at hle
          have HYY := Lib.hid hY
          obtain ⟨d, hd⟩ : ∃ t, la.getD j 0 = t := ⟨_, rfl⟩
          obtain ⟨X, hX⟩ : ∃ t, valD (la.drop (j + 1)) = t := ⟨_, rfl⟩
          rw [hd] at hcp hY
          rw [hX] at hY ⊢
          rw [hY] at hle
          have HY := Lib.hid hY
          clear hd hX hY
          go_wp2
          go_round
          case rel => exact ⟨j, (j : Int) - 1, by omega, by omega, by go_num, by rw [HY.out]; go_num⟩
          case measure => simp [intOf] <;> omega
        · have hk0 : k = 0 := by omega
          subst hk0
          rw [List.drop_zero, HV.out]
          have ca3 := HW.out.1.c0
          go_wp2
          go_ret2
          exact ⟨by have h1 := HFV.out; have h2 := HFB.out; subst h1; subst h2; rw [HFIT.out.1, HFIT.out.2]; rfl, HW.out.2.2.1⟩
    · rw [decide_eq_false hlt] at HLX
      have HFIT := Lib.hid (fit_no (z := z1) (by omega))
      clear HL1 HL2 hz
      go_wp2_with (go_at_call 59; refine HLX.out.mono ?_; rintro e w' ⟨rfl, rfl⟩)
      go_ret2
      exact ⟨by have h1 := HFV.out; have h2 := HFB.out; subst h1; subst h2; rw [HFIT.out.1, HFIT.out.2]; rfl, HW.out.2.2.1⟩
  · have hz : z1 = -(V : Int) := by rw [HZ.out, HV.out]; rfl
    have HLX := Lib.hid HL1.out
    by_cases hlt : 9223372036854775808 < V
    · rw [decide_eq_true hlt] at HLX
      have HFIT := Lib.hid (fit_no (z := z1) (by omega))
      clear HL1 HL2 hz
      go_wp2_with (go_at_call 59; refine HLX.out.mono ?_; rintro e w' ⟨rfl, rfl⟩)
      go_ret2
      exact ⟨by have h1 := HFV.out; have h2 := HFB.out; subst h1; subst h2; rw [HFIT.out.1, HFIT.out.2]; rfl, HW.out.2.2.1⟩
    · rw [decide_eq_false hlt] at HLX
      have HFIT := Lib.hid (show fitB z1 = true ∧ fitV z1 = -(V : Int) by have := fit_yes (z := z1) (by omega); rw [← hz]; exact this)
      clear HL1 HL2 hz
      have hVle : V ≤ 9223372036854775808 := by omega
      go_upto_region 6 with (go_at_call 59; refine HLX.out.mono ?_; rintro e w' ⟨rfl, rfl⟩)
      clear ca0 cg1
      go_loop [5, 6] (fun vn vi => ∃ (k : Nat) (z : Int), z + 1 = (k : Int) ∧ k ≤ n ∧ vi = .int .i64 z ∧ vn = .int .i64 (-((valD (la.drop k) : Nat) : Int))) (fun _ vi => (intOf vi + 1).toNat)
      case atStart => exact ⟨n, (n : Int) - 1, by omega, Nat.le_refl _, by go_num, by rw [List.drop_of_length_le (by rw [HLA.out]; exact Nat.le_refl _)]; rfl⟩
      case round =>
        obtain ⟨k, z, hz, hk, rfl, rfl⟩ := hrel
        by_cases hge : z ≥ 0
        · obtain ⟨j, rfl⟩ : ∃ j : Nat, z = (j : Int) := ⟨z.toNat, by omega⟩
          have hkj : k = j + 1 := by omega
          subst hkj
          obtain ⟨ba, oa, hae, _, _⟩ := (HDA.out W HW.out.2.2.1).some (by rw [HLA.out]; omega)
          subst hae
          have hcp := digs_at (HDA.out W HW.out.2.2.1) (i := j) (by rw [HLA.out]; omega)
          have hY := valD_drop la j
          have hle := valD_drop_le la j
          rw [HV.out] at hle
          have HYY := Lib.hid hY
          obtain ⟨d, hd⟩ : ∃ t, la.getD j 0 = t := ⟨_, rfl⟩
          obtain ⟨X, hX⟩ : ∃ t, valD (la.drop (j + 1)) = t := ⟨_, rfl⟩
          rw [hd] at hcp hY
          rw [hX] at hY ⊢
          rw [hY] at hle
          have HY := Lib.hid hY
          clear hd hX hY
          go_wp2
          go_round
          case rel => exact ⟨j, (j : Int) - 1, by omega, by omega, by go_num, by rw [HY.out]; go_num⟩
          case measure => simp [intOf] <;> omega
        · have hk0 : k = 0 := by omega
          subst hk0
          rw [List.drop_zero, HV.out]
          have ca3 := HW.out.1.c0
          go_wp2
          go_ret2
          exact ⟨by have h1 := HFV.out; have h2 := HFB.out; subst h1; subst h2; rw [HFIT.out.1, HFIT.out.2]; rfl, HW.out.2.2.1⟩
end Go.Proofs.Ytmndkbfjmamnfaa
