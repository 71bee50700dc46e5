/- NumsWrites holds: for every number, every number with a sign and every row, the program's bytes, and what it turns in and out, are the document's. No condition. -/

import Derived.Test.YtedkjiheanmkeaaRows
import Derived.WalkKit
import Derived.ProofKit
import Derived.OpenShut
import Derived.ShutString
import Derived.Below
import Derived.Test.YtedkjiheanmkeaaAlive
namespace Go.Proofs.Ytedkjiheanmkeaa.numsWrites
open Go.ChangeShapes Go.WideShapes Go.ChangeAt Go.RowKit
open Go.ChangeMaps (open_string shut_string)
set_option linter.unusedVariables false

theorem own : ownKnob Try.prog.godebug = none := by kernel_rfl

theorem walk (a0 : Int) (a1 : Int) (a2 : ByteArray) (w0 : (Lit.int .u64 a0).wf = true) (w1 : (Lit.int .i64 a1).wf = true) (w2 : a2.size ≤ maxLen) (w : World) :
    Calls Try.prog 3 #[.int .u64 a0, .int .i64 a1, .string a2] w fun e w' => e = .returned (.bool true) ∧ Below w.heap.size w w' := by
  have ha : 0 ≤ a0 ∧ a0 ≤ 18446744073709551615 := by simpa [Lit.wf, IntKind.min, IntKind.max, IntKind.signed, IntKind.bits] using w0
  have hb : -9223372036854775808 ≤ a1 ∧ a1 ≤ 9223372036854775807 := by simpa [Lit.wf, IntKind.min, IntKind.max, IntKind.signed, IntKind.bits] using w1
  obtain ⟨ha1, ha2⟩ := ha
  obtain ⟨hb1, hb2⟩ := hb
  clear w0 w1
  by_cases hs : 2000 < a2.size
  · go_enter Try.func3, Try.ntmps3
    go_wp2_with (go_at_call 7; refine (alive7 _).mono ?_; rintro x w1 ⟨rfl, hq1⟩)
    go_ret
    exact ⟨rfl, hq1⟩
  · have hs2 : a2.size ≤ 1000000 := by omega
    go_enter Try.func3, Try.ntmps3
    go_wp2_with (first
      | (go_at_call 7; refine (alive7 _).mono ?_; rintro x w1 ⟨rfl, hq1⟩)
      | (go_at_call 8; refine (num8 _ _ ha1 ha2).mono ?_; rintro x w2 ⟨rfl, hq2⟩)
      | (go_at_call 9; refine (ref9 _ _ ha1 ha2).mono ?_; rintro x w3 ⟨rfl, hq3⟩)
      | (go_at_call 10; refine (int10 _ _ hb1 hb2).mono ?_; rintro x w4 ⟨rfl, hq4⟩)
      | (go_at_call 11; refine (int11 _ _ hb1 hb2).mono ?_; rintro x w5 ⟨rfl, hq5⟩)
      | (go_at_call 12; refine (row12 _ _ hs2).mono ?_; rintro x w6 ⟨rfl, hq6⟩)
      | (go_at_call 13; refine (row13 _ _ hs2).mono ?_; rintro x w7 ⟨rfl, hq7⟩)
      | (go_at_call 14; refine (zig14 _ _ hb1 hb2).mono ?_; rintro x w8 ⟨rfl, rfl⟩)
      | (go_at_call 15; refine (zig15 _ _ hb1 hb2).mono ?_; rintro x w9 ⟨rfl, rfl⟩)
      | (go_at_call 16; refine (zag16 _ _ ha1 ha2).mono ?_; rintro x w9 ⟨rfl, rfl⟩)
      | (go_at_call 17; refine (zag17 _ _ ha1 ha2).mono ?_; rintro x w9 ⟨rfl, rfl⟩))
    go_ret
    have s1 := hq1.size; have s2 := hq2.size; have s3 := hq3.size; have s4 := hq4.size; have s5 := hq5.size; have s6 := hq6.size
    exact ⟨rfl, ((((((hq1.trans (hq2.mono s1)).trans (hq3.mono (by omega))).trans (hq4.mono (by omega))).trans (hq5.mono (by omega))).trans (hq6.mono (by omega))).trans (hq7.mono (by omega)))⟩

set_option maxRecDepth 100000 in
theorem lifted (os : Os) (started : os.Started) (H : Type) (enc : TypeId × Value → H) :
    ReturnsInHanded {} Try.checked os 3 .any (Rows.numsWritesSpec.pre6 enc Try.prog Try.f3 Rows.numsWritesRow.domain false) (Rows.numsWritesSpec.post enc Try.prog Try.f3 false true false false) := by
  refine returnsInHanded_of_change (C := Try.checked) own started (by kernel_rfl) Try.func3
    (ChangeSpec.witness6 (enc := enc) (C := Try.checked) false ⟨#[], #[.int .u64 0, .int .i64 0, .string ByteArray.empty], []⟩ 8 (by kernel_rfl) (by kernel_rfl) (by kernel_rfl) (by kernel_rfl)) ?_
  intro W base args ds gs before hval0 hW hcnd _
  have hval : ∀ (j : Nat) t v, Try.f3.params[j]? = some t → args[j]? = some v → Value.okWide Try.prog W .any base t v := hval0
  have hW' := hW
  obtain ⟨p, q, hA0, hV, rfl, hfz, hnd⟩ := hW
  have hA : DataW.TrodAll enc Try.prog W 0 (fun _ => true) true Try.f3.params.toList args.toList ds p := hA0
  rw [Try.params3] at hA hval
  obtain ⟨v0, vs0, d0, ds0, p0, q0, hargs, rfl, rfl, h0, r0⟩ := trodAll_cons hA
  obtain ⟨v1, vs1, d1, ds1, p1, q1, rfl, rfl, rfl, h1, r1⟩ := trodAll_cons r0
  obtain ⟨v2, vs2, d2, ds2, p2, q2, rfl, rfl, rfl, h2, r2⟩ := trodAll_cons r1
  obtain ⟨rfl, rfl, rfl⟩ := trodAll_nil r2
  obtain rfl : args = #[v0, v1, v2] := by cases args; simp_all
  obtain ⟨rfl, rfl⟩ := trodVars_none hV
  obtain ⟨a0, rfl, rfl, rfl, w0⟩ := open_int Try.underlying22 (hval 0 22 v0 rfl rfl) h0
  obtain ⟨a1, rfl, rfl, rfl, w1⟩ := open_int Try.underlying2 (hval 1 2 v1 rfl rfl) h1
  obtain ⟨a2, rfl, rfl, rfl, w2⟩ := open_string Try.underlying9 (hval 2 9 v2 rfl rfl) h2
  clear hA0 hval0
  simp only [List.append_nil] at hW'
  refine (walk a0 a1 a2 w0 w1 w2 W).mono fun e W' ⟨he, hg⟩ => ?_
  subst he
  exact ⟨_, rfl, _, _, _, [], [], [], hW', trodAll_cons_mk (shut_bool Try.underlying4 _) trodAll_mk0, (trodAll_cons_mk (shut_int Try.underlying22 w0) (trodAll_cons_mk (shut_int Try.underlying2 w1) (trodAll_cons_mk (shut_string Try.underlying9 w2) trodAll_mk0))), rfl, hg.frame _, fun h => by cases h⟩

theorem over : Rows.numsWritesRow.holds Try.pinned (OpenSpec.ofChange Rows.numsWritesSpec) :=
  OpenClaim.holds_of_wide 3 Try.f3 rfl rfl rfl rfl rfl rfl rfl ⟨rfl, rfl, rfl, rfl, rfl⟩ rfl rfl rfl rfl rfl (by kernel_rfl) Try.func3 (by kernel_rfl)
    (of_decide_eq_true (by kernel_rfl)) (by unfold Func.isWrapper; first | (rw [if_pos (by decide +kernel)]; kernel_rfl) | (rw [if_neg (by decide +kernel)]; exact ⟨rfl, rfl⟩))
    (fun os started H enc _ => lifted os started H enc)

theorem proved : Rows.NumsWritesSaid :=
  over
#print axioms proved
end Go.Proofs.Ytedkjiheanmkeaa.numsWrites
