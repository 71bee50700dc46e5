/- Contracts of what the program's Reader answers where it faulted before, or is nil: zero. -/
import Derived.Test.YtjbhgifdpdnppaaAnswers
namespace Go.Proofs.Ytjbhgifdpdnppaa
open Go.RowKit

set_option maxRecDepth 100000 in
set_option maxHeartbeats 1000000 in
theorem going52_one (f : Nat) (c1 : Value) (gb p : Nat) (s : ByteArray) (k : Nat) (er : Int) (R : World → Prop) (w : World)
    (HE : ∀ (args : Array Value) (w : World), (callFunc f args).run Try.prog w = .ok (.enter f args) w)
    (hX : RdX w p s 0) (hgb : w.cell? ⟨gb, 0, none⟩ = some (.pointer (some ⟨p, 0, none⟩))) (hk : k ≤ s.size)
    (HL : Hid (Calls Try.prog f #[.string s, c1] w fun x w' => x = .returned (.tuple #[.int .i64 k, .int .i64 er]) ∧ R w' ∧ RdX w' p s 0 ∧ w'.cell? ⟨gb, 0, none⟩ = some (.pointer (some ⟨p, 0, none⟩)))) :
    Calls Try.prog 54 #[.func (.func f) #[] #[c1], .pointer (some ⟨gb, 0, none⟩)] w (Went p s k er R) := by
  by_cases he : er = 0
  · have hb : (er != 0) = false := by simpa using he
    have c0 := hX.c0
    have HF := Lib.hid (fault22 p s 0 w hX)
    have HX := Lib.hid hX; clear hX
    have HR := Lib.hid he; clear he
    go_enter Try.func54, Try.ntmps54
    go_wp2_with (first
      | (go_at_call 25; refine HF.out.mono ?_; rintro e w' ⟨rfl, rfl⟩)
      | (with_reducible refine HL.out.mono ?_; rintro e w1 ⟨rfl, hR, hX1, hgb1⟩; have c01 := hX1.c0; have f01 := hX1.f 0; have HX1 := Lib.hid hX1; clear hX1 c0 hgb))
    have ht : (k : Int).toNat = k := rfl
    go_region
    all_goals go_wp2
    all_goals go_ret
    all_goals
      refine ⟨w1, hR, ?_, ?_, ?_⟩
      · have e1 : (er == 0) = true := by simpa using HR.out
        rw [e1]; rfl
      · unfold AfterX
        rw [if_pos rfl, if_pos HR.out]
        exact RdX.set0 (w := w1) HX1.out _
      · first | exact drew_grown (grown_setN _ p 0 _) | exact grown_setN _ p 0 _
  · have hb : (er != 0) = true := by simpa using he
    have c0 := hX.c0
    have HF := Lib.hid (fault22 p s 0 w hX)
    have HX := Lib.hid hX; clear hX
    have HR := Lib.hid he; clear he
    go_enter Try.func54, Try.ntmps54
    go_wp2_with (first
      | (go_at_call 25; refine HF.out.mono ?_; rintro e w' ⟨rfl, rfl⟩)
      | (with_reducible refine HL.out.mono ?_; rintro e w1 ⟨rfl, hR, hX1, hgb1⟩; have f01 := hX1.f 1; have c11 := hX1.c1; have HX1 := Lib.hid hX1; clear hX1 c0 hgb))
    go_ret
    refine ⟨w1, hR, ?_, ?_, grown_setN w1 p 1 _⟩
    · have e1 : (er == 0) = false := by simpa using HR.out
      rw [e1]; rfl
    · unfold AfterX
      rw [if_pos rfl, if_neg HR.out]
      exact HX1.out.set1 er


theorem stop33 (f : Nat) (caps : Array Value) (q : Option Addr) (e : Int) (w : World) (he : e ≠ 0)
    (HF : Hid (∀ W : World, Below w.heap.size w W → Calls Try.prog 25 #[.pointer q] W fun x w' => x = .returned (.int .i64 e) ∧ W = w')) :
    Calls Try.prog 39 #[.pointer q, .func (.func f) #[] caps] w fun x w' => x = .returned (.int .u64 0) ∧ Below w.heap.size w w' := by
  have hb1 : Below w.heap.size w (((w.alloc (.cells #[.func (.func f) #[] caps] 78)).alloc (.cells #[.int .u64 0] 47)).alloc (.cells #[.pointer q] 53)) :=
    (((Below.refl _ w).alloc (Nat.le_refl _) _).alloc (by simp) _).alloc (by simp; omega) _
  have e2 : ((w.alloc (.cells #[.func (.func f) #[] caps] 78)).alloc (.cells #[.int .u64 0] 47)).heap.size = w.heap.size + 1 + 1 := by simp
  have h2 := heap_alloc_new ((w.alloc (.cells #[.func (.func f) #[] caps] 78)).alloc (.cells #[.int .u64 0] 47)) (.cells #[.pointer q] 53)
  rw [e2] at h2
  have HG := Lib.hid (going52_stop 52 #[.pointer (some ⟨w.heap.size, 0, none⟩), .pointer (some ⟨w.heap.size + 1, 0, none⟩)] (w.heap.size + 1 + 1) (.pointer q) e _ he (HF.out _ hb1) (cell_of_one h2))
  clear h2 e2 he
  go_enter Try.func39, Try.ntmps39
  go_wp2_with (first | (go_at_call 50; go_in) | (go_at_call 54; refine HG.out.mono ?_; rintro e w4 ⟨rfl, rfl⟩))
  go_ret
  exact ⟨rfl, hb1⟩

theorem stop37 (f : Nat) (caps : Array Value) (q : Option Addr) (e : Int) (w : World) (he : e ≠ 0)
    (HF : Hid (∀ W : World, Below w.heap.size w W → Calls Try.prog 25 #[.pointer q] W fun x w' => x = .returned (.int .i64 e) ∧ W = w')) :
    Calls Try.prog 46 #[.pointer q, .func (.func f) #[] caps] w fun x w' => x = .returned (.int .i64 0) ∧ Below w.heap.size w w' := by
  have hb1 : Below w.heap.size w (((w.alloc (.cells #[.func (.func f) #[] caps] 83)).alloc (.cells #[.int .i64 0] 2)).alloc (.cells #[.pointer q] 53)) :=
    (((Below.refl _ w).alloc (Nat.le_refl _) _).alloc (by simp) _).alloc (by simp; omega) _
  have e2 : ((w.alloc (.cells #[.func (.func f) #[] caps] 83)).alloc (.cells #[.int .i64 0] 2)).heap.size = w.heap.size + 1 + 1 := by simp
  have h2 := heap_alloc_new ((w.alloc (.cells #[.func (.func f) #[] caps] 83)).alloc (.cells #[.int .i64 0] 2)) (.cells #[.pointer q] 53)
  rw [e2] at h2
  have HG := Lib.hid (going52_stop 53 #[.pointer (some ⟨w.heap.size, 0, none⟩), .pointer (some ⟨w.heap.size + 1, 0, none⟩)] (w.heap.size + 1 + 1) (.pointer q) e _ he (HF.out _ hb1) (cell_of_one h2))
  clear h2 e2 he
  go_enter Try.func46, Try.ntmps46
  go_wp2_with (first | (go_at_call 50; go_in) | (go_at_call 54; refine HG.out.mono ?_; rintro e w4 ⟨rfl, rfl⟩))
  go_ret
  exact ⟨rfl, hb1⟩
end Go.Proofs.Ytjbhgifdpdnppaa
