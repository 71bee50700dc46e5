/- Contracts of Fail of the program's Reader, of one that is nil too. -/
import Derived.Test.YtjbhgifdpdnppaaCallsX
import Derived.BigQuiet
import Derived.Deep.QuietTactic
namespace Go.Proofs.Ytjbhgifdpdnppaa
open Go.RowKit
theorem enters47 (args : Array Value) (w : World) : (callFunc 51 args).run Try.prog w = .ok (.enter 51 args) w := by kernel_rfl

theorem look47 (s : ByteArray) (g : Nat) (e : Int) (w : World) (hc : w.cell? ⟨g, 0, none⟩ = some (.int .i64 e)) :
    Calls Try.prog 51 #[.string s, .pointer (some ⟨g, 0, none⟩)] w fun x w' => x = .returned (.tuple #[.int .i64 0, .int .i64 e]) ∧ ∃ n, w' = w.drewN n := by
  go_enter Try.func51, Try.ntmps51
  go_wp2
  go_quiet (fail)
  go_wp2
  go_ret2
  exact ⟨rfl, _, rfl⟩

theorem AfterX_zero (s : ByteArray) (e : Int) : AfterX s 0 0 e = (s, e) := by
  unfold AfterX
  rw [if_pos rfl]
  split
  · rename_i h; subst h; simp
  · rfl

set_option maxRecDepth 100000 in
theorem fail30 (p : Nat) (s : ByteArray) (e f : Int) (w : World) (hX : RdX w p s e) :
    Calls Try.prog 37 #[.pointer (some ⟨p, 0, none⟩), .int .i64 f] w fun x w' => x = .returned (.tuple #[]) ∧ RdX w' p s (orZ e f e) ∧ w.grownBy w' (some p) := by
  have hp := hX.lt
  have h0 := heap_alloc_new w (.cells #[.int .i64 f] 24)
  have h1 := heap_alloc_new (w.alloc (.cells #[.int .i64 f] 24)) (.cells #[.pointer (some ⟨p, 0, none⟩)] 53)
  have e1 : (w.alloc (.cells #[.int .i64 f] 24)).heap.size = w.heap.size + 1 := by simp
  rw [e1] at h1
  have hb0 : Below w.heap.size w ((w.alloc (.cells #[.int .i64 f] 24)).alloc (.cells #[.pointer (some ⟨p, 0, none⟩)] 53)) := ((Below.refl _ w).alloc (Nat.le_refl _) _).alloc (by simp) _
  have hX1 := hX.below hb0 hp
  have c0 : ((w.alloc (.cells #[.int .i64 f] 24)).alloc (.cells #[.pointer (some ⟨p, 0, none⟩)] 53)).cell? ⟨w.heap.size, 0, none⟩ = some (.int .i64 f) := by
    have g0 : ((w.alloc (.cells #[.int .i64 f] 24)).alloc (.cells #[.pointer (some ⟨p, 0, none⟩)] 53)).heap[w.heap.size]? = some (.cells #[.int .i64 f] 24) := by
      rw [Below.heap_alloc _ _ _ (by rw [e1]; omega)]; exact h0
    exact cell_of_one g0
  by_cases he : e = 0
  · subst he
    have HA := Lib.hid (going52_one 51 (.pointer (some ⟨w.heap.size, 0, none⟩)) (w.heap.size + 1) p s 0 f (fun W => ∃ n, W = ((w.alloc (.cells #[.int .i64 f] 24)).alloc (.cells #[.pointer (some ⟨p, 0, none⟩)] 53)).drewN n) _ enters47 hX1 (cell_of_one h1) (by omega)
      ((look47 s w.heap.size f _ c0).mono fun x w' ⟨hx, n, hn⟩ => ⟨hx, ⟨n, hn⟩, by subst hn; exact hX1, by subst hn; exact cell_of_one h1⟩))
    clear hX1 h0 h1 e1 c0
    have HX := Lib.hid hX; clear hX
    go_enter Try.func37, Try.ntmps37
    go_wp2_with (first | (go_at_call 50; go_in) | (go_at_call 54; refine HA.out.mono ?_; rintro x w4 ⟨W, ⟨nn, hW⟩, rfl, hr, hg⟩; have HR := Lib.hid hr; have HW := Lib.hid hW; clear hr hW))
    go_end0
    have hr : RdX w4 p (AfterX s 0 0 f).1 (AfterX s 0 0 f).2 := HR.out
    have hW := HW.out
    subst hW
    rw [AfterX_zero] at hr
    refine ⟨rfl, hr, grown_transN (below_grown hb0 _) ⟨hg.os, hg.tape, hg.output, hg.size, hg.block⟩⟩
  · have hz : orZ e f e = e := orZ_no _ _ _ he
    rw [hz]
    have HA := Lib.hid (going52_stop 51 #[.pointer (some ⟨w.heap.size, 0, none⟩)] (w.heap.size + 1) (.pointer (some ⟨p, 0, none⟩)) e _ he (Lib.hid (fault22 p s e _ hX1)) (cell_of_one h1))
    have HX := Lib.hid hX1; clear hX1 hX hz he h0 h1 e1 c0
    go_enter Try.func37, Try.ntmps37
    go_wp2_with (first | (go_at_call 50; go_in) | (go_at_call 54; refine HA.out.mono ?_; rintro x w4 ⟨rfl, rfl⟩))
    go_end0
    exact ⟨rfl, HX.out, below_grown hb0 _⟩

set_option maxRecDepth 100000 in
theorem fail30_nil (f : Int) (w : World) :
    Calls Try.prog 37 #[.pointer none, .int .i64 f] w fun x w' => x = .returned (.tuple #[]) ∧ Below w.heap.size w w' := by
  have h1 := heap_alloc_new (w.alloc (.cells #[.int .i64 f] 24)) (.cells #[.pointer none] 53)
  have e1 : (w.alloc (.cells #[.int .i64 f] 24)).heap.size = w.heap.size + 1 := by simp
  rw [e1] at h1
  have hb0 : Below w.heap.size w ((w.alloc (.cells #[.int .i64 f] 24)).alloc (.cells #[.pointer none] 53)) := ((Below.refl _ w).alloc (Nat.le_refl _) _).alloc (by simp) _
  have HA := Lib.hid (going52_stop 51 #[.pointer (some ⟨w.heap.size, 0, none⟩)] (w.heap.size + 1) (.pointer none) 1 _ (by decide) (Lib.hid (fault22_nil _)) (cell_of_one h1))
  clear h1 e1
  go_enter Try.func37, Try.ntmps37
  go_wp2_with (first | (go_at_call 50; go_in) | (go_at_call 54; refine HA.out.mono ?_; rintro x w4 ⟨rfl, rfl⟩))
  go_end0
  exact ⟨rfl, hb0⟩
end Go.Proofs.Ytjbhgifdpdnppaa
