/- Contracts of what the program's Reader answers through a look: the value if neither the reader nor the look faults, else zero. -/
import Derived.Test.YtjbhgifdpdnppaaSteps
namespace Go.Proofs.Ytjbhgifdpdnppaa
open Go.RowKit

/-- The first, if there is no fault. -/
def pickV (er : Int) (a b : Value) : Value := if er = 0 then a else b

set_option maxRecDepth 100000 in
set_option maxHeartbeats 1000000 in
theorem answer33 (cap : Value) (p : Nat) (s : ByteArray) (v : Int) (k : Nat) (er : Int) (w : World) (hX : RdX w p s 0) (hk : k ≤ s.size)
    (HL : Hid (∀ W : World, Below w.heap.size w W → Calls Try.prog 40 #[.string s, cap] W fun x w' => x = .returned (.tuple #[.int .u64 v, .int .i64 k, .int .i64 er]) ∧ Below W.heap.size W w')) :
    Calls Try.prog 39 #[.pointer (some ⟨p, 0, none⟩), .func (.func 40) #[] #[cap]] w fun x w' => x = .returned (pickV er (.int .u64 v) (.int .u64 0)) ∧ RdX w' p (AfterX s 0 k er).1 (AfterX s 0 k er).2 ∧ w.grownBy w' (some p) := by
  have hp := hX.lt
  have HG : Hid (Calls Try.prog 54 #[.func (.func 52) #[] #[.pointer (some ⟨w.heap.size, 0, none⟩), .pointer (some ⟨w.heap.size + 1, 0, none⟩)], .pointer (some ⟨w.heap.size + 1 + 1, 0, none⟩)]
      (((w.alloc (.cells #[.func (.func 40) #[] #[cap]] 78)).alloc (.cells #[.int .u64 0] 47)).alloc (.cells #[.pointer (some ⟨p, 0, none⟩)] 53)) fun x w' => x = .returned (.bool (er == 0)) ∧ RdX w' p (AfterX s 0 k er).1 (AfterX s 0 k er).2 ∧ w'.heap[w.heap.size + 1]? = some (.cells #[.int .u64 v] 47 (0, 0)) ∧ w.grownBy w' (some p)) := by
    have hb1 : Below w.heap.size w (((w.alloc (.cells #[.func (.func 40) #[] #[cap]] 78)).alloc (.cells #[.int .u64 0] 47)).alloc (.cells #[.pointer (some ⟨p, 0, none⟩)] 53)) :=
      (((Below.refl _ w).alloc (Nat.le_refl _) _).alloc (by simp) _).alloc (by simp; omega) _
    have e1 : (w.alloc (.cells #[.func (.func 40) #[] #[cap]] 78)).heap.size = w.heap.size + 1 := by simp
    have e2 : ((w.alloc (.cells #[.func (.func 40) #[] #[cap]] 78)).alloc (.cells #[.int .u64 0] 47)).heap.size = w.heap.size + 1 + 1 := by simp
    have e3 : (((w.alloc (.cells #[.func (.func 40) #[] #[cap]] 78)).alloc (.cells #[.int .u64 0] 47)).alloc (.cells #[.pointer (some ⟨p, 0, none⟩)] 53)).heap.size = w.heap.size + 1 + 1 + 1 := by simp
    have h0 := heap_alloc_new w (.cells #[.func (.func 40) #[] #[cap]] 78)
    have h1 := heap_alloc_new (w.alloc (.cells #[.func (.func 40) #[] #[cap]] 78)) (.cells #[.int .u64 0] 47)
    have h2 := heap_alloc_new ((w.alloc (.cells #[.func (.func 40) #[] #[cap]] 78)).alloc (.cells #[.int .u64 0] 47)) (.cells #[.pointer (some ⟨p, 0, none⟩)] 53)
    rw [e1] at h1
    rw [e2] at h2
    generalize hw3 : ((w.alloc (.cells #[.func (.func 40) #[] #[cap]] 78)).alloc (.cells #[.int .u64 0] 47)).alloc (.cells #[.pointer (some ⟨p, 0, none⟩)] 53) = w3 at *
    have g0 : w3.heap[w.heap.size]? = some (.cells #[.func (.func 40) #[] #[cap]] 78) := by
      rw [← hw3, Below.heap_alloc _ _ _ (by rw [e2]; omega), Below.heap_alloc _ _ _ (by rw [e1]; omega)]; exact h0
    have g1 : w3.heap[w.heap.size + 1]? = some (.cells #[.int .u64 0] 47) := by
      rw [← hw3, Below.heap_alloc _ _ _ (by rw [e2]; omega)]; exact h1
    have hX3 : RdX w3 p s 0 := hX.below hb1 hp
    have hgb3 := cell_of_one h2
    have HL3 := Lib.hid (got48 cap w.heap.size (w.heap.size + 1) s v k er (.int .u64 0) w3 (cell_of_one g0) g1 (HL.out w3 hb1))
    have HW := going52 52 (.pointer (some ⟨w.heap.size, 0, none⟩)) (.pointer (some ⟨w.heap.size + 1, 0, none⟩)) (w.heap.size + 1 + 1) p s k er
      (fun W => W.heap[w.heap.size + 1]? = some (.cells #[.int .u64 v] 47 (0, 0)) ∧ w3.grownBy W (some (w.heap.size + 1))) w3 enters48 hX3 hgb3 hk
      (HL3.out.mono fun x w' ⟨hx, hv, hg⟩ => ⟨hx, ⟨hv, hg⟩, hX3.grown hg (by simp; omega), by
        rw [World.cell?_of_block (w := w3) (hg.block (w.heap.size + 1 + 1) (by omega) (by simp))]; exact hgb3⟩)
    refine HW.mono fun x w' hw => ?_
    obtain ⟨W, ⟨hv, hg⟩, hx, hr, hg2⟩ := hw
    refine ⟨hx, hr, (hg2.block _ (lt_of_blk hv) (by simp; omega)).trans hv, ?_⟩
    have s1 := hg.size
    exact ⟨hg2.os.trans (hg.os.trans hb1.os), hg2.tape.trans (hg.tape.trans hb1.tape), hg2.output.trans (hg.output.trans hb1.output), by have := hg2.size; omega, fun i hi hne => (hg2.block i (by omega) hne).trans ((hg.block i (by omega) (by simp; omega)).trans (hb1.block i hi))⟩
  have HX := Lib.hid hX; clear hX
  by_cases he : er = 0
  · have hb : (er == 0) = true := by simpa using he
    have HV : Hid (pickV er (.int .u64 v) (.int .u64 0) = .int .u64 v) := if_pos he
    clear he
    go_enter Try.func39, Try.ntmps39
    go_wp2_with (first | (go_at_call 50; go_in) | (go_at_call 54; refine HG.out.mono ?_; rintro e w4 ⟨rfl, hr, hv, hg⟩; have cg := cell_of_one hv; have HR := Lib.hid hr; have HVV := Lib.hid hv; clear hr hv))
    go_ret
    exact ⟨by rw [HV.out]; rfl, HR.out, hg⟩
  · have hb : (er == 0) = false := by simpa using he
    have HV : Hid (pickV er (.int .u64 v) (.int .u64 0) = .int .u64 0) := if_neg he
    clear he
    go_enter Try.func39, Try.ntmps39
    go_wp2_with (first | (go_at_call 50; go_in) | (go_at_call 54; refine HG.out.mono ?_; rintro e w4 ⟨rfl, hr, hv, hg⟩; have HR := Lib.hid hr; have HVV := Lib.hid hv; clear hr hv))
    go_ret
    exact ⟨by rw [HV.out]; rfl, HR.out, hg⟩

set_option maxRecDepth 100000 in
set_option maxHeartbeats 1000000 in
theorem answer37 (p : Nat) (s : ByteArray) (v : Int) (k : Nat) (er : Int) (w : World) (hX : RdX w p s 0) (hk : k ≤ s.size)
    (HL : Hid (∀ W : World, Below w.heap.size w W → Calls Try.prog 47 #[.string s] W fun x w' => x = .returned (.tuple #[.int .i64 v, .int .i64 k, .int .i64 er]) ∧ Below W.heap.size W w')) :
    Calls Try.prog 46 #[.pointer (some ⟨p, 0, none⟩), .func (.func 47) #[] #[]] w fun x w' => x = .returned (pickV er (.int .i64 v) (.int .i64 0)) ∧ RdX w' p (AfterX s 0 k er).1 (AfterX s 0 k er).2 ∧ w.grownBy w' (some p) := by
  have hp := hX.lt
  have HG : Hid (Calls Try.prog 54 #[.func (.func 53) #[] #[.pointer (some ⟨w.heap.size, 0, none⟩), .pointer (some ⟨w.heap.size + 1, 0, none⟩)], .pointer (some ⟨w.heap.size + 1 + 1, 0, none⟩)]
      (((w.alloc (.cells #[.func (.func 47) #[] #[]] 83)).alloc (.cells #[.int .i64 0] 2)).alloc (.cells #[.pointer (some ⟨p, 0, none⟩)] 53)) fun x w' => x = .returned (.bool (er == 0)) ∧ RdX w' p (AfterX s 0 k er).1 (AfterX s 0 k er).2 ∧ w'.heap[w.heap.size + 1]? = some (.cells #[.int .i64 v] 2 (0, 0)) ∧ w.grownBy w' (some p)) := by
    have hb1 : Below w.heap.size w (((w.alloc (.cells #[.func (.func 47) #[] #[]] 83)).alloc (.cells #[.int .i64 0] 2)).alloc (.cells #[.pointer (some ⟨p, 0, none⟩)] 53)) :=
      (((Below.refl _ w).alloc (Nat.le_refl _) _).alloc (by simp) _).alloc (by simp; omega) _
    have e1 : (w.alloc (.cells #[.func (.func 47) #[] #[]] 83)).heap.size = w.heap.size + 1 := by simp
    have e2 : ((w.alloc (.cells #[.func (.func 47) #[] #[]] 83)).alloc (.cells #[.int .i64 0] 2)).heap.size = w.heap.size + 1 + 1 := by simp
    have e3 : (((w.alloc (.cells #[.func (.func 47) #[] #[]] 83)).alloc (.cells #[.int .i64 0] 2)).alloc (.cells #[.pointer (some ⟨p, 0, none⟩)] 53)).heap.size = w.heap.size + 1 + 1 + 1 := by simp
    have h0 := heap_alloc_new w (.cells #[.func (.func 47) #[] #[]] 83)
    have h1 := heap_alloc_new (w.alloc (.cells #[.func (.func 47) #[] #[]] 83)) (.cells #[.int .i64 0] 2)
    have h2 := heap_alloc_new ((w.alloc (.cells #[.func (.func 47) #[] #[]] 83)).alloc (.cells #[.int .i64 0] 2)) (.cells #[.pointer (some ⟨p, 0, none⟩)] 53)
    rw [e1] at h1
    rw [e2] at h2
    generalize hw3 : ((w.alloc (.cells #[.func (.func 47) #[] #[]] 83)).alloc (.cells #[.int .i64 0] 2)).alloc (.cells #[.pointer (some ⟨p, 0, none⟩)] 53) = w3 at *
    have g0 : w3.heap[w.heap.size]? = some (.cells #[.func (.func 47) #[] #[]] 83) := by
      rw [← hw3, Below.heap_alloc _ _ _ (by rw [e2]; omega), Below.heap_alloc _ _ _ (by rw [e1]; omega)]; exact h0
    have g1 : w3.heap[w.heap.size + 1]? = some (.cells #[.int .i64 0] 2) := by
      rw [← hw3, Below.heap_alloc _ _ _ (by rw [e2]; omega)]; exact h1
    have hX3 : RdX w3 p s 0 := hX.below hb1 hp
    have hgb3 := cell_of_one h2
    have HL3 := Lib.hid (got49 w.heap.size (w.heap.size + 1) s v k er (.int .i64 0) w3 (cell_of_one g0) g1 (HL.out w3 hb1))
    have HW := going52 53 (.pointer (some ⟨w.heap.size, 0, none⟩)) (.pointer (some ⟨w.heap.size + 1, 0, none⟩)) (w.heap.size + 1 + 1) p s k er
      (fun W => W.heap[w.heap.size + 1]? = some (.cells #[.int .i64 v] 2 (0, 0)) ∧ w3.grownBy W (some (w.heap.size + 1))) w3 enters49 hX3 hgb3 hk
      (HL3.out.mono fun x w' ⟨hx, hv, hg⟩ => ⟨hx, ⟨hv, hg⟩, hX3.grown hg (by simp; omega), by
        rw [World.cell?_of_block (w := w3) (hg.block (w.heap.size + 1 + 1) (by omega) (by simp))]; exact hgb3⟩)
    refine HW.mono fun x w' hw => ?_
    obtain ⟨W, ⟨hv, hg⟩, hx, hr, hg2⟩ := hw
    refine ⟨hx, hr, (hg2.block _ (lt_of_blk hv) (by simp; omega)).trans hv, ?_⟩
    have s1 := hg.size
    exact ⟨hg2.os.trans (hg.os.trans hb1.os), hg2.tape.trans (hg.tape.trans hb1.tape), hg2.output.trans (hg.output.trans hb1.output), by have := hg2.size; omega, fun i hi hne => (hg2.block i (by omega) hne).trans ((hg.block i (by omega) (by simp; omega)).trans (hb1.block i hi))⟩
  have HX := Lib.hid hX; clear hX
  by_cases he : er = 0
  · have hb : (er == 0) = true := by simpa using he
    have HV : Hid (pickV er (.int .i64 v) (.int .i64 0) = .int .i64 v) := if_pos he
    clear he
    go_enter Try.func46, Try.ntmps46
    go_wp2_with (first | (go_at_call 50; go_in) | (go_at_call 54; refine HG.out.mono ?_; rintro e w4 ⟨rfl, hr, hv, hg⟩; have cg := cell_of_one hv; have HR := Lib.hid hr; have HVV := Lib.hid hv; clear hr hv))
    go_ret
    exact ⟨by rw [HV.out]; rfl, HR.out, hg⟩
  · have hb : (er == 0) = false := by simpa using he
    have HV : Hid (pickV er (.int .i64 v) (.int .i64 0) = .int .i64 0) := if_neg he
    clear he
    go_enter Try.func46, Try.ntmps46
    go_wp2_with (first | (go_at_call 50; go_in) | (go_at_call 54; refine HG.out.mono ?_; rintro e w4 ⟨rfl, hr, hv, hg⟩; have HR := Lib.hid hr; have HVV := Lib.hid hv; clear hr hv))
    go_ret
    exact ⟨by rw [HV.out]; rfl, HR.out, hg⟩
end Go.Proofs.Ytjbhgifdpdnppaa
