/- Contracts of what the program's Reader answers through a look: the value if neither the reader nor the look faults, else zero. -/
import Derived.Test.YtipaicfmodgcoaaDoorSteps
namespace Go.Proofs.YtipaicfmodgcoaaDoor
open Go.RowKit

/-- The first, if there is no fault. -/
def pickV (er : Int) (a b : Value) : Value := if er = 0 then a else b

set_option maxRecDepth 100000 in
set_option maxHeartbeats 1000000 in
theorem answer33 (cap : Value) (p : Nat) (s : ByteArray) (v : Int) (k : Nat) (er : Int) (w : World) (hX : RdX w p s 0) (hk : k ≤ s.size)
    (HL : Hid (∀ W : World, Below w.heap.size w W → Calls Tryd.prog 59 #[.string s, cap] W fun x w' => x = .returned (.tuple #[.int .u64 v, .int .i64 k, .int .i64 er]) ∧ Below W.heap.size W w')) :
    Calls Tryd.prog 58 #[.pointer (some ⟨p, 0, none⟩), .func (.func 59) #[] #[cap]] w fun x w' => x = .returned (pickV er (.int .u64 v) (.int .u64 0)) ∧ RdX w' p (AfterX s 0 k er).1 (AfterX s 0 k er).2 ∧ w.grownBy w' (some p) := by
  have hp := hX.lt
  have HG : Hid (Calls Tryd.prog 75 #[.func (.func 71) #[] #[.pointer (some ⟨w.heap.size, 0, none⟩), .pointer (some ⟨w.heap.size + 1, 0, none⟩)], .pointer (some ⟨w.heap.size + 1 + 1, 0, none⟩)]
      (((w.alloc (.cells #[.func (.func 59) #[] #[cap]] 101)).alloc (.cells #[.int .u64 0] 63)).alloc (.cells #[.pointer (some ⟨p, 0, none⟩)] 91)) fun x w' => x = .returned (.bool (er == 0)) ∧ RdX w' p (AfterX s 0 k er).1 (AfterX s 0 k er).2 ∧ w'.heap[w.heap.size + 1]? = some (.cells #[.int .u64 v] 63 (0, 0)) ∧ w.grownBy w' (some p)) := by
    have hb1 : Below w.heap.size w (((w.alloc (.cells #[.func (.func 59) #[] #[cap]] 101)).alloc (.cells #[.int .u64 0] 63)).alloc (.cells #[.pointer (some ⟨p, 0, none⟩)] 91)) :=
      (((Below.refl _ w).alloc (Nat.le_refl _) _).alloc (by simp) _).alloc (by simp; omega) _
    have e1 : (w.alloc (.cells #[.func (.func 59) #[] #[cap]] 101)).heap.size = w.heap.size + 1 := by simp
    have e2 : ((w.alloc (.cells #[.func (.func 59) #[] #[cap]] 101)).alloc (.cells #[.int .u64 0] 63)).heap.size = w.heap.size + 1 + 1 := by simp
    have e3 : (((w.alloc (.cells #[.func (.func 59) #[] #[cap]] 101)).alloc (.cells #[.int .u64 0] 63)).alloc (.cells #[.pointer (some ⟨p, 0, none⟩)] 91)).heap.size = w.heap.size + 1 + 1 + 1 := by simp
    have h0 := heap_alloc_new w (.cells #[.func (.func 59) #[] #[cap]] 101)
    have h1 := heap_alloc_new (w.alloc (.cells #[.func (.func 59) #[] #[cap]] 101)) (.cells #[.int .u64 0] 63)
    have h2 := heap_alloc_new ((w.alloc (.cells #[.func (.func 59) #[] #[cap]] 101)).alloc (.cells #[.int .u64 0] 63)) (.cells #[.pointer (some ⟨p, 0, none⟩)] 91)
    rw [e1] at h1
    rw [e2] at h2
    generalize hw3 : ((w.alloc (.cells #[.func (.func 59) #[] #[cap]] 101)).alloc (.cells #[.int .u64 0] 63)).alloc (.cells #[.pointer (some ⟨p, 0, none⟩)] 91) = w3 at *
    have g0 : w3.heap[w.heap.size]? = some (.cells #[.func (.func 59) #[] #[cap]] 101) := by
      rw [← hw3, Below.heap_alloc _ _ _ (by rw [e2]; omega), Below.heap_alloc _ _ _ (by rw [e1]; omega)]; exact h0
    have g1 : w3.heap[w.heap.size + 1]? = some (.cells #[.int .u64 0] 63) := by
      rw [← hw3, Below.heap_alloc _ _ _ (by rw [e2]; omega)]; exact h1
    have hX3 : RdX w3 p s 0 := hX.below hb1 hp
    have hgb3 := cell_of_one h2
    have HL3 := Lib.hid (got48 cap w.heap.size (w.heap.size + 1) s v k er (.int .u64 0) w3 (cell_of_one g0) g1 (HL.out w3 hb1))
    have HW := going52 71 (.pointer (some ⟨w.heap.size, 0, none⟩)) (.pointer (some ⟨w.heap.size + 1, 0, none⟩)) (w.heap.size + 1 + 1) p s k er
      (fun W => W.heap[w.heap.size + 1]? = some (.cells #[.int .u64 v] 63 (0, 0)) ∧ w3.grownBy W (some (w.heap.size + 1))) w3 enters48 hX3 hgb3 hk
      (HL3.out.mono fun x w' ⟨hx, hv, hg⟩ => ⟨hx, ⟨hv, hg⟩, hX3.grown hg (by simp; omega), by
        rw [World.cell?_of_block (w := w3) (hg.block (w.heap.size + 1 + 1) (by omega) (by simp))]; exact hgb3⟩)
    refine HW.mono fun x w' hw => ?_
    obtain ⟨W, ⟨hv, hg⟩, hx, hr, hg2⟩ := hw
    refine ⟨hx, hr, (hg2.block _ (lt_of_blk hv) (by simp; omega)).trans hv, ?_⟩
    have s1 := hg.size
    exact ⟨hg2.os.trans (hg.os.trans hb1.os), hg2.tape.trans (hg.tape.trans hb1.tape), hg2.output.trans (hg.output.trans hb1.output), by have := hg2.size; omega, fun i hi hne => (hg2.block i (by omega) hne).trans ((hg.block i (by omega) (by simp; omega)).trans (hb1.block i hi))⟩
  have HX := Lib.hid hX; clear hX
  by_cases he : er = 0
  · have hb : (er == 0) = true := by simpa using he
    have HV : Hid (pickV er (.int .u64 v) (.int .u64 0) = .int .u64 v) := if_pos he
    clear he
    go_enter Tryd.func58, Tryd.ntmps58
    go_wp2_with (first | (go_at_call 66; go_in) | (go_at_call 75; refine HG.out.mono ?_; rintro e w4 ⟨rfl, hr, hv, hg⟩; have cg := cell_of_one hv; have HR := Lib.hid hr; have HVV := Lib.hid hv; clear hr hv))
    go_ret
    exact ⟨by rw [HV.out]; rfl, HR.out, hg⟩
  · have hb : (er == 0) = false := by simpa using he
    have HV : Hid (pickV er (.int .u64 v) (.int .u64 0) = .int .u64 0) := if_neg he
    clear he
    go_enter Tryd.func58, Tryd.ntmps58
    go_wp2_with (first | (go_at_call 66; go_in) | (go_at_call 75; refine HG.out.mono ?_; rintro e w4 ⟨rfl, hr, hv, hg⟩; have HR := Lib.hid hr; have HVV := Lib.hid hv; clear hr hv))
    go_ret
    exact ⟨by rw [HV.out]; rfl, HR.out, hg⟩

set_option maxRecDepth 100000 in
set_option maxHeartbeats 1000000 in
theorem answer40 (f : Nat) (cap : Value) (p : Nat) (s : ByteArray) (v : ByteArray) (k : Nat) (er : Int) (w : World) (HE : ∀ (args : Array Value) (w : World), (callFunc f args).run Tryd.prog w = .ok (.enter f args) w) (hX : RdX w p s 0) (hk : k ≤ s.size)
    (HL : Hid (∀ W : World, Below w.heap.size w W → Calls Tryd.prog f #[.string s, cap] W fun x w' => x = .returned (.tuple #[.string v, .int .i64 k, .int .i64 er]) ∧ Below W.heap.size W w')) :
    Calls Tryd.prog 62 #[.pointer (some ⟨p, 0, none⟩), .func (.func f) #[] #[cap]] w fun x w' => x = .returned (pickV er (.string v) (.string ⟨#[]⟩)) ∧ RdX w' p (AfterX s 0 k er).1 (AfterX s 0 k er).2 ∧ w.grownBy w' (some p) := by
  have hp := hX.lt
  have HG : Hid (Calls Tryd.prog 75 #[.func (.func 73) #[] #[.pointer (some ⟨w.heap.size, 0, none⟩), .pointer (some ⟨w.heap.size + 1, 0, none⟩)], .pointer (some ⟨w.heap.size + 1 + 1, 0, none⟩)]
      (((w.alloc (.cells #[.func (.func f) #[] #[cap]] 111)).alloc (.cells #[.string ⟨#[]⟩] 9)).alloc (.cells #[.pointer (some ⟨p, 0, none⟩)] 91)) fun x w' => x = .returned (.bool (er == 0)) ∧ RdX w' p (AfterX s 0 k er).1 (AfterX s 0 k er).2 ∧ w'.heap[w.heap.size + 1]? = some (.cells #[.string v] 9 (0, 0)) ∧ w.grownBy w' (some p)) := by
    have hb1 : Below w.heap.size w (((w.alloc (.cells #[.func (.func f) #[] #[cap]] 111)).alloc (.cells #[.string ⟨#[]⟩] 9)).alloc (.cells #[.pointer (some ⟨p, 0, none⟩)] 91)) :=
      (((Below.refl _ w).alloc (Nat.le_refl _) _).alloc (by simp) _).alloc (by simp; omega) _
    have e1 : (w.alloc (.cells #[.func (.func f) #[] #[cap]] 111)).heap.size = w.heap.size + 1 := by simp
    have e2 : ((w.alloc (.cells #[.func (.func f) #[] #[cap]] 111)).alloc (.cells #[.string ⟨#[]⟩] 9)).heap.size = w.heap.size + 1 + 1 := by simp
    have e3 : (((w.alloc (.cells #[.func (.func f) #[] #[cap]] 111)).alloc (.cells #[.string ⟨#[]⟩] 9)).alloc (.cells #[.pointer (some ⟨p, 0, none⟩)] 91)).heap.size = w.heap.size + 1 + 1 + 1 := by simp
    have h0 := heap_alloc_new w (.cells #[.func (.func f) #[] #[cap]] 111)
    have h1 := heap_alloc_new (w.alloc (.cells #[.func (.func f) #[] #[cap]] 111)) (.cells #[.string ⟨#[]⟩] 9)
    have h2 := heap_alloc_new ((w.alloc (.cells #[.func (.func f) #[] #[cap]] 111)).alloc (.cells #[.string ⟨#[]⟩] 9)) (.cells #[.pointer (some ⟨p, 0, none⟩)] 91)
    rw [e1] at h1
    rw [e2] at h2
    generalize hw3 : ((w.alloc (.cells #[.func (.func f) #[] #[cap]] 111)).alloc (.cells #[.string ⟨#[]⟩] 9)).alloc (.cells #[.pointer (some ⟨p, 0, none⟩)] 91) = w3 at *
    have g0 : w3.heap[w.heap.size]? = some (.cells #[.func (.func f) #[] #[cap]] 111) := by
      rw [← hw3, Below.heap_alloc _ _ _ (by rw [e2]; omega), Below.heap_alloc _ _ _ (by rw [e1]; omega)]; exact h0
    have g1 : w3.heap[w.heap.size + 1]? = some (.cells #[.string ⟨#[]⟩] 9) := by
      rw [← hw3, Below.heap_alloc _ _ _ (by rw [e2]; omega)]; exact h1
    have hX3 : RdX w3 p s 0 := hX.below hb1 hp
    have hgb3 := cell_of_one h2
    have HL3 := Lib.hid (got50 f cap w.heap.size (w.heap.size + 1) s v k er (.string ⟨#[]⟩) w3 HE (cell_of_one g0) g1 (HL.out w3 hb1))
    have HW := going52 73 (.pointer (some ⟨w.heap.size, 0, none⟩)) (.pointer (some ⟨w.heap.size + 1, 0, none⟩)) (w.heap.size + 1 + 1) p s k er
      (fun W => W.heap[w.heap.size + 1]? = some (.cells #[.string v] 9 (0, 0)) ∧ w3.grownBy W (some (w.heap.size + 1))) w3 enters50 hX3 hgb3 hk
      (HL3.out.mono fun x w' ⟨hx, hv, hg⟩ => ⟨hx, ⟨hv, hg⟩, hX3.grown hg (by simp; omega), by
        rw [World.cell?_of_block (w := w3) (hg.block (w.heap.size + 1 + 1) (by omega) (by simp))]; exact hgb3⟩)
    refine HW.mono fun x w' hw => ?_
    obtain ⟨W, ⟨hv, hg⟩, hx, hr, hg2⟩ := hw
    refine ⟨hx, hr, (hg2.block _ (lt_of_blk hv) (by simp; omega)).trans hv, ?_⟩
    have s1 := hg.size
    exact ⟨hg2.os.trans (hg.os.trans hb1.os), hg2.tape.trans (hg.tape.trans hb1.tape), hg2.output.trans (hg.output.trans hb1.output), by have := hg2.size; omega, fun i hi hne => (hg2.block i (by omega) hne).trans ((hg.block i (by omega) (by simp; omega)).trans (hb1.block i hi))⟩
  have HX := Lib.hid hX; clear hX
  by_cases he : er = 0
  · have hb : (er == 0) = true := by simpa using he
    have HV : Hid (pickV er (.string v) (.string ⟨#[]⟩) = .string v) := if_pos he
    clear he
    go_enter Tryd.func62, Tryd.ntmps62
    go_wp2_with (first | (go_at_call 66; go_in) | (go_at_call 75; refine HG.out.mono ?_; rintro e w4 ⟨rfl, hr, hv, hg⟩; have cg := cell_of_one hv; have HR := Lib.hid hr; have HVV := Lib.hid hv; clear hr hv))
    go_ret
    exact ⟨by rw [HV.out]; rfl, HR.out, hg⟩
  · have hb : (er == 0) = false := by simpa using he
    have HV : Hid (pickV er (.string v) (.string ⟨#[]⟩) = .string ⟨#[]⟩) := if_neg he
    clear he
    go_enter Tryd.func62, Tryd.ntmps62
    go_wp2_with (first | (go_at_call 66; go_in) | (go_at_call 75; refine HG.out.mono ?_; rintro e w4 ⟨rfl, hr, hv, hg⟩; have HR := Lib.hid hr; have HVV := Lib.hid hv; clear hr hv))
    go_ret
    exact ⟨by rw [HV.out]; rfl, HR.out, hg⟩
end Go.Proofs.YtipaicfmodgcoaaDoor
