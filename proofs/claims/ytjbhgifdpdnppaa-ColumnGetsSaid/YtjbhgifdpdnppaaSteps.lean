/- Contracts of the closures through which every call of the program's Reader goes: what becomes of the reader, for every look. -/
import Derived.Test.YtjbhgifdpdnppaaLooks
import Derived.StillTailTactics
namespace Go.Proofs.Ytjbhgifdpdnppaa
open Go.RowKit

/-- The program's reader at block p: what wasn't passed, and the fault. -/
def RdX (w : World) (p : Nat) (s : ByteArray) (e : Int) : Prop := w.heap[p]? = some (.cells #[.string s, .int .i64 e] 72 (0, 0))

theorem RdX.lt {w : World} {p : Nat} {s : ByteArray} {e : Int} (h : RdX w p s e) : p < w.heap.size := lt_of_blk h
theorem RdX.c0 {w : World} {p : Nat} {s : ByteArray} {e : Int} (h : RdX w p s e) : w.cell? ⟨p, 0, none⟩ = some (.string s) := by rw [cell_of_row w p 0 _ 72 (0, 0) h]; rfl
theorem RdX.c1 {w : World} {p : Nat} {s : ByteArray} {e : Int} (h : RdX w p s e) : w.cell? ⟨p, 1, none⟩ = some (.int .i64 e) := by rw [cell_of_row w p 1 _ 72 (0, 0) h]; rfl
theorem RdX.f {w : World} {p : Nat} {s : ByteArray} {e : Int} (h : RdX w p s e) (i : Nat) : w.frozen? ⟨p, i, none⟩ = false := free_of_blkN h i
theorem RdX.set0 {w : World} {p : Nat} {s : ByteArray} {e : Int} (h : RdX w p s e) (t : ByteArray) : RdX (w.setCell ⟨p, 0, none⟩ (.string t)) p t e := set_blkN h 0 (.string t)
theorem RdX.set1 {w : World} {p : Nat} {s : ByteArray} {e : Int} (h : RdX w p s e) (t : Int) : RdX (w.setCell ⟨p, 1, none⟩ (.int .i64 t)) p s t := set_blkN h 1 (.int .i64 t)
theorem RdX.grown {w w' : World} {p : Nat} {s : ByteArray} {e : Int} {r : Option Nat} (h : RdX w p s e) (hg : w.grownBy w' r) (hr : some p ≠ r) : RdX w' p s e := (hg.block p h.lt hr).trans h
theorem RdX.below {w w' : World} {p B : Nat} {s : ByteArray} {e : Int} (h : RdX w p s e) (hb : Below B w w') (hB : p < B) : RdX w' p s e := (hb.block p hB).trans h

theorem fault22 (p : Nat) (s : ByteArray) (e : Int) (w : World) (hX : RdX w p s e) :
    Calls Try.prog 25 #[.pointer (some ⟨p, 0, none⟩)] w fun x w' => x = .returned (.int .i64 e) ∧ w = w' := by
  have c1 := hX.c1
  have HX := Lib.hid hX; clear hX
  go_enter Try.func25, Try.ntmps25
  go_wp2
  go_ret
  exact ⟨rfl, rfl⟩
theorem fault22_nil (w : World) : Calls Try.prog 25 #[.pointer none] w fun x w' => x = .returned (.int .i64 1) ∧ w = w' := by
  go_enter Try.func25, Try.ntmps25
  go_wp2
  go_ret
  exact ⟨rfl, rfl⟩
theorem left23 (p : Nat) (s : ByteArray) (e : Int) (w : World) (hX : RdX w p s e) :
    Calls Try.prog 26 #[.pointer (some ⟨p, 0, none⟩)] w fun x w' => x = .returned (.int .i64 (s.size : Int)) ∧ w = w' := by
  have c1 := hX.c0
  have HX := Lib.hid hX; clear hX
  go_enter Try.func26, Try.ntmps26
  go_wp2
  go_ret
  exact ⟨rfl, rfl⟩
theorem left23_nil (w : World) : Calls Try.prog 26 #[.pointer none] w fun x w' => x = .returned (.int .i64 0) ∧ w = w' := by
  go_enter Try.func26, Try.ntmps26
  go_wp2
  go_ret
  exact ⟨rfl, rfl⟩
theorem read18 (s : ByteArray) (w : World) : Calls Try.prog 21 #[.string s] w fun x w' => x = .returned (.pointer (some ⟨w.heap.size, 0, none⟩)) ∧ RdX w' w.heap.size s 0 ∧ Below w.heap.size w w' := by
  go_enter Try.func21, Try.ntmps21
  go_wp2
  go_ret
  exact ⟨rfl, heap_alloc_new w _, (Below.refl _ w).alloc (Nat.le_refl _) _⟩

/-- A look that goes well, a look that faults: what becomes of the reader. -/
def AfterX (s : ByteArray) (e k er : Int) : ByteArray × Int := if e = 0 then (if er = 0 then (s.extract k.toNat s.size, 0) else (s, er)) else (s, e)

/-- Behind a look: the world that it left, the answer, the reader. -/
def Went (p : Nat) (s : ByteArray) (k : Nat) (er : Int) (R : World → Prop) (x : Ending) (w' : World) : Prop :=
  ∃ W, R W ∧ x = .returned (.bool (er == 0)) ∧ RdX w' p (AfterX s 0 k er).1 (AfterX s 0 k er).2 ∧ W.grownBy w' (some p)

theorem grown_setN (W : World) (p i : Nat) (v : Value) : W.grownBy (W.setCell ⟨p, i, none⟩ v) (some p) :=
  ⟨rfl, rfl, rfl, by simp [World.setCell], fun k _ hk => Below.heap_setCell W ⟨p, i, none⟩ v k (fun e => hk (by rw [e]))⟩
theorem drew_grown {W w' : World} {r : Option Nat} (h : W.drew.grownBy w' r) : W.grownBy w' r := ⟨h.os, h.tape, h.output, h.size, h.block⟩

set_option maxRecDepth 100000 in
set_option maxHeartbeats 1000000 in
theorem going52 (f : Nat) (c1 c2 : Value) (gb p : Nat) (s : ByteArray) (k : Nat) (er : Int) (R : World → Prop) (w : World)
    (HE : ∀ (args : Array Value) (w : World), (callFunc f args).run Try.prog w = .ok (.enter f args) w)
    (hX : RdX w p s 0) (hgb : w.cell? ⟨gb, 0, none⟩ = some (.pointer (some ⟨p, 0, none⟩))) (hk : k ≤ s.size)
    (HL : Hid (Calls Try.prog f #[.string s, c1, c2] w fun x w' => x = .returned (.tuple #[.int .i64 k, .int .i64 er]) ∧ R w' ∧ RdX w' p s 0 ∧ w'.cell? ⟨gb, 0, none⟩ = some (.pointer (some ⟨p, 0, none⟩)))) :
    Calls Try.prog 54 #[.func (.func f) #[] #[c1, c2], .pointer (some ⟨gb, 0, none⟩)] w (Went p s k er R) := by
  by_cases he : er = 0
  · have hb : (er != 0) = false := by simpa using he
    have c0 := hX.c0
    have HF := Lib.hid (fault22 p s 0 w hX)
    have HX := Lib.hid hX; clear hX
    have HR := Lib.hid he; clear he
    go_enter Try.func54, Try.ntmps54
    go_wp2_with (first
      | (go_at_call 25; refine HF.out.mono ?_; rintro e w' ⟨rfl, rfl⟩)
      | (with_reducible refine HL.out.mono ?_; rintro e w1 ⟨rfl, hR, hX1, hgb1⟩; have c01 := hX1.c0; have f01 := hX1.f 0; have HX1 := Lib.hid hX1; clear hX1 c0 hgb))
    have ht : (k : Int).toNat = k := rfl
    go_region
    all_goals go_wp2
    all_goals go_ret
    all_goals
      refine ⟨w1, hR, ?_, ?_, ?_⟩
      · have e1 : (er == 0) = true := by simpa using HR.out
        rw [e1]; rfl
      · unfold AfterX
        rw [if_pos rfl, if_pos HR.out]
        exact RdX.set0 (w := w1) HX1.out _
      · first | exact drew_grown (grown_setN _ p 0 _) | exact grown_setN _ p 0 _
  · have hb : (er != 0) = true := by simpa using he
    have c0 := hX.c0
    have HF := Lib.hid (fault22 p s 0 w hX)
    have HX := Lib.hid hX; clear hX
    have HR := Lib.hid he; clear he
    go_enter Try.func54, Try.ntmps54
    go_wp2_with (first
      | (go_at_call 25; refine HF.out.mono ?_; rintro e w' ⟨rfl, rfl⟩)
      | (with_reducible refine HL.out.mono ?_; rintro e w1 ⟨rfl, hR, hX1, hgb1⟩; have f01 := hX1.f 1; have c11 := hX1.c1; have HX1 := Lib.hid hX1; clear hX1 c0 hgb))
    go_ret
    refine ⟨w1, hR, ?_, ?_, grown_setN w1 p 1 _⟩
    · have e1 : (er == 0) = false := by simpa using HR.out
      rw [e1]; rfl
    · unfold AfterX
      rw [if_pos rfl, if_neg HR.out]
      exact HX1.out.set1 er

theorem going52_stop (f : Nat) (caps : Array Value) (gb : Nat) (q : Value) (e : Int) (w : World) (he : e ≠ 0)
    (HF : Hid (Calls Try.prog 25 #[q] w fun x w' => x = .returned (.int .i64 e) ∧ w = w')) (hgb : w.cell? ⟨gb, 0, none⟩ = some q) :
    Calls Try.prog 54 #[.func (.func f) #[] caps, .pointer (some ⟨gb, 0, none⟩)] w fun x w' => x = .returned (.bool false) ∧ w = w' := by
  have hb : (e != 0) = true := by simpa using he
  have HR := Lib.hid he; clear he
  go_enter Try.func54, Try.ntmps54
  go_wp2_with (go_at_call 25; refine HF.out.mono ?_; rintro e w' ⟨rfl, rfl⟩)
  go_ret
  exact ⟨rfl, rfl⟩

set_option maxRecDepth 100000 in
theorem got48 (cap : Value) (gr gg : Nat) (s : ByteArray) (v : Int) (k er : Int) (old : Value) (w : World)
    (hgr : w.cell? ⟨gr, 0, none⟩ = some (.func (.func 40) #[] #[cap])) (hgg : w.heap[gg]? = some (.cells #[old] 47 (0, 0)))
    (HL : Hid (Calls Try.prog 40 #[.string s, cap] w fun x w' => x = .returned (.tuple #[.int .u64 v, .int .i64 k, .int .i64 er]) ∧ Below w.heap.size w w')) :
    Calls Try.prog 52 #[.string s, .pointer (some ⟨gr, 0, none⟩), .pointer (some ⟨gg, 0, none⟩)] w fun x w' => x = .returned (.tuple #[.int .i64 k, .int .i64 er]) ∧ w'.heap[gg]? = some (.cells #[.int .u64 v] 47 (0, 0)) ∧ w.grownBy w' (some gg) := by
  have HG := Lib.hid hgg; clear hgg
  go_enter Try.func52, Try.ntmps52
  go_wp2_with (with_reducible refine HL.out.mono ?_; rintro e w1 ⟨rfl, hb1⟩; have HG1 := Lib.hid ((hb1.block gg (lt_of_blk HG.out)).trans HG.out); have cg := cell_of_one HG1.out; have fg := free_of_blkN HG1.out 0)
  go_ret2
  refine ⟨rfl, set_blkN HG1.out 0 (.int .u64 v), ?_⟩
  have this := grown_setN w1 gg 0 (.int .u64 v)
  exact ⟨this.os.trans hb1.os, this.tape.trans hb1.tape, this.output.trans hb1.output, Nat.le_trans hb1.size this.size, fun i hi hne => (this.block i (by have := hb1.size; omega) hne).trans (hb1.block i hi)⟩

set_option maxRecDepth 100000 in
theorem got49 (gr gg : Nat) (s : ByteArray) (v : Int) (k er : Int) (old : Value) (w : World)
    (hgr : w.cell? ⟨gr, 0, none⟩ = some (.func (.func 47) #[] #[])) (hgg : w.heap[gg]? = some (.cells #[old] 2 (0, 0)))
    (HL : Hid (Calls Try.prog 47 #[.string s] w fun x w' => x = .returned (.tuple #[.int .i64 v, .int .i64 k, .int .i64 er]) ∧ Below w.heap.size w w')) :
    Calls Try.prog 53 #[.string s, .pointer (some ⟨gr, 0, none⟩), .pointer (some ⟨gg, 0, none⟩)] w fun x w' => x = .returned (.tuple #[.int .i64 k, .int .i64 er]) ∧ w'.heap[gg]? = some (.cells #[.int .i64 v] 2 (0, 0)) ∧ w.grownBy w' (some gg) := by
  have HG := Lib.hid hgg; clear hgg
  go_enter Try.func53, Try.ntmps53
  go_wp2_with (with_reducible refine HL.out.mono ?_; rintro e w1 ⟨rfl, hb1⟩; have HG1 := Lib.hid ((hb1.block gg (lt_of_blk HG.out)).trans HG.out); have cg := cell_of_one HG1.out; have fg := free_of_blkN HG1.out 0)
  go_ret2
  refine ⟨rfl, set_blkN HG1.out 0 (.int .i64 v), ?_⟩
  have this := grown_setN w1 gg 0 (.int .i64 v)
  exact ⟨this.os.trans hb1.os, this.tape.trans hb1.tape, this.output.trans hb1.output, Nat.le_trans hb1.size this.size, fun i hi hne => (this.block i (by have := hb1.size; omega) hne).trans (hb1.block i hi)⟩

theorem enters48 (args : Array Value) (w : World) : (callFunc 52 args).run Try.prog w = .ok (.enter 52 args) w := by kernel_rfl
theorem enters49 (args : Array Value) (w : World) : (callFunc 53 args).run Try.prog w = .ok (.enter 53 args) w := by kernel_rfl
end Go.Proofs.Ytjbhgifdpdnppaa
