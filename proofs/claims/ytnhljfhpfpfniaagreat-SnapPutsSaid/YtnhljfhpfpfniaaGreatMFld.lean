/- Pointers to fields; what reads and writes a number through them: contracts. What makes a number of a pointer to it: contracts. What each thing's number is, as a column: contracts. What tells a column of a list that lies in a book: contracts. A column that is taken into a list of things: contracts. A book that is being made: its box, its rows; what stays as it lies. What takes a column into a list that lies in a book: contracts. A list of things that is laid as its fields: contracts. The library's Grow, Concat, of fields: contracts. -/
import Derived.Test.YtnhljfhpfpfniaaGreatProg
import Derived.Test.YtnhljfhpfpfniaaGreatBase2
import Derived.Test.YtnhljfhpfpfniaaGreatBkRef1
import Derived.Test.YtnhljfhpfpfniaaGreatClP3
import Derived.Test.YtnhljfhpfpfniaaGreatClRef1
import Derived.Test.YtnhljfhpfpfniaaGreatSnMath
import Derived.StillTailTactics
import Derived.Test.YtnhljfhpfpfniaaGreatBkSet
import Derived.Laws.OwnMore
import Derived.Test.YtnhljfhpfpfniaaGreatMNums
import Derived.Lib.AppendZeros
namespace Go.Proofs.YtnhljfhpfpfniaaGreat
open Go.RowKit Base Base2

/-- A closure that points to the field that stands so far behind. -/
structure PtOk (f j : Nat) : Prop where
  en : ∀ (args : Array Value) (w : World), (callFunc f args).run Tryz.prog w = .ok (.enter f args) w
  go : ∀ (g i : Nat) (w : World), Calls Tryz.prog f #[.pointer (some ⟨g, i, none⟩)] w fun e w' => e = .returned (.pointer (some ⟨g, i + j, none⟩)) ∧ w = w'
theorem pt1 : PtOk 41 0 := by
  refine ⟨fun _ _ => by kernel_rfl, fun g i w => ?_⟩
  go_enter Tryz.func41, Tryz.ntmps41
  go_wp2
  go_ret
  exact ⟨rfl, rfl⟩
theorem pt2 : PtOk 42 1 := by
  refine ⟨fun _ _ => by kernel_rfl, fun g i w => ?_⟩
  go_enter Tryz.func42, Tryz.ntmps42
  go_wp2
  go_ret
  exact ⟨rfl, rfl⟩
theorem pt3 : PtOk 43 2 := by
  refine ⟨fun _ _ => by kernel_rfl, fun g i w => ?_⟩
  go_enter Tryz.func43, Tryz.ntmps43
  go_wp2
  go_ret
  exact ⟨rfl, rfl⟩
theorem pt4 : PtOk 44 3 := by
  refine ⟨fun _ _ => by kernel_rfl, fun g i w => ?_⟩
  go_enter Tryz.func44, Tryz.ntmps44
  go_wp2
  go_ret
  exact ⟨rfl, rfl⟩
theorem pt5 : PtOk 47 0 := by
  refine ⟨fun _ _ => by kernel_rfl, fun g i w => ?_⟩
  go_enter Tryz.func47, Tryz.ntmps47
  go_wp2
  go_ret
  exact ⟨rfl, rfl⟩
theorem pt6 : PtOk 48 1 := by
  refine ⟨fun _ _ => by kernel_rfl, fun g i w => ?_⟩
  go_enter Tryz.func48, Tryz.ntmps48
  go_wp2
  go_ret
  exact ⟨rfl, rfl⟩
theorem pt7 : PtOk 49 2 := by
  refine ⟨fun _ _ => by kernel_rfl, fun g i w => ?_⟩
  go_enter Tryz.func49, Tryz.ntmps49
  go_wp2
  go_ret
  exact ⟨rfl, rfl⟩
theorem pt8 : PtOk 52 0 := by
  refine ⟨fun _ _ => by kernel_rfl, fun g i w => ?_⟩
  go_enter Tryz.func52, Tryz.ntmps52
  go_wp2
  go_ret
  exact ⟨rfl, rfl⟩
theorem pt9 : PtOk 53 1 := by
  refine ⟨fun _ _ => by kernel_rfl, fun g i w => ?_⟩
  go_enter Tryz.func53, Tryz.ntmps53
  go_wp2
  go_ret
  exact ⟨rfl, rfl⟩
theorem pt10 : PtOk 54 2 := by
  refine ⟨fun _ _ => by kernel_rfl, fun g i w => ?_⟩
  go_enter Tryz.func54, Tryz.ntmps54
  go_wp2
  go_ret
  exact ⟨rfl, rfl⟩
theorem pt11 : PtOk 56 3 := by
  refine ⟨fun _ _ => by kernel_rfl, fun g i w => ?_⟩
  go_enter Tryz.func56, Tryz.ntmps56
  go_wp2
  go_ret
  exact ⟨rfl, rfl⟩
theorem pt12 : PtOk 57 4 := by
  refine ⟨fun _ _ => by kernel_rfl, fun g i w => ?_⟩
  go_enter Tryz.func57, Tryz.ntmps57
  go_wp2
  go_ret
  exact ⟨rfl, rfl⟩
theorem pt13 : PtOk 58 5 := by
  refine ⟨fun _ _ => by kernel_rfl, fun g i w => ?_⟩
  go_enter Tryz.func58, Tryz.ntmps58
  go_wp2
  go_ret
  exact ⟨rfl, rfl⟩
theorem pt14 : PtOk 61 0 := by
  refine ⟨fun _ _ => by kernel_rfl, fun g i w => ?_⟩
  go_enter Tryz.func61, Tryz.ntmps61
  go_wp2
  go_ret
  exact ⟨rfl, rfl⟩
theorem pt15 : PtOk 62 1 := by
  refine ⟨fun _ _ => by kernel_rfl, fun g i w => ?_⟩
  go_enter Tryz.func62, Tryz.ntmps62
  go_wp2
  go_ret
  exact ⟨rfl, rfl⟩
set_option maxRecDepth 100000 in
set_option maxHeartbeats 4000000 in
theorem rdHolder (f j g i bx : Nat) (z : Int) (w : World) (hp : PtOk f j) (hb : w.heap[bx]? = some (.cells #[.func (.func f) #[] #[]] 98 (0, 0))) (hc : w.cell? ⟨g, i + j, none⟩ = some (.int .i64 z)) :
    Calls Tryz.prog 108 #[.pointer (some ⟨g, i, none⟩), .pointer (some ⟨bx, 0, none⟩)] w fun e w' => e = .returned (.int .i64 z) ∧ w = w' := by
  have k0 := cell_of_one hb
  have hen := hp.en
  have HC := Lib.hid (hp.go g i w)
  clear hb hp
  go_enter Tryz.func108, Tryz.ntmps108
  go_wp2_with (with_reducible refine HC.out.mono ?_; rintro e w1 ⟨rfl, rfl⟩)
  go_ret
  exact ⟨rfl, rfl⟩
set_option maxRecDepth 100000 in
set_option maxHeartbeats 4000000 in
theorem wrHolder (f j g i bx : Nat) (z : Int) (w : World) (hp : PtOk f j) (hb : w.heap[bx]? = some (.cells #[.func (.func f) #[] #[]] 98 (0, 0))) (old : Value) (ho : w.cell? ⟨g, i + j, none⟩ = some old) (hf : w.frozen? ⟨g, i + j, none⟩ = false) :
    Calls Tryz.prog 109 #[.pointer (some ⟨g, i, none⟩), .int .i64 z, .pointer (some ⟨bx, 0, none⟩)] w fun e w' => e = .returned (.tuple #[]) ∧ w' = w.setCell ⟨g, i + j, none⟩ (.int .i64 z) := by
  have k0 := cell_of_one hb
  have hen := hp.en
  have HC := Lib.hid (hp.go g i w)
  clear hb hp
  go_enter Tryz.func109, Tryz.ntmps109
  go_wp2_with (with_reducible refine HC.out.mono ?_; rintro e w1 ⟨rfl, rfl⟩)
  go_end0
  exact ⟨rfl, rfl⟩
theorem enrdHolder (args : Array Value) (w : World) : (callFunc 108 args).run Tryz.prog w = .ok (.enter 108 args) w := by kernel_rfl
theorem enwrHolder (args : Array Value) (w : World) : (callFunc 109 args).run Tryz.prog w = .ok (.enter 109 args) w := by kernel_rfl
set_option maxRecDepth 100000 in
set_option maxHeartbeats 4000000 in
theorem rdStake (f j g i bx : Nat) (z : Int) (w : World) (hp : PtOk f j) (hb : w.heap[bx]? = some (.cells #[.func (.func f) #[] #[]] 107 (0, 0))) (hc : w.cell? ⟨g, i + j, none⟩ = some (.int .i64 z)) :
    Calls Tryz.prog 114 #[.pointer (some ⟨g, i, none⟩), .pointer (some ⟨bx, 0, none⟩)] w fun e w' => e = .returned (.int .i64 z) ∧ w = w' := by
  have k0 := cell_of_one hb
  have hen := hp.en
  have HC := Lib.hid (hp.go g i w)
  clear hb hp
  go_enter Tryz.func114, Tryz.ntmps114
  go_wp2_with (with_reducible refine HC.out.mono ?_; rintro e w1 ⟨rfl, rfl⟩)
  go_ret
  exact ⟨rfl, rfl⟩
set_option maxRecDepth 100000 in
set_option maxHeartbeats 4000000 in
theorem wrStake (f j g i bx : Nat) (z : Int) (w : World) (hp : PtOk f j) (hb : w.heap[bx]? = some (.cells #[.func (.func f) #[] #[]] 107 (0, 0))) (old : Value) (ho : w.cell? ⟨g, i + j, none⟩ = some old) (hf : w.frozen? ⟨g, i + j, none⟩ = false) :
    Calls Tryz.prog 115 #[.pointer (some ⟨g, i, none⟩), .int .i64 z, .pointer (some ⟨bx, 0, none⟩)] w fun e w' => e = .returned (.tuple #[]) ∧ w' = w.setCell ⟨g, i + j, none⟩ (.int .i64 z) := by
  have k0 := cell_of_one hb
  have hen := hp.en
  have HC := Lib.hid (hp.go g i w)
  clear hb hp
  go_enter Tryz.func115, Tryz.ntmps115
  go_wp2_with (with_reducible refine HC.out.mono ?_; rintro e w1 ⟨rfl, rfl⟩)
  go_end0
  exact ⟨rfl, rfl⟩
theorem enrdStake (args : Array Value) (w : World) : (callFunc 114 args).run Tryz.prog w = .ok (.enter 114 args) w := by kernel_rfl
theorem enwrStake (args : Array Value) (w : World) : (callFunc 115 args).run Tryz.prog w = .ok (.enter 115 args) w := by kernel_rfl
set_option maxRecDepth 100000 in
set_option maxHeartbeats 4000000 in
theorem rdOpen (f j g i bx : Nat) (z : Int) (w : World) (hp : PtOk f j) (hb : w.heap[bx]? = some (.cells #[.func (.func f) #[] #[]] 116 (0, 0))) (hc : w.cell? ⟨g, i + j, none⟩ = some (.int .i64 z)) :
    Calls Tryz.prog 120 #[.pointer (some ⟨g, i, none⟩), .pointer (some ⟨bx, 0, none⟩)] w fun e w' => e = .returned (.int .i64 z) ∧ w = w' := by
  have k0 := cell_of_one hb
  have hen := hp.en
  have HC := Lib.hid (hp.go g i w)
  clear hb hp
  go_enter Tryz.func120, Tryz.ntmps120
  go_wp2_with (with_reducible refine HC.out.mono ?_; rintro e w1 ⟨rfl, rfl⟩)
  go_ret
  exact ⟨rfl, rfl⟩
set_option maxRecDepth 100000 in
set_option maxHeartbeats 4000000 in
theorem wrOpen (f j g i bx : Nat) (z : Int) (w : World) (hp : PtOk f j) (hb : w.heap[bx]? = some (.cells #[.func (.func f) #[] #[]] 116 (0, 0))) (old : Value) (ho : w.cell? ⟨g, i + j, none⟩ = some old) (hf : w.frozen? ⟨g, i + j, none⟩ = false) :
    Calls Tryz.prog 121 #[.pointer (some ⟨g, i, none⟩), .int .i64 z, .pointer (some ⟨bx, 0, none⟩)] w fun e w' => e = .returned (.tuple #[]) ∧ w' = w.setCell ⟨g, i + j, none⟩ (.int .i64 z) := by
  have k0 := cell_of_one hb
  have hen := hp.en
  have HC := Lib.hid (hp.go g i w)
  clear hb hp
  go_enter Tryz.func121, Tryz.ntmps121
  go_wp2_with (with_reducible refine HC.out.mono ?_; rintro e w1 ⟨rfl, rfl⟩)
  go_end0
  exact ⟨rfl, rfl⟩
theorem enrdOpen (args : Array Value) (w : World) : (callFunc 120 args).run Tryz.prog w = .ok (.enter 120 args) w := by kernel_rfl
theorem enwrOpen (args : Array Value) (w : World) : (callFunc 121 args).run Tryz.prog w = .ok (.enter 121 args) w := by kernel_rfl
set_option maxRecDepth 100000 in
set_option maxHeartbeats 4000000 in
theorem rdRate (f j g i bx : Nat) (z : Int) (w : World) (hp : PtOk f j) (hb : w.heap[bx]? = some (.cells #[.func (.func f) #[] #[]] 128 (0, 0))) (hc : w.cell? ⟨g, i + j, none⟩ = some (.int .i64 z)) :
    Calls Tryz.prog 128 #[.pointer (some ⟨g, i, none⟩), .pointer (some ⟨bx, 0, none⟩)] w fun e w' => e = .returned (.int .i64 z) ∧ w = w' := by
  have k0 := cell_of_one hb
  have hen := hp.en
  have HC := Lib.hid (hp.go g i w)
  clear hb hp
  go_enter Tryz.func128, Tryz.ntmps128
  go_wp2_with (with_reducible refine HC.out.mono ?_; rintro e w1 ⟨rfl, rfl⟩)
  go_ret
  exact ⟨rfl, rfl⟩
set_option maxRecDepth 100000 in
set_option maxHeartbeats 4000000 in
theorem wrRate (f j g i bx : Nat) (z : Int) (w : World) (hp : PtOk f j) (hb : w.heap[bx]? = some (.cells #[.func (.func f) #[] #[]] 128 (0, 0))) (old : Value) (ho : w.cell? ⟨g, i + j, none⟩ = some old) (hf : w.frozen? ⟨g, i + j, none⟩ = false) :
    Calls Tryz.prog 129 #[.pointer (some ⟨g, i, none⟩), .int .i64 z, .pointer (some ⟨bx, 0, none⟩)] w fun e w' => e = .returned (.tuple #[]) ∧ w' = w.setCell ⟨g, i + j, none⟩ (.int .i64 z) := by
  have k0 := cell_of_one hb
  have hen := hp.en
  have HC := Lib.hid (hp.go g i w)
  clear hb hp
  go_enter Tryz.func129, Tryz.ntmps129
  go_wp2_with (with_reducible refine HC.out.mono ?_; rintro e w1 ⟨rfl, rfl⟩)
  go_end0
  exact ⟨rfl, rfl⟩
theorem enrdRate (args : Array Value) (w : World) : (callFunc 128 args).run Tryz.prog w = .ok (.enter 128 args) w := by kernel_rfl
theorem enwrRate (args : Array Value) (w : World) : (callFunc 129 args).run Tryz.prog w = .ok (.enter 129 args) w := by kernel_rfl
set_option maxRecDepth 100000 in
set_option maxHeartbeats 4000000 in
theorem rdOpenI (f j g i bx : Nat) (z : Int) (w : World) (hp : PtOk f j) (hb : w.heap[bx]? = some (.cells #[.func (.func f) #[] #[]] 119 (0, 0))) (hc : w.cell? ⟨g, i + j, none⟩ = some (.int .i64 z)) :
    Calls Tryz.prog 122 #[.pointer (some ⟨g, i, none⟩), .pointer (some ⟨bx, 0, none⟩)] w fun e w' => e = .returned (.int .i64 z) ∧ w = w' := by
  have k0 := cell_of_one hb
  have hen := hp.en
  have HC := Lib.hid (hp.go g i w)
  clear hb hp
  go_enter Tryz.func122, Tryz.ntmps122
  go_wp2_with (with_reducible refine HC.out.mono ?_; rintro e w1 ⟨rfl, rfl⟩)
  go_ret
  exact ⟨rfl, rfl⟩
set_option maxRecDepth 100000 in
set_option maxHeartbeats 4000000 in
theorem wrOpenI (f j g i bx : Nat) (z : Int) (w : World) (hp : PtOk f j) (hb : w.heap[bx]? = some (.cells #[.func (.func f) #[] #[]] 119 (0, 0))) (old : Value) (ho : w.cell? ⟨g, i + j, none⟩ = some old) (hf : w.frozen? ⟨g, i + j, none⟩ = false) :
    Calls Tryz.prog 123 #[.pointer (some ⟨g, i, none⟩), .int .i64 z, .pointer (some ⟨bx, 0, none⟩)] w fun e w' => e = .returned (.tuple #[]) ∧ w' = w.setCell ⟨g, i + j, none⟩ (.int .i64 z) := by
  have k0 := cell_of_one hb
  have hen := hp.en
  have HC := Lib.hid (hp.go g i w)
  clear hb hp
  go_enter Tryz.func123, Tryz.ntmps123
  go_wp2_with (with_reducible refine HC.out.mono ?_; rintro e w1 ⟨rfl, rfl⟩)
  go_end0
  exact ⟨rfl, rfl⟩
theorem enrdOpenI (args : Array Value) (w : World) : (callFunc 122 args).run Tryz.prog w = .ok (.enter 122 args) w := by kernel_rfl
theorem enwrOpenI (args : Array Value) (w : World) : (callFunc 123 args).run Tryz.prog w = .ok (.enter 123 args) w := by kernel_rfl
/-- What reads and writes a number, as a value. -/
def numV (rf wf bx : Nat) : Array Value := #[.func (.func rf) #[] #[.pointer (some ⟨bx, 0, none⟩)], .func (.func wf) #[] #[.pointer (some ⟨bx, 0, none⟩)]]
end Go.Proofs.YtnhljfhpfpfniaaGreat

namespace Go.Proofs.YtnhljfhpfpfniaaGreat
open Go.RowKit Base Base2
theorem infoNHolder : (Tryz.prog.info? 94).map (·.size) = some 2 := by kernel_rfl
set_option maxRecDepth 100000 in
set_option maxHeartbeats 4000000 in
theorem atHolder (f : Nat) (w : World) :
    Calls Tryz.prog 40 #[.func (.func f) #[] #[]] w fun e w' => ∃ bx, e = .returned (.agg (numV 108 109 bx)) ∧ w'.heap[bx]? = some (.cells #[.func (.func f) #[] #[]] 98 (0, 0)) ∧ Below w.heap.size w w' := by
  go_enter Tryz.func40, Tryz.ntmps40
  go_wp2
  have h2 := heap_alloc_new (w.alloc (.cells #[.func (.func f) #[] #[]] 98)) (.cells (numV 108 109 w.heap.size) 94)
  rw [World.size_alloc] at h2
  refine ret_cell rfl rfl rfl h2 Tryz.underlying94 rfl infoNHolder ⟨w.heap.size, rfl, (Below.heap_alloc _ _ _ (by simp)).trans (heap_alloc_new w _), ((Below.refl _ w).alloc (Nat.le_refl _) _).alloc (by simp) _⟩
theorem infoNStake : (Tryz.prog.info? 104).map (·.size) = some 2 := by kernel_rfl
set_option maxRecDepth 100000 in
set_option maxHeartbeats 4000000 in
theorem atStake (f : Nat) (w : World) :
    Calls Tryz.prog 46 #[.func (.func f) #[] #[]] w fun e w' => ∃ bx, e = .returned (.agg (numV 114 115 bx)) ∧ w'.heap[bx]? = some (.cells #[.func (.func f) #[] #[]] 107 (0, 0)) ∧ Below w.heap.size w w' := by
  go_enter Tryz.func46, Tryz.ntmps46
  go_wp2
  have h2 := heap_alloc_new (w.alloc (.cells #[.func (.func f) #[] #[]] 107)) (.cells (numV 114 115 w.heap.size) 104)
  rw [World.size_alloc] at h2
  refine ret_cell rfl rfl rfl h2 Tryz.underlying104 rfl infoNStake ⟨w.heap.size, rfl, (Below.heap_alloc _ _ _ (by simp)).trans (heap_alloc_new w _), ((Below.refl _ w).alloc (Nat.le_refl _) _).alloc (by simp) _⟩
theorem infoNOpen : (Tryz.prog.info? 113).map (·.size) = some 2 := by kernel_rfl
set_option maxRecDepth 100000 in
set_option maxHeartbeats 4000000 in
theorem atOpen (f : Nat) (w : World) :
    Calls Tryz.prog 51 #[.func (.func f) #[] #[]] w fun e w' => ∃ bx, e = .returned (.agg (numV 120 121 bx)) ∧ w'.heap[bx]? = some (.cells #[.func (.func f) #[] #[]] 116 (0, 0)) ∧ Below w.heap.size w w' := by
  go_enter Tryz.func51, Tryz.ntmps51
  go_wp2
  have h2 := heap_alloc_new (w.alloc (.cells #[.func (.func f) #[] #[]] 116)) (.cells (numV 120 121 w.heap.size) 113)
  rw [World.size_alloc] at h2
  refine ret_cell rfl rfl rfl h2 Tryz.underlying113 rfl infoNOpen ⟨w.heap.size, rfl, (Below.heap_alloc _ _ _ (by simp)).trans (heap_alloc_new w _), ((Below.refl _ w).alloc (Nat.le_refl _) _).alloc (by simp) _⟩
theorem infoNRate : (Tryz.prog.info? 125).map (·.size) = some 2 := by kernel_rfl
set_option maxRecDepth 100000 in
set_option maxHeartbeats 4000000 in
theorem atRate (f : Nat) (w : World) :
    Calls Tryz.prog 60 #[.func (.func f) #[] #[]] w fun e w' => ∃ bx, e = .returned (.agg (numV 128 129 bx)) ∧ w'.heap[bx]? = some (.cells #[.func (.func f) #[] #[]] 128 (0, 0)) ∧ Below w.heap.size w w' := by
  go_enter Tryz.func60, Tryz.ntmps60
  go_wp2
  have h2 := heap_alloc_new (w.alloc (.cells #[.func (.func f) #[] #[]] 128)) (.cells (numV 128 129 w.heap.size) 125)
  rw [World.size_alloc] at h2
  refine ret_cell rfl rfl rfl h2 Tryz.underlying125 rfl infoNRate ⟨w.heap.size, rfl, (Below.heap_alloc _ _ _ (by simp)).trans (heap_alloc_new w _), ((Below.refl _ w).alloc (Nat.le_refl _) _).alloc (by simp) _⟩
set_option maxRecDepth 100000 in
set_option maxHeartbeats 4000000 in
theorem atOpenI (f : Nat) (w : World) :
    Calls Tryz.prog 55 #[.func (.func f) #[] #[]] w fun e w' => ∃ bx, e = .returned (.agg (numV 122 123 bx)) ∧ w'.heap[bx]? = some (.cells #[.func (.func f) #[] #[]] 119 (0, 0)) ∧ Below w.heap.size w w' := by
  go_enter Tryz.func55, Tryz.ntmps55
  go_wp2
  have h2 := heap_alloc_new (w.alloc (.cells #[.func (.func f) #[] #[]] 119)) (.cells (numV 122 123 w.heap.size) 113)
  rw [World.size_alloc] at h2
  refine ret_cell rfl rfl rfl h2 Tryz.underlying113 rfl infoNOpen ⟨w.heap.size, rfl, (Below.heap_alloc _ _ _ (by simp)).trans (heap_alloc_new w _), ((Below.refl _ w).alloc (Nat.le_refl _) _).alloc (by simp) _⟩
end Go.Proofs.YtnhljfhpfpfniaaGreat

namespace Go.Proofs.YtnhljfhpfpfniaaGreat
open Go.RowKit Base Base2

/-- What reads and writes the number that stands so far behind; ob: the box of what it captures. -/
structure NumOk (rf wf bx j : Nat) (ob : Obj) : Prop where
  enr : ∀ (args : Array Value) (w : World), (callFunc rf args).run Tryz.prog w = .ok (.enter rf args) w
  enw : ∀ (args : Array Value) (w : World), (callFunc wf args).run Tryz.prog w = .ok (.enter wf args) w
  rd : ∀ (g i : Nat) (z : Int) (w : World), w.heap[bx]? = some ob → w.cell? ⟨g, i + j, none⟩ = some (.int .i64 z) → Calls Tryz.prog rf #[.pointer (some ⟨g, i, none⟩), .pointer (some ⟨bx, 0, none⟩)] w fun e w' => e = .returned (.int .i64 z) ∧ w = w'
  wr : ∀ (g i : Nat) (z : Int) (w : World) (old : Value), w.heap[bx]? = some ob → w.cell? ⟨g, i + j, none⟩ = some old → w.frozen? ⟨g, i + j, none⟩ = false → Calls Tryz.prog wf #[.pointer (some ⟨g, i, none⟩), .int .i64 z, .pointer (some ⟨bx, 0, none⟩)] w fun e w' => e = .returned (.tuple #[]) ∧ w' = w.setCell ⟨g, i + j, none⟩ (.int .i64 z)
theorem numHolder {f j bx : Nat} (hp : PtOk f j) : NumOk 108 109 bx j (.cells #[.func (.func f) #[] #[]] 98 (0, 0)) :=
  ⟨enrdHolder, enwrHolder, fun g i z w hb hc => rdHolder f j g i bx z w hp hb hc, fun g i z w old hb hc hf => wrHolder f j g i bx z w hp hb old hc hf⟩
theorem numStake {f j bx : Nat} (hp : PtOk f j) : NumOk 114 115 bx j (.cells #[.func (.func f) #[] #[]] 107 (0, 0)) :=
  ⟨enrdStake, enwrStake, fun g i z w hb hc => rdStake f j g i bx z w hp hb hc, fun g i z w old hb hc hf => wrStake f j g i bx z w hp hb old hc hf⟩
theorem numOpen {f j bx : Nat} (hp : PtOk f j) : NumOk 120 121 bx j (.cells #[.func (.func f) #[] #[]] 116 (0, 0)) :=
  ⟨enrdOpen, enwrOpen, fun g i z w hb hc => rdOpen f j g i bx z w hp hb hc, fun g i z w old hb hc hf => wrOpen f j g i bx z w hp hb old hc hf⟩
theorem numRate {f j bx : Nat} (hp : PtOk f j) : NumOk 128 129 bx j (.cells #[.func (.func f) #[] #[]] 128 (0, 0)) :=
  ⟨enrdRate, enwrRate, fun g i z w hb hc => rdRate f j g i bx z w hp hb hc, fun g i z w old hb hc hf => wrRate f j g i bx z w hp hb old hc hf⟩
theorem numOpenI {f j bx : Nat} (hp : PtOk f j) : NumOk 122 123 bx j (.cells #[.func (.func f) #[] #[]] 119 (0, 0)) :=
  ⟨enrdOpenI, enwrOpenI, fun g i z w hb hc => rdOpenI f j g i bx z w hp hb hc, fun g i z w old hb hc hf => wrOpenI f j g i bx z w hp hb old hc hf⟩
theorem ret_val {a b : Value} (h : a = b) : Ending.returned a = .returned b := by rw [h]
theorem info2M : (Tryz.prog.info? 2).map (fun i => (i.zero, i.size, i.bytes)) = some (some (.int .i64 0), 1, 8) := by kernel_rfl
theorem col_at (j : Nat) {L : List Item} {i : Nat} {x : Item} (h : L[i]? = some x) : (colT j L)[i]? = some (key j x) := by simp [colT, h]
/-- A column, so far: the rest is nought. -/
def colW (l : List Int) (i : Nat) : List Value := (l.take i).map (Value.int .i64) ++ List.replicate (l.length - i) (.int .i64 0)
theorem colW_zero (l : List Int) : colW l 0 = (madeCells #[.int .i64 0] (l.length * 1)).toList := by
  rw [toList_madeCells_one]; simp [colW]
theorem colW_next {l : List Int} {i : Nat} {z : Int} (h : l[i]? = some z) : (colW l i).set i (.int .i64 z) = colW l (i + 1) := by
  have hi := (List.getElem?_eq_some_iff.1 h).1
  unfold colW
  rw [List.set_append_right _ _ (by simp; omega), List.length_map, List.length_take, Nat.min_eq_left (by omega), Nat.sub_self, List.take_add_one, h, List.map_append, List.append_assoc]
  congr 1
  rw [show l.length - i = (l.length - (i + 1)) + 1 by omega, List.replicate_succ]
  rfl
theorem colW_at {l : List Int} {i : Nat} (h : i < l.length) : (colW l i)[i]? = some (.int .i64 0) := by
  unfold colW
  rw [List.getElem?_append_right (by simp; omega), List.getElem?_replicate, if_pos (by simp; omega)]
theorem colW_all (l : List Int) : colW l l.length = l.map (Value.int .i64) := by simp [colW]
theorem colW_len (l : List Int) {i : Nat} (h : i ≤ l.length) : (colW l i).length = l.length := by simp [colW]; omega
/-- What told has made so far; B: where its own blocks begin. -/
structure ToldS (w : World) (bl : Array Value) (tb : TypeId) (v : Value) (n : Nat) (l : List Int) (i : Nat) (W : World) : Prop where
  own : W.ownsRow (w.heap.size + 1) 2 1 v n (colW l i)
  lo : Below w.heap.size w W
  box : W.heap[w.heap.size]? = some (.cells bl tb (0, 0))
theorem ToldS.drewS {w : World} {bl : Array Value} {tb : TypeId} {v : Value} {n : Nat} {l : List Int} {i : Nat} {W : World} {p : Addr} {u : Value} (h : ToldS w bl tb v n l i (W.setCell p u)) : ToldS w bl tb v n l i (W.drew.setCell p u) := ⟨h.own, h.lo.drew, h.box⟩
set_option maxRecDepth 100000 in
set_option maxHeartbeats 4000000 in
theorem toldHolder (rf wf bx j : Nat) (ob : Obj) (a : Option Addr) (c : Nat) (L : List Item) (w : World) (hn : NumOk rf wf bx j ob) (hbx : w.heap[bx]? = some ob) (hr : RowsOf 4 w a L) (hk : ItemsOk 4 2000 L) (hj : j < 4) :
    Calls Tryz.prog 105 #[.slice a L.length c, .agg (numV rf wf bx)] w fun e w' => (∃ a' c', e = .returned (.slice a' (colT j L).length c') ∧ I64s w' a' (colT j L)) ∧ Below w.heap.size w w' := by
  obtain ⟨i0, hi0, hz0, hz1, hz2⟩ := info_parts info2M
  have hcl : (colT j L).length = L.length := by simp [colT]
  have hkl := hk.1
  have henr := hn.enr
  have HR := Lib.hid hr
  have HK := Lib.hid hk.2
  have HRD := Lib.hid hn.rd
  have HBX := Lib.hid (show ∀ W, Below w.heap.size w W → W.heap[bx]? = some ob from fun W hb => (hb.block bx (lt_of_blk hbx)).trans hbx)
  obtain ⟨nv, hnv⟩ : ∃ x, numV rf wf bx = x := ⟨_, rfl⟩
  have HN0 := Lib.hid (show nv[0]? = some (.func (.func rf) #[] #[.pointer (some ⟨bx, 0, none⟩)]) by rw [← hnv]; rfl)
  rw [hnv]
  have hA : Below w.heap.size w (w.alloc (.cells nv 94)) := (Below.refl _ w).alloc (Nat.le_refl _) _
  have hbx0 := heap_alloc_new w (.cells nv 94)
  have hs1 : (w.alloc (.cells nv 94)).heap.size = w.heap.size + 1 := by simp
  obtain ⟨W2, hmk, hown, hgr⟩ := run_make_full (P := Tryz.prog) (w.alloc (.cells nv 94)) (w.heap.size + 1) 59 2 i0 (.int .i64 0) 1 Tryz.underlying59 hi0 hz0 hz1 .i64 .i64 L.length (by rw [hz2]; omega) (by unfold maxLen; omega) (by omega)
  rw [hs1] at hmk hown
  have HT0 := Lib.hid (show ToldS w nv 94 (.slice (some ⟨w.heap.size + 1, 0, none⟩) L.length L.length) L.length (colT j L) 0 W2 from
    ⟨by rw [colW_zero, hcl]; exact hown, hA.grown hgr (by omega) (fun _ h => by cases h), (hgr.block _ (by omega) (by simp)).trans hbx0⟩)
  have HCL := Lib.hid hcl
  clear hA hbx0 hs1 hgr hown hcl hnv hn hbx hr hk hi0 hz0 hz1 hz2
  go_enter Tryz.func105, Tryz.ntmps105
  go_upto_region 2 with (fail)
  clear hmk
  go_wp2
  go_loopw [6, 12] (fun v6 vi W => ∃ i : Nat, vi = .int .i64 (i : Int) ∧ i ≤ L.length ∧ ToldS w nv 94 (.slice (some ⟨w.heap.size + 1, 0, none⟩) L.length L.length) L.length (colT j L) i W) (fun _ vi _ => L.length - (intOf vi).toNat)
  case atStart => exact ⟨0, rfl, Nat.zero_le _, HT0.out⟩
  case round =>
    obtain ⟨i, rfl, hi, hts⟩ := hrel
    have HT := Lib.hid hts
    clear hts HT0
    by_cases hlt : i < L.length
    · obtain ⟨x, hx⟩ : ∃ x, L[i]? = some x := ⟨L[i], by simp [hlt]⟩
      obtain ⟨b0, off, rfl, hb0, hcs⟩ := HR.out.at hx
      have hxl := (HK.out _ (List.mem_of_getElem? hx)).1
      have hz := hcs wr HT.out.lo j (key j x) (by unfold key; rw [List.getD_eq_getElem?_getD]; simp [hxl, hj])
      have HC := Lib.hid (show Calls Tryz.prog rf #[.pointer (some ⟨b0, off + i * 4, none⟩), .pointer (some ⟨bx, 0, none⟩)] wr.drew fun e w' => e = .returned (.int .i64 (key j x)) ∧ w' = wr.drew from (HRD.out b0 (off + i * 4) (key j x) wr.drew (HBX.out _ HT.out.lo.drew) hz).mono (fun e w' h => ⟨h.1, h.2.symm⟩))
      have k0 : wr.cell? ⟨w.heap.size, 0, none⟩ = some (.func (.func rf) #[] #[.pointer (some ⟨bx, 0, none⟩)]) := by rw [cell_of_row _ _ _ _ _ _ HT.out.box]; exact HN0.out
      have hlc : i < L.length * 1 := by omega
      have c0 := HT.out.own.cellAt i hlc
      rw [colW_at (by rw [HCL.out]; exact hlt)] at c0
      have f0 := HT.out.own.frozenAt i
      have hst := HT.out.own.stored i (.int .i64 (key j x))
      have HNX := Lib.hid (show ToldS w nv 94 (.slice (some ⟨w.heap.size + 1, 0, none⟩) L.length L.length) L.length (colT j L) (i + 1) (wr.setCell ⟨w.heap.size + 1, i, none⟩ (.int .i64 (key j x))) from
        ⟨by have h := hst.1; rw [colW_next (col_at j hx)] at h; exact h, HT.out.lo.grown hst.2 HT.out.lo.size (fun k h => by cases h; omega), (hst.2.block _ (by have := HT.out.lo.size; have := lt_of_blk HT.out.box; omega) (by simp)).trans HT.out.box⟩)
      clear hst hcs hz hx hxl hlc
      go_upto_region 5 with (fail)
      go_still_tail 9, (by kernel_rfl)
      still_call HC.out
      repeat still_step
      refine wpStill_nil ?_
      go_wp2
      go_roundw
      case rel => exact ⟨i + 1, by go_num, hlt, HNX.out.drewS⟩
      case measure => simp [intOf]; omega
    · obtain rfl : i = L.length := by omega
      have hfin : wr.ownsRow (w.heap.size + 1) 2 1 (.slice (some ⟨w.heap.size + 1, 0, none⟩) L.length L.length) (colT j L).length ((colT j L).map (Value.int .i64)) := by
        have h := HT.out.own
        rw [← HCL.out, colW_all] at h
        rwa [HCL.out] at h ⊢
      obtain ⟨a', c', hv, hI⟩ := i64_own hfin
      have HV := Lib.hid hv
      have HI := Lib.hid hI
      clear hv hI hfin
      go_wp2
      go_ret
      exact ⟨⟨a', c', ret_val HV.out, HI.out⟩, HT.out.lo⟩
set_option maxRecDepth 100000 in
set_option maxHeartbeats 4000000 in
theorem toldStake (rf wf bx j : Nat) (ob : Obj) (a : Option Addr) (c : Nat) (L : List Item) (w : World) (hn : NumOk rf wf bx j ob) (hbx : w.heap[bx]? = some ob) (hr : RowsOf 3 w a L) (hk : ItemsOk 3 2000 L) (hj : j < 3) :
    Calls Tryz.prog 111 #[.slice a L.length c, .agg (numV rf wf bx)] w fun e w' => (∃ a' c', e = .returned (.slice a' (colT j L).length c') ∧ I64s w' a' (colT j L)) ∧ Below w.heap.size w w' := by
  obtain ⟨i0, hi0, hz0, hz1, hz2⟩ := info_parts info2M
  have hcl : (colT j L).length = L.length := by simp [colT]
  have hkl := hk.1
  have henr := hn.enr
  have HR := Lib.hid hr
  have HK := Lib.hid hk.2
  have HRD := Lib.hid hn.rd
  have HBX := Lib.hid (show ∀ W, Below w.heap.size w W → W.heap[bx]? = some ob from fun W hb => (hb.block bx (lt_of_blk hbx)).trans hbx)
  obtain ⟨nv, hnv⟩ : ∃ x, numV rf wf bx = x := ⟨_, rfl⟩
  have HN0 := Lib.hid (show nv[0]? = some (.func (.func rf) #[] #[.pointer (some ⟨bx, 0, none⟩)]) by rw [← hnv]; rfl)
  rw [hnv]
  have hA : Below w.heap.size w (w.alloc (.cells nv 104)) := (Below.refl _ w).alloc (Nat.le_refl _) _
  have hbx0 := heap_alloc_new w (.cells nv 104)
  have hs1 : (w.alloc (.cells nv 104)).heap.size = w.heap.size + 1 := by simp
  obtain ⟨W2, hmk, hown, hgr⟩ := run_make_full (P := Tryz.prog) (w.alloc (.cells nv 104)) (w.heap.size + 1) 59 2 i0 (.int .i64 0) 1 Tryz.underlying59 hi0 hz0 hz1 .i64 .i64 L.length (by rw [hz2]; omega) (by unfold maxLen; omega) (by omega)
  rw [hs1] at hmk hown
  have HT0 := Lib.hid (show ToldS w nv 104 (.slice (some ⟨w.heap.size + 1, 0, none⟩) L.length L.length) L.length (colT j L) 0 W2 from
    ⟨by rw [colW_zero, hcl]; exact hown, hA.grown hgr (by omega) (fun _ h => by cases h), (hgr.block _ (by omega) (by simp)).trans hbx0⟩)
  have HCL := Lib.hid hcl
  clear hA hbx0 hs1 hgr hown hcl hnv hn hbx hr hk hi0 hz0 hz1 hz2
  go_enter Tryz.func111, Tryz.ntmps111
  go_upto_region 2 with (fail)
  clear hmk
  go_wp2
  go_loopw [6, 12] (fun v6 vi W => ∃ i : Nat, vi = .int .i64 (i : Int) ∧ i ≤ L.length ∧ ToldS w nv 104 (.slice (some ⟨w.heap.size + 1, 0, none⟩) L.length L.length) L.length (colT j L) i W) (fun _ vi _ => L.length - (intOf vi).toNat)
  case atStart => exact ⟨0, rfl, Nat.zero_le _, HT0.out⟩
  case round =>
    obtain ⟨i, rfl, hi, hts⟩ := hrel
    have HT := Lib.hid hts
    clear hts HT0
    by_cases hlt : i < L.length
    · obtain ⟨x, hx⟩ : ∃ x, L[i]? = some x := ⟨L[i], by simp [hlt]⟩
      obtain ⟨b0, off, rfl, hb0, hcs⟩ := HR.out.at hx
      have hxl := (HK.out _ (List.mem_of_getElem? hx)).1
      have hz := hcs wr HT.out.lo j (key j x) (by unfold key; rw [List.getD_eq_getElem?_getD]; simp [hxl, hj])
      have HC := Lib.hid (show Calls Tryz.prog rf #[.pointer (some ⟨b0, off + i * 3, none⟩), .pointer (some ⟨bx, 0, none⟩)] wr.drew fun e w' => e = .returned (.int .i64 (key j x)) ∧ w' = wr.drew from (HRD.out b0 (off + i * 3) (key j x) wr.drew (HBX.out _ HT.out.lo.drew) hz).mono (fun e w' h => ⟨h.1, h.2.symm⟩))
      have k0 : wr.cell? ⟨w.heap.size, 0, none⟩ = some (.func (.func rf) #[] #[.pointer (some ⟨bx, 0, none⟩)]) := by rw [cell_of_row _ _ _ _ _ _ HT.out.box]; exact HN0.out
      have hlc : i < L.length * 1 := by omega
      have c0 := HT.out.own.cellAt i hlc
      rw [colW_at (by rw [HCL.out]; exact hlt)] at c0
      have f0 := HT.out.own.frozenAt i
      have hst := HT.out.own.stored i (.int .i64 (key j x))
      have HNX := Lib.hid (show ToldS w nv 104 (.slice (some ⟨w.heap.size + 1, 0, none⟩) L.length L.length) L.length (colT j L) (i + 1) (wr.setCell ⟨w.heap.size + 1, i, none⟩ (.int .i64 (key j x))) from
        ⟨by have h := hst.1; rw [colW_next (col_at j hx)] at h; exact h, HT.out.lo.grown hst.2 HT.out.lo.size (fun k h => by cases h; omega), (hst.2.block _ (by have := HT.out.lo.size; have := lt_of_blk HT.out.box; omega) (by simp)).trans HT.out.box⟩)
      clear hst hcs hz hx hxl hlc
      go_upto_region 5 with (fail)
      go_still_tail 9, (by kernel_rfl)
      still_call HC.out
      repeat still_step
      refine wpStill_nil ?_
      go_wp2
      go_roundw
      case rel => exact ⟨i + 1, by go_num, hlt, HNX.out.drewS⟩
      case measure => simp [intOf]; omega
    · obtain rfl : i = L.length := by omega
      have hfin : wr.ownsRow (w.heap.size + 1) 2 1 (.slice (some ⟨w.heap.size + 1, 0, none⟩) L.length L.length) (colT j L).length ((colT j L).map (Value.int .i64)) := by
        have h := HT.out.own
        rw [← HCL.out, colW_all] at h
        rwa [HCL.out] at h ⊢
      obtain ⟨a', c', hv, hI⟩ := i64_own hfin
      have HV := Lib.hid hv
      have HI := Lib.hid hI
      clear hv hI hfin
      go_wp2
      go_ret
      exact ⟨⟨a', c', ret_val HV.out, HI.out⟩, HT.out.lo⟩
set_option maxRecDepth 100000 in
set_option maxHeartbeats 4000000 in
theorem toldOpen (rf wf bx j : Nat) (ob : Obj) (a : Option Addr) (c : Nat) (L : List Item) (w : World) (hn : NumOk rf wf bx j ob) (hbx : w.heap[bx]? = some ob) (hr : RowsOf 6 w a L) (hk : ItemsOk 6 2000 L) (hj : j < 6) :
    Calls Tryz.prog 117 #[.slice a L.length c, .agg (numV rf wf bx)] w fun e w' => (∃ a' c', e = .returned (.slice a' (colT j L).length c') ∧ I64s w' a' (colT j L)) ∧ Below w.heap.size w w' := by
  obtain ⟨i0, hi0, hz0, hz1, hz2⟩ := info_parts info2M
  have hcl : (colT j L).length = L.length := by simp [colT]
  have hkl := hk.1
  have henr := hn.enr
  have HR := Lib.hid hr
  have HK := Lib.hid hk.2
  have HRD := Lib.hid hn.rd
  have HBX := Lib.hid (show ∀ W, Below w.heap.size w W → W.heap[bx]? = some ob from fun W hb => (hb.block bx (lt_of_blk hbx)).trans hbx)
  obtain ⟨nv, hnv⟩ : ∃ x, numV rf wf bx = x := ⟨_, rfl⟩
  have HN0 := Lib.hid (show nv[0]? = some (.func (.func rf) #[] #[.pointer (some ⟨bx, 0, none⟩)]) by rw [← hnv]; rfl)
  rw [hnv]
  have hA : Below w.heap.size w (w.alloc (.cells nv 113)) := (Below.refl _ w).alloc (Nat.le_refl _) _
  have hbx0 := heap_alloc_new w (.cells nv 113)
  have hs1 : (w.alloc (.cells nv 113)).heap.size = w.heap.size + 1 := by simp
  obtain ⟨W2, hmk, hown, hgr⟩ := run_make_full (P := Tryz.prog) (w.alloc (.cells nv 113)) (w.heap.size + 1) 59 2 i0 (.int .i64 0) 1 Tryz.underlying59 hi0 hz0 hz1 .i64 .i64 L.length (by rw [hz2]; omega) (by unfold maxLen; omega) (by omega)
  rw [hs1] at hmk hown
  have HT0 := Lib.hid (show ToldS w nv 113 (.slice (some ⟨w.heap.size + 1, 0, none⟩) L.length L.length) L.length (colT j L) 0 W2 from
    ⟨by rw [colW_zero, hcl]; exact hown, hA.grown hgr (by omega) (fun _ h => by cases h), (hgr.block _ (by omega) (by simp)).trans hbx0⟩)
  have HCL := Lib.hid hcl
  clear hA hbx0 hs1 hgr hown hcl hnv hn hbx hr hk hi0 hz0 hz1 hz2
  go_enter Tryz.func117, Tryz.ntmps117
  go_upto_region 2 with (fail)
  clear hmk
  go_wp2
  go_loopw [6, 12] (fun v6 vi W => ∃ i : Nat, vi = .int .i64 (i : Int) ∧ i ≤ L.length ∧ ToldS w nv 113 (.slice (some ⟨w.heap.size + 1, 0, none⟩) L.length L.length) L.length (colT j L) i W) (fun _ vi _ => L.length - (intOf vi).toNat)
  case atStart => exact ⟨0, rfl, Nat.zero_le _, HT0.out⟩
  case round =>
    obtain ⟨i, rfl, hi, hts⟩ := hrel
    have HT := Lib.hid hts
    clear hts HT0
    by_cases hlt : i < L.length
    · obtain ⟨x, hx⟩ : ∃ x, L[i]? = some x := ⟨L[i], by simp [hlt]⟩
      obtain ⟨b0, off, rfl, hb0, hcs⟩ := HR.out.at hx
      have hxl := (HK.out _ (List.mem_of_getElem? hx)).1
      have hz := hcs wr HT.out.lo j (key j x) (by unfold key; rw [List.getD_eq_getElem?_getD]; simp [hxl, hj])
      have HC := Lib.hid (show Calls Tryz.prog rf #[.pointer (some ⟨b0, off + i * 6, none⟩), .pointer (some ⟨bx, 0, none⟩)] wr.drew fun e w' => e = .returned (.int .i64 (key j x)) ∧ w' = wr.drew from (HRD.out b0 (off + i * 6) (key j x) wr.drew (HBX.out _ HT.out.lo.drew) hz).mono (fun e w' h => ⟨h.1, h.2.symm⟩))
      have k0 : wr.cell? ⟨w.heap.size, 0, none⟩ = some (.func (.func rf) #[] #[.pointer (some ⟨bx, 0, none⟩)]) := by rw [cell_of_row _ _ _ _ _ _ HT.out.box]; exact HN0.out
      have hlc : i < L.length * 1 := by omega
      have c0 := HT.out.own.cellAt i hlc
      rw [colW_at (by rw [HCL.out]; exact hlt)] at c0
      have f0 := HT.out.own.frozenAt i
      have hst := HT.out.own.stored i (.int .i64 (key j x))
      have HNX := Lib.hid (show ToldS w nv 113 (.slice (some ⟨w.heap.size + 1, 0, none⟩) L.length L.length) L.length (colT j L) (i + 1) (wr.setCell ⟨w.heap.size + 1, i, none⟩ (.int .i64 (key j x))) from
        ⟨by have h := hst.1; rw [colW_next (col_at j hx)] at h; exact h, HT.out.lo.grown hst.2 HT.out.lo.size (fun k h => by cases h; omega), (hst.2.block _ (by have := HT.out.lo.size; have := lt_of_blk HT.out.box; omega) (by simp)).trans HT.out.box⟩)
      clear hst hcs hz hx hxl hlc
      go_upto_region 5 with (fail)
      go_still_tail 9, (by kernel_rfl)
      still_call HC.out
      repeat still_step
      refine wpStill_nil ?_
      go_wp2
      go_roundw
      case rel => exact ⟨i + 1, by go_num, hlt, HNX.out.drewS⟩
      case measure => simp [intOf]; omega
    · obtain rfl : i = L.length := by omega
      have hfin : wr.ownsRow (w.heap.size + 1) 2 1 (.slice (some ⟨w.heap.size + 1, 0, none⟩) L.length L.length) (colT j L).length ((colT j L).map (Value.int .i64)) := by
        have h := HT.out.own
        rw [← HCL.out, colW_all] at h
        rwa [HCL.out] at h ⊢
      obtain ⟨a', c', hv, hI⟩ := i64_own hfin
      have HV := Lib.hid hv
      have HI := Lib.hid hI
      clear hv hI hfin
      go_wp2
      go_ret
      exact ⟨⟨a', c', ret_val HV.out, HI.out⟩, HT.out.lo⟩
set_option maxRecDepth 100000 in
set_option maxHeartbeats 4000000 in
theorem toldRate (rf wf bx j : Nat) (ob : Obj) (a : Option Addr) (c : Nat) (L : List Item) (w : World) (hn : NumOk rf wf bx j ob) (hbx : w.heap[bx]? = some ob) (hr : RowsOf 2 w a L) (hk : ItemsOk 2 2000 L) (hj : j < 2) :
    Calls Tryz.prog 125 #[.slice a L.length c, .agg (numV rf wf bx)] w fun e w' => (∃ a' c', e = .returned (.slice a' (colT j L).length c') ∧ I64s w' a' (colT j L)) ∧ Below w.heap.size w w' := by
  obtain ⟨i0, hi0, hz0, hz1, hz2⟩ := info_parts info2M
  have hcl : (colT j L).length = L.length := by simp [colT]
  have hkl := hk.1
  have henr := hn.enr
  have HR := Lib.hid hr
  have HK := Lib.hid hk.2
  have HRD := Lib.hid hn.rd
  have HBX := Lib.hid (show ∀ W, Below w.heap.size w W → W.heap[bx]? = some ob from fun W hb => (hb.block bx (lt_of_blk hbx)).trans hbx)
  obtain ⟨nv, hnv⟩ : ∃ x, numV rf wf bx = x := ⟨_, rfl⟩
  have HN0 := Lib.hid (show nv[0]? = some (.func (.func rf) #[] #[.pointer (some ⟨bx, 0, none⟩)]) by rw [← hnv]; rfl)
  rw [hnv]
  have hA : Below w.heap.size w (w.alloc (.cells nv 125)) := (Below.refl _ w).alloc (Nat.le_refl _) _
  have hbx0 := heap_alloc_new w (.cells nv 125)
  have hs1 : (w.alloc (.cells nv 125)).heap.size = w.heap.size + 1 := by simp
  obtain ⟨W2, hmk, hown, hgr⟩ := run_make_full (P := Tryz.prog) (w.alloc (.cells nv 125)) (w.heap.size + 1) 59 2 i0 (.int .i64 0) 1 Tryz.underlying59 hi0 hz0 hz1 .i64 .i64 L.length (by rw [hz2]; omega) (by unfold maxLen; omega) (by omega)
  rw [hs1] at hmk hown
  have HT0 := Lib.hid (show ToldS w nv 125 (.slice (some ⟨w.heap.size + 1, 0, none⟩) L.length L.length) L.length (colT j L) 0 W2 from
    ⟨by rw [colW_zero, hcl]; exact hown, hA.grown hgr (by omega) (fun _ h => by cases h), (hgr.block _ (by omega) (by simp)).trans hbx0⟩)
  have HCL := Lib.hid hcl
  clear hA hbx0 hs1 hgr hown hcl hnv hn hbx hr hk hi0 hz0 hz1 hz2
  go_enter Tryz.func125, Tryz.ntmps125
  go_upto_region 2 with (fail)
  clear hmk
  go_wp2
  go_loopw [6, 12] (fun v6 vi W => ∃ i : Nat, vi = .int .i64 (i : Int) ∧ i ≤ L.length ∧ ToldS w nv 125 (.slice (some ⟨w.heap.size + 1, 0, none⟩) L.length L.length) L.length (colT j L) i W) (fun _ vi _ => L.length - (intOf vi).toNat)
  case atStart => exact ⟨0, rfl, Nat.zero_le _, HT0.out⟩
  case round =>
    obtain ⟨i, rfl, hi, hts⟩ := hrel
    have HT := Lib.hid hts
    clear hts HT0
    by_cases hlt : i < L.length
    · obtain ⟨x, hx⟩ : ∃ x, L[i]? = some x := ⟨L[i], by simp [hlt]⟩
      obtain ⟨b0, off, rfl, hb0, hcs⟩ := HR.out.at hx
      have hxl := (HK.out _ (List.mem_of_getElem? hx)).1
      have hz := hcs wr HT.out.lo j (key j x) (by unfold key; rw [List.getD_eq_getElem?_getD]; simp [hxl, hj])
      have HC := Lib.hid (show Calls Tryz.prog rf #[.pointer (some ⟨b0, off + i * 2, none⟩), .pointer (some ⟨bx, 0, none⟩)] wr.drew fun e w' => e = .returned (.int .i64 (key j x)) ∧ w' = wr.drew from (HRD.out b0 (off + i * 2) (key j x) wr.drew (HBX.out _ HT.out.lo.drew) hz).mono (fun e w' h => ⟨h.1, h.2.symm⟩))
      have k0 : wr.cell? ⟨w.heap.size, 0, none⟩ = some (.func (.func rf) #[] #[.pointer (some ⟨bx, 0, none⟩)]) := by rw [cell_of_row _ _ _ _ _ _ HT.out.box]; exact HN0.out
      have hlc : i < L.length * 1 := by omega
      have c0 := HT.out.own.cellAt i hlc
      rw [colW_at (by rw [HCL.out]; exact hlt)] at c0
      have f0 := HT.out.own.frozenAt i
      have hst := HT.out.own.stored i (.int .i64 (key j x))
      have HNX := Lib.hid (show ToldS w nv 125 (.slice (some ⟨w.heap.size + 1, 0, none⟩) L.length L.length) L.length (colT j L) (i + 1) (wr.setCell ⟨w.heap.size + 1, i, none⟩ (.int .i64 (key j x))) from
        ⟨by have h := hst.1; rw [colW_next (col_at j hx)] at h; exact h, HT.out.lo.grown hst.2 HT.out.lo.size (fun k h => by cases h; omega), (hst.2.block _ (by have := HT.out.lo.size; have := lt_of_blk HT.out.box; omega) (by simp)).trans HT.out.box⟩)
      clear hst hcs hz hx hxl hlc
      go_upto_region 5 with (fail)
      go_still_tail 9, (by kernel_rfl)
      still_call HC.out
      repeat still_step
      refine wpStill_nil ?_
      go_wp2
      go_roundw
      case rel => exact ⟨i + 1, by go_num, hlt, HNX.out.drewS⟩
      case measure => simp [intOf]; omega
    · obtain rfl : i = L.length := by omega
      have hfin : wr.ownsRow (w.heap.size + 1) 2 1 (.slice (some ⟨w.heap.size + 1, 0, none⟩) L.length L.length) (colT j L).length ((colT j L).map (Value.int .i64)) := by
        have h := HT.out.own
        rw [← HCL.out, colW_all] at h
        rwa [HCL.out] at h ⊢
      obtain ⟨a', c', hv, hI⟩ := i64_own hfin
      have HV := Lib.hid hv
      have HI := Lib.hid hI
      clear hv hI hfin
      go_wp2
      go_ret
      exact ⟨⟨a', c', ret_val HV.out, HI.out⟩, HT.out.lo⟩
end Go.Proofs.YtnhljfhpfpfniaaGreat

namespace Go.Proofs.YtnhljfhpfpfniaaGreat
open Go.RowKit Base Base2
theorem twoAtS {W : World} {g : Nat} {x y : Value} {T : TypeId} (h : W.heap[g]? = some (.cells #[x, y] T (0, 0))) : W.rangeAt g 0 [x, y] := by
  intro j u hu
  rw [cell_of_row _ _ _ _ _ _ h]
  match j, hu with
  | 0, hu => simpa using hu
  | 1, hu => simpa using hu
set_option maxRecDepth 100000 in
set_option maxHeartbeats 4000000 in
theorem tellHolder (lp nb gb rf wf bx j : Nat) (ob : Obj) (a : Option Addr) (c : Nat) (L : List Item) (w : World) (hn : NumOk rf wf bx j ob) (hbx : w.heap[bx]? = some ob) (hlp : w.heap[lp]? = some (.cells #[.pointer (some ⟨gb, 0, none⟩)] 90 (0, 0))) (hnb : w.heap[nb]? = some (.cells (numV rf wf bx) 94 (0, 0)))
    (hc : w.cell? ⟨gb, 0, none⟩ = some (.slice a L.length c)) (hr : RowsOf 4 w a L) (hk : ItemsOk 4 2000 L) (hj : j < 4) :
    Calls Tryz.prog 104 #[.pointer (some ⟨lp, 0, none⟩), .pointer (some ⟨nb, 0, none⟩)] w fun e w' => (∃ a' c', e = .returned (.slice a' (colT j L).length c') ∧ I64s w' a' (colT j L)) ∧ Below w.heap.size w w' := by
  have HT := Lib.hid (toldHolder rf wf bx j ob a c L w.drew hn hbx (hr.below ((Below.refl _ w).drew)) hk hj)
  have k0 := cell_of_one hlp
  obtain ⟨fr, hfr⟩ : ∃ x, Value.func (.func rf) #[] #[.pointer (some ⟨bx, 0, none⟩)] = x := ⟨_, rfl⟩
  obtain ⟨fw, hfw⟩ : ∃ x, Value.func (.func wf) #[] #[.pointer (some ⟨bx, 0, none⟩)] = x := ⟨_, rfl⟩
  have hnv : numV rf wf bx = #[fr, fw] := by rw [← hfr, ← hfw]; rfl
  rw [hnv] at HT hnb
  have n0 := twoAtS hnb 0 fr rfl
  have n1 := twoAtS hnb 1 fw rfl
  rw [Nat.add_zero] at n0
  rw [Nat.zero_add] at n1
  clear hn hbx hlp hnb hr hk hj hnv hfr hfw
  go_enter Tryz.func104, Tryz.ntmps104
  go_upto_region 1 with (fail)
  go_still_tail 4, (by kernel_rfl)
  go_wp2_with (go_at_call 105; refine HT.out.mono ?_; rintro e w1 ⟨⟨a', c', rfl, hI⟩, hb⟩; have HI := Lib.hid hI; have HB := Lib.hid hb; clear hI hb)
  go_ret
  exact ⟨⟨a', c', rfl, HI.out⟩, (Below.refl _ w).drew.trans HB.out⟩
set_option maxRecDepth 100000 in
set_option maxHeartbeats 4000000 in
theorem tellStake (lp nb gb rf wf bx j : Nat) (ob : Obj) (a : Option Addr) (c : Nat) (L : List Item) (w : World) (hn : NumOk rf wf bx j ob) (hbx : w.heap[bx]? = some ob) (hlp : w.heap[lp]? = some (.cells #[.pointer (some ⟨gb, 1, none⟩)] 100 (0, 0))) (hnb : w.heap[nb]? = some (.cells (numV rf wf bx) 104 (0, 0)))
    (hc : w.cell? ⟨gb, 1, none⟩ = some (.slice a L.length c)) (hr : RowsOf 3 w a L) (hk : ItemsOk 3 2000 L) (hj : j < 3) :
    Calls Tryz.prog 110 #[.pointer (some ⟨lp, 0, none⟩), .pointer (some ⟨nb, 0, none⟩)] w fun e w' => (∃ a' c', e = .returned (.slice a' (colT j L).length c') ∧ I64s w' a' (colT j L)) ∧ Below w.heap.size w w' := by
  have HT := Lib.hid (toldStake rf wf bx j ob a c L w.drew hn hbx (hr.below ((Below.refl _ w).drew)) hk hj)
  have k0 := cell_of_one hlp
  obtain ⟨fr, hfr⟩ : ∃ x, Value.func (.func rf) #[] #[.pointer (some ⟨bx, 0, none⟩)] = x := ⟨_, rfl⟩
  obtain ⟨fw, hfw⟩ : ∃ x, Value.func (.func wf) #[] #[.pointer (some ⟨bx, 0, none⟩)] = x := ⟨_, rfl⟩
  have hnv : numV rf wf bx = #[fr, fw] := by rw [← hfr, ← hfw]; rfl
  rw [hnv] at HT hnb
  have n0 := twoAtS hnb 0 fr rfl
  have n1 := twoAtS hnb 1 fw rfl
  rw [Nat.add_zero] at n0
  rw [Nat.zero_add] at n1
  clear hn hbx hlp hnb hr hk hj hnv hfr hfw
  go_enter Tryz.func110, Tryz.ntmps110
  go_upto_region 1 with (fail)
  go_still_tail 4, (by kernel_rfl)
  go_wp2_with (go_at_call 111; refine HT.out.mono ?_; rintro e w1 ⟨⟨a', c', rfl, hI⟩, hb⟩; have HI := Lib.hid hI; have HB := Lib.hid hb; clear hI hb)
  go_ret
  exact ⟨⟨a', c', rfl, HI.out⟩, (Below.refl _ w).drew.trans HB.out⟩
set_option maxRecDepth 100000 in
set_option maxHeartbeats 4000000 in
theorem tellOpen (lp nb gb rf wf bx j : Nat) (ob : Obj) (a : Option Addr) (c : Nat) (L : List Item) (w : World) (hn : NumOk rf wf bx j ob) (hbx : w.heap[bx]? = some ob) (hlp : w.heap[lp]? = some (.cells #[.pointer (some ⟨gb, 2, none⟩)] 109 (0, 0))) (hnb : w.heap[nb]? = some (.cells (numV rf wf bx) 113 (0, 0)))
    (hc : w.cell? ⟨gb, 2, none⟩ = some (.slice a L.length c)) (hr : RowsOf 6 w a L) (hk : ItemsOk 6 2000 L) (hj : j < 6) :
    Calls Tryz.prog 116 #[.pointer (some ⟨lp, 0, none⟩), .pointer (some ⟨nb, 0, none⟩)] w fun e w' => (∃ a' c', e = .returned (.slice a' (colT j L).length c') ∧ I64s w' a' (colT j L)) ∧ Below w.heap.size w w' := by
  have HT := Lib.hid (toldOpen rf wf bx j ob a c L w.drew hn hbx (hr.below ((Below.refl _ w).drew)) hk hj)
  have k0 := cell_of_one hlp
  obtain ⟨fr, hfr⟩ : ∃ x, Value.func (.func rf) #[] #[.pointer (some ⟨bx, 0, none⟩)] = x := ⟨_, rfl⟩
  obtain ⟨fw, hfw⟩ : ∃ x, Value.func (.func wf) #[] #[.pointer (some ⟨bx, 0, none⟩)] = x := ⟨_, rfl⟩
  have hnv : numV rf wf bx = #[fr, fw] := by rw [← hfr, ← hfw]; rfl
  rw [hnv] at HT hnb
  have n0 := twoAtS hnb 0 fr rfl
  have n1 := twoAtS hnb 1 fw rfl
  rw [Nat.add_zero] at n0
  rw [Nat.zero_add] at n1
  clear hn hbx hlp hnb hr hk hj hnv hfr hfw
  go_enter Tryz.func116, Tryz.ntmps116
  go_upto_region 1 with (fail)
  go_still_tail 4, (by kernel_rfl)
  go_wp2_with (go_at_call 117; refine HT.out.mono ?_; rintro e w1 ⟨⟨a', c', rfl, hI⟩, hb⟩; have HI := Lib.hid hI; have HB := Lib.hid hb; clear hI hb)
  go_ret
  exact ⟨⟨a', c', rfl, HI.out⟩, (Below.refl _ w).drew.trans HB.out⟩
set_option maxRecDepth 100000 in
set_option maxHeartbeats 4000000 in
theorem tellRate (lp nb gb rf wf bx j : Nat) (ob : Obj) (a : Option Addr) (c : Nat) (L : List Item) (w : World) (hn : NumOk rf wf bx j ob) (hbx : w.heap[bx]? = some ob) (hlp : w.heap[lp]? = some (.cells #[.pointer (some ⟨gb, 3, none⟩)] 121 (0, 0))) (hnb : w.heap[nb]? = some (.cells (numV rf wf bx) 125 (0, 0)))
    (hc : w.cell? ⟨gb, 3, none⟩ = some (.slice a L.length c)) (hr : RowsOf 2 w a L) (hk : ItemsOk 2 2000 L) (hj : j < 2) :
    Calls Tryz.prog 124 #[.pointer (some ⟨lp, 0, none⟩), .pointer (some ⟨nb, 0, none⟩)] w fun e w' => (∃ a' c', e = .returned (.slice a' (colT j L).length c') ∧ I64s w' a' (colT j L)) ∧ Below w.heap.size w w' := by
  have HT := Lib.hid (toldRate rf wf bx j ob a c L w.drew hn hbx (hr.below ((Below.refl _ w).drew)) hk hj)
  have k0 := cell_of_one hlp
  obtain ⟨fr, hfr⟩ : ∃ x, Value.func (.func rf) #[] #[.pointer (some ⟨bx, 0, none⟩)] = x := ⟨_, rfl⟩
  obtain ⟨fw, hfw⟩ : ∃ x, Value.func (.func wf) #[] #[.pointer (some ⟨bx, 0, none⟩)] = x := ⟨_, rfl⟩
  have hnv : numV rf wf bx = #[fr, fw] := by rw [← hfr, ← hfw]; rfl
  rw [hnv] at HT hnb
  have n0 := twoAtS hnb 0 fr rfl
  have n1 := twoAtS hnb 1 fw rfl
  rw [Nat.add_zero] at n0
  rw [Nat.zero_add] at n1
  clear hn hbx hlp hnb hr hk hj hnv hfr hfw
  go_enter Tryz.func124, Tryz.ntmps124
  go_upto_region 1 with (fail)
  go_still_tail 4, (by kernel_rfl)
  go_wp2_with (go_at_call 125; refine HT.out.mono ?_; rintro e w1 ⟨⟨a', c', rfl, hI⟩, hb⟩; have HI := Lib.hid hI; have HB := Lib.hid hb; clear hI hb)
  go_ret
  exact ⟨⟨a', c', rfl, HI.out⟩, (Below.refl _ w).drew.trans HB.out⟩
end Go.Proofs.YtnhljfhpfpfniaaGreat

namespace Go.Proofs.YtnhljfhpfpfniaaGreat
open Go.RowKit Base Base2

/-- Things whose numbers, so far behind, are those of a column. -/
def setC (j : Nat) : List Int → List Item → List Item
  | x :: xs, y :: l => y.set j x :: setC j xs l
  | _, l => l
theorem setC_nil (j : Nat) (l : List Item) : setC j [] l = l := by cases l <;> rfl
theorem setC_len (j : Nat) : ∀ (xs : List Int) (l : List Item), (setC j xs l).length = l.length
  | [], l => by rw [setC_nil]
  | _ :: _, [] => rfl
  | x :: xs, y :: l => by show (setC j xs l).length + 1 = _; rw [setC_len j xs l]; rfl
theorem setC_at (j : Nat) : ∀ (i : Nat) (xs : List Int) (l : List Item), (setC j (xs.take i) l)[i]? = l[i]?
  | 0, xs, l => by rw [List.take_zero, setC_nil]
  | i + 1, [], l => by rw [List.take_nil, setC_nil]
  | i + 1, _ :: _, [] => rfl
  | i + 1, x :: xs, y :: l => by
    show (setC j (xs.take i) l)[i]? = l[i]?
    exact setC_at j i xs l
theorem setC_next (j : Nat) : ∀ (i : Nat) (xs : List Int) (l : List Item) (x : Int) (y : Item), xs[i]? = some x → l[i]? = some y → setC j (xs.take (i + 1)) l = (setC j (xs.take i) l).set i (y.set j x)
  | 0, xs, l, x, y, hx, hy => by
    match xs, l, hx, hy with
    | x' :: xs, y' :: l, hx, hy =>
      obtain rfl : x' = x := by simpa using hx
      obtain rfl : y' = y := by simpa using hy
      show x' :: xs |>.take 1 |> fun t => setC j t (y' :: l) = _
      simp [setC, setC_nil]
  | i + 1, xs, l, x, y, hx, hy => by
    match xs, l, hx, hy with
    | x' :: xs, y' :: l, hx, hy =>
      have ih := setC_next j i xs l x y (by simpa using hx) (by simpa using hy)
      show y'.set j x' :: setC j (xs.take (i + 1)) l = _
      rw [ih]; rfl
theorem setC_ok {k m j : Nat} : ∀ (xs : List Int) (l : List Item), (∀ x ∈ xs, in6 x) → ItemsOk k m l → ItemsOk k m (setC j xs l)
  | [], l, _, h => by rwa [setC_nil]
  | _ :: _, [], _, h => h
  | x :: xs, y :: l, hx, h => by
    have ih := setC_ok (j := j) (k := k) (m := m) xs l (fun z hz => hx z (List.mem_cons_of_mem _ hz)) ⟨Nat.le_trans (by simp) h.1, fun z hz => h.2 z (List.mem_cons_of_mem _ hz)⟩
    refine ⟨by rw [setC_len]; exact h.1, fun z hz => ?_⟩
    rcases List.mem_cons.1 hz with rfl | hz
    · have hy := h.2 y (List.mem_cons_self ..)
      refine ⟨by simpa using hy.1, fun q hq => ?_⟩
      rcases List.mem_or_eq_of_mem_set hq with hq | rfl
      · exact hy.2 q hq
      · exact hx _ (List.mem_cons_self ..)
    · exact ih.2 z hz
theorem flat_set {k : Nat} : ∀ (l : List Item) (i : Nat) (y : Item) (j : Nat) (x : Int), (∀ z ∈ l, z.length = k) → l[i]? = some y → j < k → flatI (l.set i (y.set j x)) = (flatI l).set (i * k + j) (.int .i64 x)
  | [], i, y, j, x, _, h, _ => by simp at h
  | z :: l, 0, y, j, x, hk, h, hj => by
    obtain rfl : z = y := by simpa using h
    have hz := hk z (List.mem_cons_self ..)
    show (z.set j x).map (Value.int .i64) ++ flatI l = (z.map (Value.int .i64) ++ flatI l).set (0 * k + j) _
    rw [Nat.zero_mul, Nat.zero_add, List.set_append_left _ _ (by simpa [hz] using hj), List.map_set]
  | z :: l, i + 1, y, j, x, hk, h, hj => by
    have ih := flat_set l i y j x (fun q hq => hk q (List.mem_cons_of_mem _ hq)) (by simpa using h) hj
    have hz := hk z (List.mem_cons_self ..)
    show z.map (Value.int .i64) ++ flatI (l.set i (y.set j x)) = (z.map (Value.int .i64) ++ flatI l).set ((i + 1) * k + j) _
    rw [ih, List.set_append_right _ _ (by simp [hz, Nat.add_mul]; omega), List.length_map, hz, show (i + 1) * k + j - k = i * k + j by rw [Nat.add_mul]; omega]
theorem flat_some {k : Nat} {l : List Item} {i : Nat} {y : Item} {j : Nat} (hk : ∀ z ∈ l, z.length = k) (h : l[i]? = some y) (hj : j < k) : (flatI l)[i * k + j]? = some (.int .i64 (key j y)) :=
  flatI_at l hk i y h j (key j y) (by have := hk y (List.mem_of_getElem? h); unfold key; rw [List.getD_eq_getElem?_getD]; simp [this, hj])
theorem flat_pos {k i n j : Nat} (hi : i < n) (hj : j < k) : i * k + j < n * k := by
  have h : (i + 1) * k ≤ n * k := Nat.mul_le_mul_right k hi
  rw [Nat.add_mul] at h
  omega
/-- What taken has made so far. -/
structure TakenS (w : World) (B : Nat) (T : TypeId) (k : Nat) (nv : Array Value) (tb : TypeId) (v : Value) (n : Nat) (l : List Item) (W : World) : Prop where
  own : W.ownsRow B T k v n (flatI l)
  gr : w.grownBy W v.ownBlock
  box : W.heap[w.heap.size]? = some (.cells nv tb (0, 0))
theorem TakenS.drewS {w : World} {B : Nat} {T : TypeId} {k : Nat} {nv : Array Value} {tb : TypeId} {v : Value} {n : Nat} {l : List Item} {W : World} {p : Addr} {u : Value} (h : TakenS w B T k nv tb v n l (W.setCell p u)) : TakenS w B T k nv tb v n l (W.drew.setCell p u) := ⟨h.own, ⟨h.gr.os, h.gr.tape, h.gr.output, h.gr.size, h.gr.block⟩, h.box⟩
set_option maxRecDepth 100000 in
set_option maxHeartbeats 4000000 in
theorem takenHolder (rf wf bx j : Nat) (ob : Obj) (B : Nat) (av a2 : Option Addr) (c c2 : Nat) (L : List Item) (xs : List Int) (w : World) (hn : NumOk rf wf bx j ob) (hbx : w.heap[bx]? = some ob) (hbn : some bx ≠ (Value.slice av L.length c).ownBlock)
    (ho : w.ownsRow B 62 4 (.slice av L.length c) L.length (flatI L)) (hk : ItemsOk 4 2000 L) (hj : j < 4) (hx : I64s w a2 xs) (hsep : ∀ (b off : Nat), a2 = some ⟨b, off, none⟩ → xs ≠ [] → some b ≠ (Value.slice av L.length c).ownBlock) (hle : xs.length = L.length) :
    Calls Tryz.prog 107 #[.slice av L.length c, .agg (numV rf wf bx), .slice a2 xs.length c2] w fun e w' => e = .returned (.bool true) ∧ w'.ownsRow B 62 4 (.slice av L.length c) L.length (flatI (setC j xs L)) ∧ w.grownBy w' (Value.slice av L.length c).ownBlock := by
  have hkl := hk.1
  have henw := hn.enw
  have HK := Lib.hid (fun i => show ∀ z ∈ setC j (xs.take i) L, z.length = 4 from fun z hz => by
    have h1 : ∀ (ys : List Int) (l : List Item), (∀ z ∈ l, z.length = 4) → ∀ z ∈ setC j ys l, z.length = 4 := by
      intro ys
      induction ys with
      | nil => intro l hl; rw [setC_nil]; exact hl
      | cons y ys ih =>
        intro l hl
        match l, hl with
        | [], hl => exact hl
        | q :: l, hl =>
          intro z hz
          rcases List.mem_cons.1 hz with rfl | hz
          · have := hl q (List.mem_cons_self ..); simpa using this
          · exact ih l (fun r hr => hl r (List.mem_cons_of_mem _ hr)) z hz
    exact h1 _ L (fun x hx => (hk.2 x hx).1) z hz)
  have HWR := Lib.hid hn.wr
  obtain ⟨nv, hnv⟩ : ∃ x, numV rf wf bx = x := ⟨_, rfl⟩
  have HN1 := Lib.hid (show nv[1]? = some (.func (.func wf) #[] #[.pointer (some ⟨bx, 0, none⟩)]) by rw [← hnv]; rfl)
  rw [hnv, hle]
  have HLE := Lib.hid hle
  clear hle
  obtain ⟨OV, hOV⟩ : ∃ x, (Value.slice av L.length c).ownBlock = x := ⟨_, rfl⟩
  have hA : Below w.heap.size w (w.alloc (.cells nv 94)) := (Below.refl _ w).alloc (Nat.le_refl _) _
  have hown0 := own_below' ho hA
  have HT0 := Lib.hid (show TakenS w B 62 4 nv 94 (.slice av L.length c) L.length (setC j (xs.take 0) L) (w.alloc (.cells nv 94)) from
    ⟨by rw [List.take_zero, setC_nil]; exact hown0, below_grown hA _, heap_alloc_new w _⟩)
  have HSEP := Lib.hid hsep
  have HBN := Lib.hid hbn
  have HX := Lib.hid hx
  have hbl := lt_of_blk hbx
  have HBX := Lib.hid hbx
  have hlt0 : ∀ q, (Value.slice av L.length c).ownBlock = some q → q < w.heap.size := fun q hq => (ho.lt q hq).2
  have HLT := Lib.hid hlt0
  clear hA hown0 hsep hbn hx hbx ho hk hn hnv hlt0
  go_enter Tryz.func107, Tryz.ntmps107
  go_upto_region 3 with (fail)
  go_wp2
  go_loopw [7, 15] (fun v7 vi W => ∃ i : Nat, vi = .int .i64 (i : Int) ∧ i ≤ L.length ∧ TakenS w B 62 4 nv 94 (.slice av L.length c) L.length (setC j (xs.take i) L) W) (fun _ vi _ => L.length - (intOf vi).toNat)
  case atStart => exact ⟨0, rfl, Nat.zero_le _, HT0.out⟩
  case round =>
    obtain ⟨i, rfl, hi, hts⟩ := hrel
    have HT := Lib.hid hts
    clear hts HT0
    by_cases hlt : i < L.length
    · obtain ⟨x, hx⟩ : ∃ x, L[i]? = some x := ⟨L[i], by simp [hlt]⟩
      obtain ⟨z, hz⟩ : ∃ z, xs[i]? = some z := ⟨xs[i]'(by rw [HLE.out]; exact hlt), by simp⟩
      obtain ⟨g, cap, hv⟩ := own_shape' HT.out.own (by omega)
      obtain ⟨rfl, rfl⟩ : av = some ⟨g, 0, none⟩ ∧ c = cap := by simpa using hv
      have hgl : g < w.heap.size := HLT.out g rfl
      have hbg : bx ≠ g := fun e => HBN.out (by rw [e]; rfl)
      have hbxr : wr.heap[bx]? = some ob := (HT.out.gr.block bx hbl (fun e => HBN.out e)).trans HBX.out
      obtain ⟨b2, off, rfl, hb2, hcs⟩ : ∃ b2 off, a2 = some ⟨b2, off, none⟩ ∧ b2 < w.heap.size ∧ w.cell? ⟨b2, off + i, none⟩ = some (.int .i64 z) := by
        rcases HX.out with h | ⟨b2, off, h1, h2, h3⟩
        · rw [h] at hz; cases hz
        · exact ⟨b2, off, h1, h2, h3 i z hz⟩
      have k1 : wr.cell? ⟨b2, off + i, none⟩ = some (.int .i64 z) := HT.out.gr.cell hcs (fun e => HSEP.out b2 off rfl (by rintro rfl; cases hz) e)
      have k0 : wr.cell? ⟨w.heap.size, 1, none⟩ = some (.func (.func wf) #[] #[.pointer (some ⟨bx, 0, none⟩)]) := by rw [cell_of_row _ _ _ _ _ _ HT.out.box]; exact HN1.out
      have hyx : (setC j (xs.take i) L)[i]? = some x := (setC_at j i xs L).trans hx
      have hpos : i * 4 + j < L.length * 4 := flat_pos hlt hj
      have c0 := HT.out.own.cellAt (i * 4 + j) hpos
      rw [flat_some (HK.out i) hyx hj] at c0
      have f0 := HT.out.own.frozenAt (i * 4 + j)
      have HC := Lib.hid ((HWR.out g (i * 4) z wr.drew _ hbxr c0 f0))
      have hst := HT.out.own.stored (i * 4 + j) (.int .i64 z)
      have HNX := Lib.hid (show TakenS w B 62 4 nv 94 (.slice (some ⟨g, 0, none⟩) L.length c) L.length (setC j (xs.take (i + 1)) L) (wr.setCell ⟨g, i * 4 + j, none⟩ (.int .i64 z)) from
        ⟨by have h := hst.1; rw [← flat_set _ i x j z (HK.out i) hyx hj, ← setC_next j i xs L z x hz hx] at h; exact h, grown_transN HT.out.gr hst.2, (heap_setCell_ne _ (by omega)).trans HT.out.box⟩)
      clear hst hcs hz hx hyx hpos hv hbxr hOV c0 f0
      go_upto_region 6 with (fail)
      go_still_tail 9, (by kernel_rfl)
      go_wp2_with (with_reducible refine HC.out.mono ?_; rintro e w1 ⟨rfl, rfl⟩)
      go_roundw
      case rel => exact ⟨i + 1, by go_num, hlt, HNX.out.drewS⟩
      case measure => simp [intOf]; omega
    · have hil : i = L.length := by omega
      have HE := Lib.hid (show setC j (xs.take i) L = setC j xs L by rw [List.take_of_length_le (by rw [HLE.out]; omega)])
      clear hOV
      go_wp2
      go_ret
      exact ⟨rfl, by rw [← HE.out]; exact HT.out.own, HT.out.gr⟩
set_option maxRecDepth 100000 in
set_option maxHeartbeats 4000000 in
theorem takenHolder_no (rf wf bx : Nat) (av a2 : Option Addr) (c c2 n m : Nat) (w : World) (_hn : n ≤ 2000) (_hm : m ≤ 2000) (hle : m ≠ n) :
    Calls Tryz.prog 107 #[.slice av n c, .agg (numV rf wf bx), .slice a2 m c2] w fun e w' => e = .returned (.bool false) ∧ Below w.heap.size w w' := by
  have hA : Below w.heap.size w (w.alloc (.cells (numV rf wf bx) 94)) := (Below.refl _ w).alloc (Nat.le_refl _) _
  have HA := Lib.hid hA
  have hne : ((m : Int) != (n : Int)) = true := by simp; omega
  clear hA hle
  go_enter Tryz.func107, Tryz.ntmps107
  go_wp2
  go_ret
  exact ⟨rfl, HA.out⟩
set_option maxRecDepth 100000 in
set_option maxHeartbeats 4000000 in
theorem takenStake (rf wf bx j : Nat) (ob : Obj) (B : Nat) (av a2 : Option Addr) (c c2 : Nat) (L : List Item) (xs : List Int) (w : World) (hn : NumOk rf wf bx j ob) (hbx : w.heap[bx]? = some ob) (hbn : some bx ≠ (Value.slice av L.length c).ownBlock)
    (ho : w.ownsRow B 66 3 (.slice av L.length c) L.length (flatI L)) (hk : ItemsOk 3 2000 L) (hj : j < 3) (hx : I64s w a2 xs) (hsep : ∀ (b off : Nat), a2 = some ⟨b, off, none⟩ → xs ≠ [] → some b ≠ (Value.slice av L.length c).ownBlock) (hle : xs.length = L.length) :
    Calls Tryz.prog 113 #[.slice av L.length c, .agg (numV rf wf bx), .slice a2 xs.length c2] w fun e w' => e = .returned (.bool true) ∧ w'.ownsRow B 66 3 (.slice av L.length c) L.length (flatI (setC j xs L)) ∧ w.grownBy w' (Value.slice av L.length c).ownBlock := by
  have hkl := hk.1
  have henw := hn.enw
  have HK := Lib.hid (fun i => show ∀ z ∈ setC j (xs.take i) L, z.length = 3 from fun z hz => by
    have h1 : ∀ (ys : List Int) (l : List Item), (∀ z ∈ l, z.length = 3) → ∀ z ∈ setC j ys l, z.length = 3 := by
      intro ys
      induction ys with
      | nil => intro l hl; rw [setC_nil]; exact hl
      | cons y ys ih =>
        intro l hl
        match l, hl with
        | [], hl => exact hl
        | q :: l, hl =>
          intro z hz
          rcases List.mem_cons.1 hz with rfl | hz
          · have := hl q (List.mem_cons_self ..); simpa using this
          · exact ih l (fun r hr => hl r (List.mem_cons_of_mem _ hr)) z hz
    exact h1 _ L (fun x hx => (hk.2 x hx).1) z hz)
  have HWR := Lib.hid hn.wr
  obtain ⟨nv, hnv⟩ : ∃ x, numV rf wf bx = x := ⟨_, rfl⟩
  have HN1 := Lib.hid (show nv[1]? = some (.func (.func wf) #[] #[.pointer (some ⟨bx, 0, none⟩)]) by rw [← hnv]; rfl)
  rw [hnv, hle]
  have HLE := Lib.hid hle
  clear hle
  obtain ⟨OV, hOV⟩ : ∃ x, (Value.slice av L.length c).ownBlock = x := ⟨_, rfl⟩
  have hA : Below w.heap.size w (w.alloc (.cells nv 104)) := (Below.refl _ w).alloc (Nat.le_refl _) _
  have hown0 := own_below' ho hA
  have HT0 := Lib.hid (show TakenS w B 66 3 nv 104 (.slice av L.length c) L.length (setC j (xs.take 0) L) (w.alloc (.cells nv 104)) from
    ⟨by rw [List.take_zero, setC_nil]; exact hown0, below_grown hA _, heap_alloc_new w _⟩)
  have HSEP := Lib.hid hsep
  have HBN := Lib.hid hbn
  have HX := Lib.hid hx
  have hbl := lt_of_blk hbx
  have HBX := Lib.hid hbx
  have hlt0 : ∀ q, (Value.slice av L.length c).ownBlock = some q → q < w.heap.size := fun q hq => (ho.lt q hq).2
  have HLT := Lib.hid hlt0
  clear hA hown0 hsep hbn hx hbx ho hk hn hnv hlt0
  go_enter Tryz.func113, Tryz.ntmps113
  go_upto_region 3 with (fail)
  go_wp2
  go_loopw [7, 15] (fun v7 vi W => ∃ i : Nat, vi = .int .i64 (i : Int) ∧ i ≤ L.length ∧ TakenS w B 66 3 nv 104 (.slice av L.length c) L.length (setC j (xs.take i) L) W) (fun _ vi _ => L.length - (intOf vi).toNat)
  case atStart => exact ⟨0, rfl, Nat.zero_le _, HT0.out⟩
  case round =>
    obtain ⟨i, rfl, hi, hts⟩ := hrel
    have HT := Lib.hid hts
    clear hts HT0
    by_cases hlt : i < L.length
    · obtain ⟨x, hx⟩ : ∃ x, L[i]? = some x := ⟨L[i], by simp [hlt]⟩
      obtain ⟨z, hz⟩ : ∃ z, xs[i]? = some z := ⟨xs[i]'(by rw [HLE.out]; exact hlt), by simp⟩
      obtain ⟨g, cap, hv⟩ := own_shape' HT.out.own (by omega)
      obtain ⟨rfl, rfl⟩ : av = some ⟨g, 0, none⟩ ∧ c = cap := by simpa using hv
      have hgl : g < w.heap.size := HLT.out g rfl
      have hbg : bx ≠ g := fun e => HBN.out (by rw [e]; rfl)
      have hbxr : wr.heap[bx]? = some ob := (HT.out.gr.block bx hbl (fun e => HBN.out e)).trans HBX.out
      obtain ⟨b2, off, rfl, hb2, hcs⟩ : ∃ b2 off, a2 = some ⟨b2, off, none⟩ ∧ b2 < w.heap.size ∧ w.cell? ⟨b2, off + i, none⟩ = some (.int .i64 z) := by
        rcases HX.out with h | ⟨b2, off, h1, h2, h3⟩
        · rw [h] at hz; cases hz
        · exact ⟨b2, off, h1, h2, h3 i z hz⟩
      have k1 : wr.cell? ⟨b2, off + i, none⟩ = some (.int .i64 z) := HT.out.gr.cell hcs (fun e => HSEP.out b2 off rfl (by rintro rfl; cases hz) e)
      have k0 : wr.cell? ⟨w.heap.size, 1, none⟩ = some (.func (.func wf) #[] #[.pointer (some ⟨bx, 0, none⟩)]) := by rw [cell_of_row _ _ _ _ _ _ HT.out.box]; exact HN1.out
      have hyx : (setC j (xs.take i) L)[i]? = some x := (setC_at j i xs L).trans hx
      have hpos : i * 3 + j < L.length * 3 := flat_pos hlt hj
      have c0 := HT.out.own.cellAt (i * 3 + j) hpos
      rw [flat_some (HK.out i) hyx hj] at c0
      have f0 := HT.out.own.frozenAt (i * 3 + j)
      have HC := Lib.hid ((HWR.out g (i * 3) z wr.drew _ hbxr c0 f0))
      have hst := HT.out.own.stored (i * 3 + j) (.int .i64 z)
      have HNX := Lib.hid (show TakenS w B 66 3 nv 104 (.slice (some ⟨g, 0, none⟩) L.length c) L.length (setC j (xs.take (i + 1)) L) (wr.setCell ⟨g, i * 3 + j, none⟩ (.int .i64 z)) from
        ⟨by have h := hst.1; rw [← flat_set _ i x j z (HK.out i) hyx hj, ← setC_next j i xs L z x hz hx] at h; exact h, grown_transN HT.out.gr hst.2, (heap_setCell_ne _ (by omega)).trans HT.out.box⟩)
      clear hst hcs hz hx hyx hpos hv hbxr hOV c0 f0
      go_upto_region 6 with (fail)
      go_still_tail 9, (by kernel_rfl)
      go_wp2_with (with_reducible refine HC.out.mono ?_; rintro e w1 ⟨rfl, rfl⟩)
      go_roundw
      case rel => exact ⟨i + 1, by go_num, hlt, HNX.out.drewS⟩
      case measure => simp [intOf]; omega
    · have hil : i = L.length := by omega
      have HE := Lib.hid (show setC j (xs.take i) L = setC j xs L by rw [List.take_of_length_le (by rw [HLE.out]; omega)])
      clear hOV
      go_wp2
      go_ret
      exact ⟨rfl, by rw [← HE.out]; exact HT.out.own, HT.out.gr⟩
set_option maxRecDepth 100000 in
set_option maxHeartbeats 4000000 in
theorem takenStake_no (rf wf bx : Nat) (av a2 : Option Addr) (c c2 n m : Nat) (w : World) (_hn : n ≤ 2000) (_hm : m ≤ 2000) (hle : m ≠ n) :
    Calls Tryz.prog 113 #[.slice av n c, .agg (numV rf wf bx), .slice a2 m c2] w fun e w' => e = .returned (.bool false) ∧ Below w.heap.size w w' := by
  have hA : Below w.heap.size w (w.alloc (.cells (numV rf wf bx) 104)) := (Below.refl _ w).alloc (Nat.le_refl _) _
  have HA := Lib.hid hA
  have hne : ((m : Int) != (n : Int)) = true := by simp; omega
  clear hA hle
  go_enter Tryz.func113, Tryz.ntmps113
  go_wp2
  go_ret
  exact ⟨rfl, HA.out⟩
set_option maxRecDepth 100000 in
set_option maxHeartbeats 4000000 in
theorem takenOpen (rf wf bx j : Nat) (ob : Obj) (B : Nat) (av a2 : Option Addr) (c c2 : Nat) (L : List Item) (xs : List Int) (w : World) (hn : NumOk rf wf bx j ob) (hbx : w.heap[bx]? = some ob) (hbn : some bx ≠ (Value.slice av L.length c).ownBlock)
    (ho : w.ownsRow B 69 6 (.slice av L.length c) L.length (flatI L)) (hk : ItemsOk 6 2000 L) (hj : j < 6) (hx : I64s w a2 xs) (hsep : ∀ (b off : Nat), a2 = some ⟨b, off, none⟩ → xs ≠ [] → some b ≠ (Value.slice av L.length c).ownBlock) (hle : xs.length = L.length) :
    Calls Tryz.prog 119 #[.slice av L.length c, .agg (numV rf wf bx), .slice a2 xs.length c2] w fun e w' => e = .returned (.bool true) ∧ w'.ownsRow B 69 6 (.slice av L.length c) L.length (flatI (setC j xs L)) ∧ w.grownBy w' (Value.slice av L.length c).ownBlock := by
  have hkl := hk.1
  have henw := hn.enw
  have HK := Lib.hid (fun i => show ∀ z ∈ setC j (xs.take i) L, z.length = 6 from fun z hz => by
    have h1 : ∀ (ys : List Int) (l : List Item), (∀ z ∈ l, z.length = 6) → ∀ z ∈ setC j ys l, z.length = 6 := by
      intro ys
      induction ys with
      | nil => intro l hl; rw [setC_nil]; exact hl
      | cons y ys ih =>
        intro l hl
        match l, hl with
        | [], hl => exact hl
        | q :: l, hl =>
          intro z hz
          rcases List.mem_cons.1 hz with rfl | hz
          · have := hl q (List.mem_cons_self ..); simpa using this
          · exact ih l (fun r hr => hl r (List.mem_cons_of_mem _ hr)) z hz
    exact h1 _ L (fun x hx => (hk.2 x hx).1) z hz)
  have HWR := Lib.hid hn.wr
  obtain ⟨nv, hnv⟩ : ∃ x, numV rf wf bx = x := ⟨_, rfl⟩
  have HN1 := Lib.hid (show nv[1]? = some (.func (.func wf) #[] #[.pointer (some ⟨bx, 0, none⟩)]) by rw [← hnv]; rfl)
  rw [hnv, hle]
  have HLE := Lib.hid hle
  clear hle
  obtain ⟨OV, hOV⟩ : ∃ x, (Value.slice av L.length c).ownBlock = x := ⟨_, rfl⟩
  have hA : Below w.heap.size w (w.alloc (.cells nv 113)) := (Below.refl _ w).alloc (Nat.le_refl _) _
  have hown0 := own_below' ho hA
  have HT0 := Lib.hid (show TakenS w B 69 6 nv 113 (.slice av L.length c) L.length (setC j (xs.take 0) L) (w.alloc (.cells nv 113)) from
    ⟨by rw [List.take_zero, setC_nil]; exact hown0, below_grown hA _, heap_alloc_new w _⟩)
  have HSEP := Lib.hid hsep
  have HBN := Lib.hid hbn
  have HX := Lib.hid hx
  have hbl := lt_of_blk hbx
  have HBX := Lib.hid hbx
  have hlt0 : ∀ q, (Value.slice av L.length c).ownBlock = some q → q < w.heap.size := fun q hq => (ho.lt q hq).2
  have HLT := Lib.hid hlt0
  clear hA hown0 hsep hbn hx hbx ho hk hn hnv hlt0
  go_enter Tryz.func119, Tryz.ntmps119
  go_upto_region 3 with (fail)
  go_wp2
  go_loopw [7, 15] (fun v7 vi W => ∃ i : Nat, vi = .int .i64 (i : Int) ∧ i ≤ L.length ∧ TakenS w B 69 6 nv 113 (.slice av L.length c) L.length (setC j (xs.take i) L) W) (fun _ vi _ => L.length - (intOf vi).toNat)
  case atStart => exact ⟨0, rfl, Nat.zero_le _, HT0.out⟩
  case round =>
    obtain ⟨i, rfl, hi, hts⟩ := hrel
    have HT := Lib.hid hts
    clear hts HT0
    by_cases hlt : i < L.length
    · obtain ⟨x, hx⟩ : ∃ x, L[i]? = some x := ⟨L[i], by simp [hlt]⟩
      obtain ⟨z, hz⟩ : ∃ z, xs[i]? = some z := ⟨xs[i]'(by rw [HLE.out]; exact hlt), by simp⟩
      obtain ⟨g, cap, hv⟩ := own_shape' HT.out.own (by omega)
      obtain ⟨rfl, rfl⟩ : av = some ⟨g, 0, none⟩ ∧ c = cap := by simpa using hv
      have hgl : g < w.heap.size := HLT.out g rfl
      have hbg : bx ≠ g := fun e => HBN.out (by rw [e]; rfl)
      have hbxr : wr.heap[bx]? = some ob := (HT.out.gr.block bx hbl (fun e => HBN.out e)).trans HBX.out
      obtain ⟨b2, off, rfl, hb2, hcs⟩ : ∃ b2 off, a2 = some ⟨b2, off, none⟩ ∧ b2 < w.heap.size ∧ w.cell? ⟨b2, off + i, none⟩ = some (.int .i64 z) := by
        rcases HX.out with h | ⟨b2, off, h1, h2, h3⟩
        · rw [h] at hz; cases hz
        · exact ⟨b2, off, h1, h2, h3 i z hz⟩
      have k1 : wr.cell? ⟨b2, off + i, none⟩ = some (.int .i64 z) := HT.out.gr.cell hcs (fun e => HSEP.out b2 off rfl (by rintro rfl; cases hz) e)
      have k0 : wr.cell? ⟨w.heap.size, 1, none⟩ = some (.func (.func wf) #[] #[.pointer (some ⟨bx, 0, none⟩)]) := by rw [cell_of_row _ _ _ _ _ _ HT.out.box]; exact HN1.out
      have hyx : (setC j (xs.take i) L)[i]? = some x := (setC_at j i xs L).trans hx
      have hpos : i * 6 + j < L.length * 6 := flat_pos hlt hj
      have c0 := HT.out.own.cellAt (i * 6 + j) hpos
      rw [flat_some (HK.out i) hyx hj] at c0
      have f0 := HT.out.own.frozenAt (i * 6 + j)
      have HC := Lib.hid ((HWR.out g (i * 6) z wr.drew _ hbxr c0 f0))
      have hst := HT.out.own.stored (i * 6 + j) (.int .i64 z)
      have HNX := Lib.hid (show TakenS w B 69 6 nv 113 (.slice (some ⟨g, 0, none⟩) L.length c) L.length (setC j (xs.take (i + 1)) L) (wr.setCell ⟨g, i * 6 + j, none⟩ (.int .i64 z)) from
        ⟨by have h := hst.1; rw [← flat_set _ i x j z (HK.out i) hyx hj, ← setC_next j i xs L z x hz hx] at h; exact h, grown_transN HT.out.gr hst.2, (heap_setCell_ne _ (by omega)).trans HT.out.box⟩)
      clear hst hcs hz hx hyx hpos hv hbxr hOV c0 f0
      go_upto_region 6 with (fail)
      go_still_tail 9, (by kernel_rfl)
      go_wp2_with (with_reducible refine HC.out.mono ?_; rintro e w1 ⟨rfl, rfl⟩)
      go_roundw
      case rel => exact ⟨i + 1, by go_num, hlt, HNX.out.drewS⟩
      case measure => simp [intOf]; omega
    · have hil : i = L.length := by omega
      have HE := Lib.hid (show setC j (xs.take i) L = setC j xs L by rw [List.take_of_length_le (by rw [HLE.out]; omega)])
      clear hOV
      go_wp2
      go_ret
      exact ⟨rfl, by rw [← HE.out]; exact HT.out.own, HT.out.gr⟩
set_option maxRecDepth 100000 in
set_option maxHeartbeats 4000000 in
theorem takenOpen_no (rf wf bx : Nat) (av a2 : Option Addr) (c c2 n m : Nat) (w : World) (_hn : n ≤ 2000) (_hm : m ≤ 2000) (hle : m ≠ n) :
    Calls Tryz.prog 119 #[.slice av n c, .agg (numV rf wf bx), .slice a2 m c2] w fun e w' => e = .returned (.bool false) ∧ Below w.heap.size w w' := by
  have hA : Below w.heap.size w (w.alloc (.cells (numV rf wf bx) 113)) := (Below.refl _ w).alloc (Nat.le_refl _) _
  have HA := Lib.hid hA
  have hne : ((m : Int) != (n : Int)) = true := by simp; omega
  clear hA hle
  go_enter Tryz.func119, Tryz.ntmps119
  go_wp2
  go_ret
  exact ⟨rfl, HA.out⟩
set_option maxRecDepth 100000 in
set_option maxHeartbeats 4000000 in
theorem takenRate (rf wf bx j : Nat) (ob : Obj) (B : Nat) (av a2 : Option Addr) (c c2 : Nat) (L : List Item) (xs : List Int) (w : World) (hn : NumOk rf wf bx j ob) (hbx : w.heap[bx]? = some ob) (hbn : some bx ≠ (Value.slice av L.length c).ownBlock)
    (ho : w.ownsRow B 64 2 (.slice av L.length c) L.length (flatI L)) (hk : ItemsOk 2 2000 L) (hj : j < 2) (hx : I64s w a2 xs) (hsep : ∀ (b off : Nat), a2 = some ⟨b, off, none⟩ → xs ≠ [] → some b ≠ (Value.slice av L.length c).ownBlock) (hle : xs.length = L.length) :
    Calls Tryz.prog 127 #[.slice av L.length c, .agg (numV rf wf bx), .slice a2 xs.length c2] w fun e w' => e = .returned (.bool true) ∧ w'.ownsRow B 64 2 (.slice av L.length c) L.length (flatI (setC j xs L)) ∧ w.grownBy w' (Value.slice av L.length c).ownBlock := by
  have hkl := hk.1
  have henw := hn.enw
  have HK := Lib.hid (fun i => show ∀ z ∈ setC j (xs.take i) L, z.length = 2 from fun z hz => by
    have h1 : ∀ (ys : List Int) (l : List Item), (∀ z ∈ l, z.length = 2) → ∀ z ∈ setC j ys l, z.length = 2 := by
      intro ys
      induction ys with
      | nil => intro l hl; rw [setC_nil]; exact hl
      | cons y ys ih =>
        intro l hl
        match l, hl with
        | [], hl => exact hl
        | q :: l, hl =>
          intro z hz
          rcases List.mem_cons.1 hz with rfl | hz
          · have := hl q (List.mem_cons_self ..); simpa using this
          · exact ih l (fun r hr => hl r (List.mem_cons_of_mem _ hr)) z hz
    exact h1 _ L (fun x hx => (hk.2 x hx).1) z hz)
  have HWR := Lib.hid hn.wr
  obtain ⟨nv, hnv⟩ : ∃ x, numV rf wf bx = x := ⟨_, rfl⟩
  have HN1 := Lib.hid (show nv[1]? = some (.func (.func wf) #[] #[.pointer (some ⟨bx, 0, none⟩)]) by rw [← hnv]; rfl)
  rw [hnv, hle]
  have HLE := Lib.hid hle
  clear hle
  obtain ⟨OV, hOV⟩ : ∃ x, (Value.slice av L.length c).ownBlock = x := ⟨_, rfl⟩
  have hA : Below w.heap.size w (w.alloc (.cells nv 125)) := (Below.refl _ w).alloc (Nat.le_refl _) _
  have hown0 := own_below' ho hA
  have HT0 := Lib.hid (show TakenS w B 64 2 nv 125 (.slice av L.length c) L.length (setC j (xs.take 0) L) (w.alloc (.cells nv 125)) from
    ⟨by rw [List.take_zero, setC_nil]; exact hown0, below_grown hA _, heap_alloc_new w _⟩)
  have HSEP := Lib.hid hsep
  have HBN := Lib.hid hbn
  have HX := Lib.hid hx
  have hbl := lt_of_blk hbx
  have HBX := Lib.hid hbx
  have hlt0 : ∀ q, (Value.slice av L.length c).ownBlock = some q → q < w.heap.size := fun q hq => (ho.lt q hq).2
  have HLT := Lib.hid hlt0
  clear hA hown0 hsep hbn hx hbx ho hk hn hnv hlt0
  go_enter Tryz.func127, Tryz.ntmps127
  go_upto_region 3 with (fail)
  go_wp2
  go_loopw [7, 15] (fun v7 vi W => ∃ i : Nat, vi = .int .i64 (i : Int) ∧ i ≤ L.length ∧ TakenS w B 64 2 nv 125 (.slice av L.length c) L.length (setC j (xs.take i) L) W) (fun _ vi _ => L.length - (intOf vi).toNat)
  case atStart => exact ⟨0, rfl, Nat.zero_le _, HT0.out⟩
  case round =>
    obtain ⟨i, rfl, hi, hts⟩ := hrel
    have HT := Lib.hid hts
    clear hts HT0
    by_cases hlt : i < L.length
    · obtain ⟨x, hx⟩ : ∃ x, L[i]? = some x := ⟨L[i], by simp [hlt]⟩
      obtain ⟨z, hz⟩ : ∃ z, xs[i]? = some z := ⟨xs[i]'(by rw [HLE.out]; exact hlt), by simp⟩
      obtain ⟨g, cap, hv⟩ := own_shape' HT.out.own (by omega)
      obtain ⟨rfl, rfl⟩ : av = some ⟨g, 0, none⟩ ∧ c = cap := by simpa using hv
      have hgl : g < w.heap.size := HLT.out g rfl
      have hbg : bx ≠ g := fun e => HBN.out (by rw [e]; rfl)
      have hbxr : wr.heap[bx]? = some ob := (HT.out.gr.block bx hbl (fun e => HBN.out e)).trans HBX.out
      obtain ⟨b2, off, rfl, hb2, hcs⟩ : ∃ b2 off, a2 = some ⟨b2, off, none⟩ ∧ b2 < w.heap.size ∧ w.cell? ⟨b2, off + i, none⟩ = some (.int .i64 z) := by
        rcases HX.out with h | ⟨b2, off, h1, h2, h3⟩
        · rw [h] at hz; cases hz
        · exact ⟨b2, off, h1, h2, h3 i z hz⟩
      have k1 : wr.cell? ⟨b2, off + i, none⟩ = some (.int .i64 z) := HT.out.gr.cell hcs (fun e => HSEP.out b2 off rfl (by rintro rfl; cases hz) e)
      have k0 : wr.cell? ⟨w.heap.size, 1, none⟩ = some (.func (.func wf) #[] #[.pointer (some ⟨bx, 0, none⟩)]) := by rw [cell_of_row _ _ _ _ _ _ HT.out.box]; exact HN1.out
      have hyx : (setC j (xs.take i) L)[i]? = some x := (setC_at j i xs L).trans hx
      have hpos : i * 2 + j < L.length * 2 := flat_pos hlt hj
      have c0 := HT.out.own.cellAt (i * 2 + j) hpos
      rw [flat_some (HK.out i) hyx hj] at c0
      have f0 := HT.out.own.frozenAt (i * 2 + j)
      have HC := Lib.hid ((HWR.out g (i * 2) z wr.drew _ hbxr c0 f0))
      have hst := HT.out.own.stored (i * 2 + j) (.int .i64 z)
      have HNX := Lib.hid (show TakenS w B 64 2 nv 125 (.slice (some ⟨g, 0, none⟩) L.length c) L.length (setC j (xs.take (i + 1)) L) (wr.setCell ⟨g, i * 2 + j, none⟩ (.int .i64 z)) from
        ⟨by have h := hst.1; rw [← flat_set _ i x j z (HK.out i) hyx hj, ← setC_next j i xs L z x hz hx] at h; exact h, grown_transN HT.out.gr hst.2, (heap_setCell_ne _ (by omega)).trans HT.out.box⟩)
      clear hst hcs hz hx hyx hpos hv hbxr hOV c0 f0
      go_upto_region 6 with (fail)
      go_still_tail 9, (by kernel_rfl)
      go_wp2_with (with_reducible refine HC.out.mono ?_; rintro e w1 ⟨rfl, rfl⟩)
      go_roundw
      case rel => exact ⟨i + 1, by go_num, hlt, HNX.out.drewS⟩
      case measure => simp [intOf]; omega
    · have hil : i = L.length := by omega
      have HE := Lib.hid (show setC j (xs.take i) L = setC j xs L by rw [List.take_of_length_le (by rw [HLE.out]; omega)])
      clear hOV
      go_wp2
      go_ret
      exact ⟨rfl, by rw [← HE.out]; exact HT.out.own, HT.out.gr⟩
set_option maxRecDepth 100000 in
set_option maxHeartbeats 4000000 in
theorem takenRate_no (rf wf bx : Nat) (av a2 : Option Addr) (c c2 n m : Nat) (w : World) (_hn : n ≤ 2000) (_hm : m ≤ 2000) (hle : m ≠ n) :
    Calls Tryz.prog 127 #[.slice av n c, .agg (numV rf wf bx), .slice a2 m c2] w fun e w' => e = .returned (.bool false) ∧ Below w.heap.size w w' := by
  have hA : Below w.heap.size w (w.alloc (.cells (numV rf wf bx) 125)) := (Below.refl _ w).alloc (Nat.le_refl _) _
  have HA := Lib.hid hA
  have hne : ((m : Int) != (n : Int)) = true := by simp; omega
  clear hA hle
  go_enter Tryz.func127, Tryz.ntmps127
  go_wp2
  go_ret
  exact ⟨rfl, HA.out⟩
end Go.Proofs.YtnhljfhpfpfniaaGreat

namespace Go.Proofs.YtnhljfhpfpfniaaGreat
open Go.RowKit Base Base2

/-- A book's box, or a row of its things. -/
def isBk : Obj → Bool
  | .cells _ t _ => t == 27 || t == 62 || t == 66 || t == 69 || t == 64
  | _ => false
/-- Whatever is none of a book lies as it lay. -/
structure KeepT (W W' : World) : Prop where
  size : W.heap.size ≤ W'.heap.size
  same : ∀ (k : Nat) (o : Obj), W.heap[k]? = some o → isBk o = false → W'.heap[k]? = some o
theorem KeepT.refl (W : World) : KeepT W W := ⟨Nat.le_refl _, fun _ _ h _ => h⟩
theorem KeepT.trans {A B C : World} (h : KeepT A B) (k : KeepT B C) : KeepT A C := ⟨Nat.le_trans h.size k.size, fun i o h1 h2 => k.same i o (h.same i o h1 h2) h2⟩
theorem KeepT.below {W W' : World} (h : Below W.heap.size W W') : KeepT W W' := ⟨h.size, fun k _ h1 _ => (h.block k (lt_of_blk h1)).trans h1⟩
theorem KeepT.grown {W W' : World} {row : Option Nat} (h : W.grownBy W' row) (hr : ∀ j, row = some j → ∃ o, W.heap[j]? = some o ∧ isBk o = true) : KeepT W W' :=
  ⟨h.size, fun k o h1 h2 => (h.block k (lt_of_blk h1) (fun e => by obtain ⟨o', h3, h4⟩ := hr k e.symm; rw [h1] at h3; cases h3; rw [h2] at h4; cases h4)).trans h1⟩
theorem KeepT.set {W : World} {b i : Nat} {o : Obj} (h : W.heap[b]? = some o) (ho : isBk o = true) (v : Value) : KeepT W (W.setCell ⟨b, i, none⟩ v) :=
  ⟨by simp [World.setCell], fun k o' h1 h2 => (Below.heap_setCell _ _ _ k (by rintro rfl; rw [h] at h1; cases h1; rw [h2] at ho; cases ho)).trans h1⟩
theorem KeepT.row {W W' : World} {B n k : Nat} {T : TypeId} {v : Value} {xs : List Value} (h : W.ownsRow B T k v n xs) (hT : ∀ cur, isBk (.cells cur T (0, 0)) = true) (hg : W.grownBy W' v.ownBlock) : KeepT W W' := by
  refine KeepT.grown hg fun j hj => ?_
  rcases h.2 with ⟨rfl, _⟩ | ⟨g, cap, cur, rfl, _, hgb, _⟩
  · simp [Value.ownBlock] at hj
  · obtain rfl : g = j := by simpa [Value.ownBlock] using hj
    exact ⟨_, hgb, hT _⟩
/-- A book that is being made, from a block on. -/
structure BkS (B gb : Nat) (W : World) (v : Slots) (b : BookT) : Prop where
  box : BoxB W gb v b
  h : W.ownsRow B 62 4 (.slice v.h b.hs.length v.ch) b.hs.length (flatI b.hs)
  s : W.ownsRow B 66 3 (.slice v.s b.ss.length v.cs) b.ss.length (flatI b.ss)
  o : W.ownsRow B 69 6 (.slice v.o b.os.length v.co) b.os.length (flatI b.os)
  r : W.ownsRow B 64 2 (.slice v.r b.rs.length v.cr) b.rs.length (flatI b.rs)
  lo : B ≤ gb
theorem BkS.zero {B gb : Nat} {W : World} {n : Int} (h : W.heap[gb]? = some (.cells #[.slice none 0 0, .slice none 0 0, .slice none 0 0, .slice none 0 0, .int .i64 n] 27 (0, 0))) (hB : B ≤ gb) : BkS B gb W ⟨none, none, none, none, 0, 0, 0, 0⟩ ⟨[], [], [], [], n⟩ :=
  ⟨h, ⟨rfl, .inl ⟨rfl, rfl⟩⟩, ⟨rfl, .inl ⟨rfl, rfl⟩⟩, ⟨rfl, .inl ⟨rfl, rfl⟩⟩, ⟨rfl, .inl ⟨rfl, rfl⟩⟩, hB⟩
theorem rows_ownS {k : Nat} {W : World} {base : Nat} {T : TypeId} {a : Option Addr} {c : Nat} {l : List Item} (hk : ∀ x ∈ l, x.length = k) (h : W.ownsRow base T k (.slice a l.length c) l.length (flatI l)) : RowsOf k W a l := by
  rcases h.2 with ⟨hv, hn⟩ | ⟨g, cap, cur, hv, a1, a2, a3, a4, a5, a6⟩
  · exact .inl (List.eq_nil_of_length_eq_zero hn)
  · obtain ⟨rfl, rfl⟩ : a = some ⟨g, 0, none⟩ ∧ c = cap := by simpa using hv
    refine .inr ⟨g, 0, rfl, (Array.getElem?_eq_some_iff.1 a2).1, fun i x hi j z hz => ?_⟩
    have hat := flatI_at l hk i x hi j z hz
    have := h.cells (g := g) rfl (i * k + j) _ hat
    rw [Addr.add_mid] at this
    rw [show 0 + i * k + j = 0 + (i * k + j) by omega]
    exact this
theorem BkS.isIn {B gb m : Nat} {W : World} {v : Slots} {b : BookT} (h : BkS B gb W v b) (hk : BookOk m b) : BookIn W v b :=
  ⟨rows_ownS (fun x hx => (hk.hs.2 x hx).1) h.h, rows_ownS (fun x hx => (hk.ss.2 x hx).1) h.s, rows_ownS (fun x hx => (hk.os.2 x hx).1) h.o, rows_ownS (fun x hx => (hk.rs.2 x hx).1) h.r⟩
theorem BkS.below {B gb : Nat} {W W' : World} {v : Slots} {b : BookT} (h : BkS B gb W v b) (hb : Below W.heap.size W W') : BkS B gb W' v b :=
  ⟨(hb.block gb (lt_of_blk h.box)).trans h.box, own_below' h.h hb, own_below' h.s hb, own_below' h.o hb, own_below' h.r hb, h.lo⟩
/-- What turns no book and no row of things keeps the book. -/
theorem own_no {W W' : World} {B n k p : Nat} {T : TypeId} {v : Value} {xs : List Value} {o : Obj} (h : W.ownsRow B T k v n xs) (hg : W.grownBy W' (some p)) (hp : W.heap[p]? = some o) (hT : ∀ cur, o ≠ .cells cur T (0, 0)) : W'.ownsRow B T k v n xs := by
  refine h.kept hg ?_
  rcases h.2 with ⟨rfl, _⟩ | ⟨g, cap, cur, rfl, _, hgb, _⟩
  · exact .inl rfl
  · refine .inr (fun e => ?_)
    obtain rfl : g = p := by simpa [Value.ownBlock] using e
    rw [hgb] at hp
    exact hT cur (Option.some.inj hp).symm
theorem BkS.grown {B gb p : Nat} {W W' : World} {v : Slots} {b : BookT} {o : Obj} (h : BkS B gb W v b) (hg : W.grownBy W' (some p)) (hp : W.heap[p]? = some o) (ho : isBk o = false) : BkS B gb W' v b := by
  have hne : gb ≠ p := by rintro rfl; have e := h.box; unfold BoxB at e; rw [hp] at e; cases e; simp [isBk] at ho
  have hT : ∀ T, (∀ cur, isBk (.cells cur T (0, 0)) = true) → ∀ cur, o ≠ .cells cur T (0, 0) := fun T h1 cur e => by subst e; rw [h1 cur] at ho; cases ho
  exact ⟨(hg.block gb (lt_of_blk h.box) (fun e => hne (Option.some.inj e))).trans h.box, own_no h.h hg hp (hT _ (fun _ => rfl)), own_no h.s hg hp (hT _ (fun _ => rfl)), own_no h.o hg hp (hT _ (fun _ => rfl)), own_no h.r hg hp (hT _ (fun _ => rfl)), h.lo⟩
/-- No row of the book's, and not its box. -/
structure SepA (gb : Nat) (v : Slots) (b : BookT) (a : Option Addr) : Prop where
  g : ∀ (k off : Nat), a = some ⟨k, off, none⟩ → k ≠ gb
  h : ∀ (k off : Nat), a = some ⟨k, off, none⟩ → some k ≠ (Value.slice v.h b.hs.length v.ch).ownBlock
  s : ∀ (k off : Nat), a = some ⟨k, off, none⟩ → some k ≠ (Value.slice v.s b.ss.length v.cs).ownBlock
  o : ∀ (k off : Nat), a = some ⟨k, off, none⟩ → some k ≠ (Value.slice v.o b.os.length v.co).ownBlock
  r : ∀ (k off : Nat), a = some ⟨k, off, none⟩ → some k ≠ (Value.slice v.r b.rs.length v.cr).ownBlock
theorem SepA.fresh {B gb : Nat} {w : World} {v : Slots} {b : BookT} {a : Option Addr} (h : BkS B gb w v b) (hf : ∀ (k off : Nat), a = some ⟨k, off, none⟩ → w.heap.size ≤ k) : SepA gb v b a :=
  ⟨fun k off e => by have := hf k off e; have := lt_of_blk h.box; omega,
   fun k off e e2 => by have := hf k off e; have := (h.h.lt k e2.symm).2; omega,
   fun k off e e2 => by have := hf k off e; have := (h.s.lt k e2.symm).2; omega,
   fun k off e e2 => by have := hf k off e; have := (h.o.lt k e2.symm).2; omega,
   fun k off e e2 => by have := hf k off e; have := (h.r.lt k e2.symm).2; omega⟩
def zerosI (k n : Nat) : List Item := List.replicate n (List.replicate k 0)
theorem zeros_flat (k : Nat) : ∀ n, flatI (zerosI k n) = List.replicate (n * k) (.int .i64 0)
  | 0 => by simp [zerosI, flatI]
  | n + 1 => by
    have ih := zeros_flat k n
    show (List.replicate k (0 : Int)).map (Value.int .i64) ++ flatI (zerosI k n) = _
    rw [ih, List.map_replicate, List.replicate_append_replicate, Nat.add_mul, Nat.one_mul, Nat.add_comm]
theorem zeros_ok (k : Nat) {m n : Nat} (h : n ≤ m) : ItemsOk k m (zerosI k n) :=
  ⟨by simpa [zerosI] using h, fun x hx => by
    obtain rfl := (List.mem_replicate.1 hx).2
    exact ⟨by simp, fun z hz => by obtain rfl := (List.mem_replicate.1 hz).2; exact ⟨by decide, by decide⟩⟩⟩
theorem zeros_len (k n : Nat) : (zerosI k n).length = n := by simp [zerosI]
theorem made_zero (zs : Array Value) (hz : ∀ i, i < zs.size → zs[i]? = some (.int .i64 0)) (h0 : 0 < zs.size) (n : Nat) : (madeCells zs n).toList = List.replicate n (.int .i64 0) := by
  apply List.ext_getElem?
  intro j
  by_cases hj : j < n
  · have h1 := hz (j % zs.size) (Nat.mod_lt _ h0)
    simp [madeCells, hj]
    simp [getElem!_def, h1]
  · simp [madeCells, hj]
theorem infoZHolder : (Tryz.prog.info? 62).map (fun i => (i.zero, i.size, i.bytes)) = some (some (.agg #[.int .i64 0, .int .i64 0, .int .i64 0, .int .i64 0]), 4, 32) := by kernel_rfl
theorem BkS.newHolder {B gb : Nat} {W : World} {v : Slots} {b : BookT} (h : BkS B gb W v b) (hB : B ≤ W.heap.size) (n : Nat) (hn : n ≤ 2000) :
    BkS B gb ((W.alloc (.cells (madeCells #[.int .i64 0, .int .i64 0, .int .i64 0, .int .i64 0] (n * 4)) 62)).setCell ⟨gb, 0, none⟩ (.slice (some ⟨W.heap.size, 0, none⟩) n n)) { v with h := some ⟨W.heap.size, 0, none⟩, ch := n } { b with hs := zerosI 4 n } ∧
    KeepT W ((W.alloc (.cells (madeCells #[.int .i64 0, .int .i64 0, .int .i64 0, .int .i64 0] (n * 4)) 62)).setCell ⟨gb, 0, none⟩ (.slice (some ⟨W.heap.size, 0, none⟩) n n)) ∧
    Below B W ((W.alloc (.cells (madeCells #[.int .i64 0, .int .i64 0, .int .i64 0, .int .i64 0] (n * 4)) 62)).setCell ⟨gb, 0, none⟩ (.slice (some ⟨W.heap.size, 0, none⟩) n n)) := by
  have hA : Below W.heap.size W (W.alloc (.cells (madeCells #[.int .i64 0, .int .i64 0, .int .i64 0, .int .i64 0] (n * 4)) 62)) := (Below.refl _ W).alloc (Nat.le_refl _) _
  have h1 := h.below hA
  have hgb : (W.alloc (.cells (madeCells #[.int .i64 0, .int .i64 0, .int .i64 0, .int .i64 0] (n * 4)) 62)).heap[gb]? = some (.cells (cellsB v b) 27 (0, 0)) := h1.box
  have hml : (madeCells #[.int .i64 0, .int .i64 0, .int .i64 0, .int .i64 0] (n * 4)).toList = flatI (zerosI 4 n) := by
    rw [zeros_flat]
    exact made_zero _ (fun i hi => by
      simp only [List.size_toArray, List.length_cons, List.length_nil] at hi
      match i, hi with
      | 0, _ => rfl
      | 1, _ => rfl
      | 2, _ => rfl
      | 3, _ => rfl
      | q + 4, hq => omega) (by simp) _
  have hnew := World.ownsRow_lit (base := B) (size := 4) (e := 62) W (madeCells #[.int .i64 0, .int .i64 0, .int .i64 0, .int .i64 0] (n * 4)) n hB (by unfold maxLen; omega) (by simp [size_madeCells])
  rw [hml] at hnew
  refine ⟨⟨?_, ?_, own_set' h1.s hgb (by decide), own_set' h1.o hgb (by decide), own_set' h1.r hgb (by decide), h.lo⟩, (KeepT.below hA).trans (KeepT.set hgb rfl _), (hA.mono hB).setCell h.lo _⟩
  · unfold BoxB
    rw [set_blkN hgb]
    simp [cellsB, zeros_len]
  · have h2 := own_set' (i := 0) (u := .slice (some ⟨W.heap.size, 0, none⟩) n n) hnew hgb (by decide)
    rw [zeros_len]
    exact h2
theorem BkS.turnHolder {B gb : Nat} {W W' : World} {v : Slots} {b : BookT} {L : List Item} (h : BkS B gb W v b) (hl : L.length = b.hs.length) (ho : W'.ownsRow B 62 4 (.slice v.h b.hs.length v.ch) b.hs.length (flatI L)) (hg : W.grownBy W' (Value.slice v.h b.hs.length v.ch).ownBlock) :
    BkS B gb W' v { b with hs := L } ∧ KeepT W W' := by
  have hK : KeepT W W' := KeepT.row h.h (fun _ => rfl) hg
  have hne : some gb ≠ (Value.slice v.h b.hs.length v.ch).ownBlock := own_ne' h.h h.box (by decide)
  have hoth : ∀ {T : TypeId} {k : Nat} {u : Value} {m : Nat} {xs : List Value}, T ≠ 62 → W.ownsRow B T k u m xs → W'.ownsRow B T k u m xs := fun hT h2 => by
    refine h2.kept hg ?_
    rcases h2.2 with ⟨rfl, _⟩ | ⟨g, cap, cur, rfl, _, hgb, _⟩
    · exact .inl rfl
    · exact .inr (own_ne' h.h hgb hT)
  refine ⟨⟨?_, ?_, hoth (by decide) h.s, hoth (by decide) h.o, hoth (by decide) h.r, h.lo⟩, hK⟩
  · have hb := (hg.block gb (lt_of_blk h.box) hne).trans h.box
    unfold BoxB
    rw [hb]
    simp [cellsB, hl]
  · show W'.ownsRow B 62 4 (.slice v.h L.length v.ch) L.length (flatI L)
    rw [hl]; exact ho
theorem infoZStake : (Tryz.prog.info? 66).map (fun i => (i.zero, i.size, i.bytes)) = some (some (.agg #[.int .i64 0, .int .i64 0, .int .i64 0]), 3, 24) := by kernel_rfl
theorem BkS.newStake {B gb : Nat} {W : World} {v : Slots} {b : BookT} (h : BkS B gb W v b) (hB : B ≤ W.heap.size) (n : Nat) (hn : n ≤ 2000) :
    BkS B gb ((W.alloc (.cells (madeCells #[.int .i64 0, .int .i64 0, .int .i64 0] (n * 3)) 66)).setCell ⟨gb, 1, none⟩ (.slice (some ⟨W.heap.size, 0, none⟩) n n)) { v with s := some ⟨W.heap.size, 0, none⟩, cs := n } { b with ss := zerosI 3 n } ∧
    KeepT W ((W.alloc (.cells (madeCells #[.int .i64 0, .int .i64 0, .int .i64 0] (n * 3)) 66)).setCell ⟨gb, 1, none⟩ (.slice (some ⟨W.heap.size, 0, none⟩) n n)) ∧
    Below B W ((W.alloc (.cells (madeCells #[.int .i64 0, .int .i64 0, .int .i64 0] (n * 3)) 66)).setCell ⟨gb, 1, none⟩ (.slice (some ⟨W.heap.size, 0, none⟩) n n)) := by
  have hA : Below W.heap.size W (W.alloc (.cells (madeCells #[.int .i64 0, .int .i64 0, .int .i64 0] (n * 3)) 66)) := (Below.refl _ W).alloc (Nat.le_refl _) _
  have h1 := h.below hA
  have hgb : (W.alloc (.cells (madeCells #[.int .i64 0, .int .i64 0, .int .i64 0] (n * 3)) 66)).heap[gb]? = some (.cells (cellsB v b) 27 (0, 0)) := h1.box
  have hml : (madeCells #[.int .i64 0, .int .i64 0, .int .i64 0] (n * 3)).toList = flatI (zerosI 3 n) := by
    rw [zeros_flat]
    exact made_zero _ (fun i hi => by
      simp only [List.size_toArray, List.length_cons, List.length_nil] at hi
      match i, hi with
      | 0, _ => rfl
      | 1, _ => rfl
      | 2, _ => rfl
      | q + 3, hq => omega) (by simp) _
  have hnew := World.ownsRow_lit (base := B) (size := 3) (e := 66) W (madeCells #[.int .i64 0, .int .i64 0, .int .i64 0] (n * 3)) n hB (by unfold maxLen; omega) (by simp [size_madeCells])
  rw [hml] at hnew
  refine ⟨⟨?_, own_set' h1.h hgb (by decide), ?_, own_set' h1.o hgb (by decide), own_set' h1.r hgb (by decide), h.lo⟩, (KeepT.below hA).trans (KeepT.set hgb rfl _), (hA.mono hB).setCell h.lo _⟩
  · unfold BoxB
    rw [set_blkN hgb]
    simp [cellsB, zeros_len]
  · have h2 := own_set' (i := 1) (u := .slice (some ⟨W.heap.size, 0, none⟩) n n) hnew hgb (by decide)
    rw [zeros_len]
    exact h2
theorem BkS.turnStake {B gb : Nat} {W W' : World} {v : Slots} {b : BookT} {L : List Item} (h : BkS B gb W v b) (hl : L.length = b.ss.length) (ho : W'.ownsRow B 66 3 (.slice v.s b.ss.length v.cs) b.ss.length (flatI L)) (hg : W.grownBy W' (Value.slice v.s b.ss.length v.cs).ownBlock) :
    BkS B gb W' v { b with ss := L } ∧ KeepT W W' := by
  have hK : KeepT W W' := KeepT.row h.s (fun _ => rfl) hg
  have hne : some gb ≠ (Value.slice v.s b.ss.length v.cs).ownBlock := own_ne' h.s h.box (by decide)
  have hoth : ∀ {T : TypeId} {k : Nat} {u : Value} {m : Nat} {xs : List Value}, T ≠ 66 → W.ownsRow B T k u m xs → W'.ownsRow B T k u m xs := fun hT h2 => by
    refine h2.kept hg ?_
    rcases h2.2 with ⟨rfl, _⟩ | ⟨g, cap, cur, rfl, _, hgb, _⟩
    · exact .inl rfl
    · exact .inr (own_ne' h.s hgb hT)
  refine ⟨⟨?_, hoth (by decide) h.h, ?_, hoth (by decide) h.o, hoth (by decide) h.r, h.lo⟩, hK⟩
  · have hb := (hg.block gb (lt_of_blk h.box) hne).trans h.box
    unfold BoxB
    rw [hb]
    simp [cellsB, hl]
  · show W'.ownsRow B 66 3 (.slice v.s L.length v.cs) L.length (flatI L)
    rw [hl]; exact ho
theorem infoZOpen : (Tryz.prog.info? 69).map (fun i => (i.zero, i.size, i.bytes)) = some (some (.agg #[.int .i64 0, .int .i64 0, .int .i64 0, .int .i64 0, .int .i64 0, .int .i64 0]), 6, 48) := by kernel_rfl
theorem BkS.newOpen {B gb : Nat} {W : World} {v : Slots} {b : BookT} (h : BkS B gb W v b) (hB : B ≤ W.heap.size) (n : Nat) (hn : n ≤ 2000) :
    BkS B gb ((W.alloc (.cells (madeCells #[.int .i64 0, .int .i64 0, .int .i64 0, .int .i64 0, .int .i64 0, .int .i64 0] (n * 6)) 69)).setCell ⟨gb, 2, none⟩ (.slice (some ⟨W.heap.size, 0, none⟩) n n)) { v with o := some ⟨W.heap.size, 0, none⟩, co := n } { b with os := zerosI 6 n } ∧
    KeepT W ((W.alloc (.cells (madeCells #[.int .i64 0, .int .i64 0, .int .i64 0, .int .i64 0, .int .i64 0, .int .i64 0] (n * 6)) 69)).setCell ⟨gb, 2, none⟩ (.slice (some ⟨W.heap.size, 0, none⟩) n n)) ∧
    Below B W ((W.alloc (.cells (madeCells #[.int .i64 0, .int .i64 0, .int .i64 0, .int .i64 0, .int .i64 0, .int .i64 0] (n * 6)) 69)).setCell ⟨gb, 2, none⟩ (.slice (some ⟨W.heap.size, 0, none⟩) n n)) := by
  have hA : Below W.heap.size W (W.alloc (.cells (madeCells #[.int .i64 0, .int .i64 0, .int .i64 0, .int .i64 0, .int .i64 0, .int .i64 0] (n * 6)) 69)) := (Below.refl _ W).alloc (Nat.le_refl _) _
  have h1 := h.below hA
  have hgb : (W.alloc (.cells (madeCells #[.int .i64 0, .int .i64 0, .int .i64 0, .int .i64 0, .int .i64 0, .int .i64 0] (n * 6)) 69)).heap[gb]? = some (.cells (cellsB v b) 27 (0, 0)) := h1.box
  have hml : (madeCells #[.int .i64 0, .int .i64 0, .int .i64 0, .int .i64 0, .int .i64 0, .int .i64 0] (n * 6)).toList = flatI (zerosI 6 n) := by
    rw [zeros_flat]
    exact made_zero _ (fun i hi => by
      simp only [List.size_toArray, List.length_cons, List.length_nil] at hi
      match i, hi with
      | 0, _ => rfl
      | 1, _ => rfl
      | 2, _ => rfl
      | 3, _ => rfl
      | 4, _ => rfl
      | 5, _ => rfl
      | q + 6, hq => omega) (by simp) _
  have hnew := World.ownsRow_lit (base := B) (size := 6) (e := 69) W (madeCells #[.int .i64 0, .int .i64 0, .int .i64 0, .int .i64 0, .int .i64 0, .int .i64 0] (n * 6)) n hB (by unfold maxLen; omega) (by simp [size_madeCells])
  rw [hml] at hnew
  refine ⟨⟨?_, own_set' h1.h hgb (by decide), own_set' h1.s hgb (by decide), ?_, own_set' h1.r hgb (by decide), h.lo⟩, (KeepT.below hA).trans (KeepT.set hgb rfl _), (hA.mono hB).setCell h.lo _⟩
  · unfold BoxB
    rw [set_blkN hgb]
    simp [cellsB, zeros_len]
  · have h2 := own_set' (i := 2) (u := .slice (some ⟨W.heap.size, 0, none⟩) n n) hnew hgb (by decide)
    rw [zeros_len]
    exact h2
theorem BkS.turnOpen {B gb : Nat} {W W' : World} {v : Slots} {b : BookT} {L : List Item} (h : BkS B gb W v b) (hl : L.length = b.os.length) (ho : W'.ownsRow B 69 6 (.slice v.o b.os.length v.co) b.os.length (flatI L)) (hg : W.grownBy W' (Value.slice v.o b.os.length v.co).ownBlock) :
    BkS B gb W' v { b with os := L } ∧ KeepT W W' := by
  have hK : KeepT W W' := KeepT.row h.o (fun _ => rfl) hg
  have hne : some gb ≠ (Value.slice v.o b.os.length v.co).ownBlock := own_ne' h.o h.box (by decide)
  have hoth : ∀ {T : TypeId} {k : Nat} {u : Value} {m : Nat} {xs : List Value}, T ≠ 69 → W.ownsRow B T k u m xs → W'.ownsRow B T k u m xs := fun hT h2 => by
    refine h2.kept hg ?_
    rcases h2.2 with ⟨rfl, _⟩ | ⟨g, cap, cur, rfl, _, hgb, _⟩
    · exact .inl rfl
    · exact .inr (own_ne' h.o hgb hT)
  refine ⟨⟨?_, hoth (by decide) h.h, hoth (by decide) h.s, ?_, hoth (by decide) h.r, h.lo⟩, hK⟩
  · have hb := (hg.block gb (lt_of_blk h.box) hne).trans h.box
    unfold BoxB
    rw [hb]
    simp [cellsB, hl]
  · show W'.ownsRow B 69 6 (.slice v.o L.length v.co) L.length (flatI L)
    rw [hl]; exact ho
theorem infoZRate : (Tryz.prog.info? 64).map (fun i => (i.zero, i.size, i.bytes)) = some (some (.agg #[.int .i64 0, .int .i64 0]), 2, 16) := by kernel_rfl
theorem BkS.newRate {B gb : Nat} {W : World} {v : Slots} {b : BookT} (h : BkS B gb W v b) (hB : B ≤ W.heap.size) (n : Nat) (hn : n ≤ 2000) :
    BkS B gb ((W.alloc (.cells (madeCells #[.int .i64 0, .int .i64 0] (n * 2)) 64)).setCell ⟨gb, 3, none⟩ (.slice (some ⟨W.heap.size, 0, none⟩) n n)) { v with r := some ⟨W.heap.size, 0, none⟩, cr := n } { b with rs := zerosI 2 n } ∧
    KeepT W ((W.alloc (.cells (madeCells #[.int .i64 0, .int .i64 0] (n * 2)) 64)).setCell ⟨gb, 3, none⟩ (.slice (some ⟨W.heap.size, 0, none⟩) n n)) ∧
    Below B W ((W.alloc (.cells (madeCells #[.int .i64 0, .int .i64 0] (n * 2)) 64)).setCell ⟨gb, 3, none⟩ (.slice (some ⟨W.heap.size, 0, none⟩) n n)) := by
  have hA : Below W.heap.size W (W.alloc (.cells (madeCells #[.int .i64 0, .int .i64 0] (n * 2)) 64)) := (Below.refl _ W).alloc (Nat.le_refl _) _
  have h1 := h.below hA
  have hgb : (W.alloc (.cells (madeCells #[.int .i64 0, .int .i64 0] (n * 2)) 64)).heap[gb]? = some (.cells (cellsB v b) 27 (0, 0)) := h1.box
  have hml : (madeCells #[.int .i64 0, .int .i64 0] (n * 2)).toList = flatI (zerosI 2 n) := by
    rw [zeros_flat]
    exact made_zero _ (fun i hi => by
      simp only [List.size_toArray, List.length_cons, List.length_nil] at hi
      match i, hi with
      | 0, _ => rfl
      | 1, _ => rfl
      | q + 2, hq => omega) (by simp) _
  have hnew := World.ownsRow_lit (base := B) (size := 2) (e := 64) W (madeCells #[.int .i64 0, .int .i64 0] (n * 2)) n hB (by unfold maxLen; omega) (by simp [size_madeCells])
  rw [hml] at hnew
  refine ⟨⟨?_, own_set' h1.h hgb (by decide), own_set' h1.s hgb (by decide), own_set' h1.o hgb (by decide), ?_, h.lo⟩, (KeepT.below hA).trans (KeepT.set hgb rfl _), (hA.mono hB).setCell h.lo _⟩
  · unfold BoxB
    rw [set_blkN hgb]
    simp [cellsB, zeros_len]
  · have h2 := own_set' (i := 3) (u := .slice (some ⟨W.heap.size, 0, none⟩) n n) hnew hgb (by decide)
    rw [zeros_len]
    exact h2
theorem BkS.turnRate {B gb : Nat} {W W' : World} {v : Slots} {b : BookT} {L : List Item} (h : BkS B gb W v b) (hl : L.length = b.rs.length) (ho : W'.ownsRow B 64 2 (.slice v.r b.rs.length v.cr) b.rs.length (flatI L)) (hg : W.grownBy W' (Value.slice v.r b.rs.length v.cr).ownBlock) :
    BkS B gb W' v { b with rs := L } ∧ KeepT W W' := by
  have hK : KeepT W W' := KeepT.row h.r (fun _ => rfl) hg
  have hne : some gb ≠ (Value.slice v.r b.rs.length v.cr).ownBlock := own_ne' h.r h.box (by decide)
  have hoth : ∀ {T : TypeId} {k : Nat} {u : Value} {m : Nat} {xs : List Value}, T ≠ 64 → W.ownsRow B T k u m xs → W'.ownsRow B T k u m xs := fun hT h2 => by
    refine h2.kept hg ?_
    rcases h2.2 with ⟨rfl, _⟩ | ⟨g, cap, cur, rfl, _, hgb, _⟩
    · exact .inl rfl
    · exact .inr (own_ne' h.r hgb hT)
  refine ⟨⟨?_, hoth (by decide) h.h, hoth (by decide) h.s, hoth (by decide) h.o, ?_, h.lo⟩, hK⟩
  · have hb := (hg.block gb (lt_of_blk h.box) hne).trans h.box
    unfold BoxB
    rw [hb]
    simp [cellsB, hl]
  · show W'.ownsRow B 64 2 (.slice v.r L.length v.cr) L.length (flatI L)
    rw [hl]; exact ho
end Go.Proofs.YtnhljfhpfpfniaaGreat

namespace Go.Proofs.YtnhljfhpfpfniaaGreat
open Go.RowKit Base Base2
theorem own_ne'' {W : World} {B n k : Nat} {e : TypeId} {sz : Nat} {v : Value} {xs : List Value} {o : Obj} (h : W.ownsRow B e sz v n xs) (hk : W.heap[k]? = some o) (hT : ∀ cur, o ≠ .cells cur e (0, 0)) : some k ≠ v.ownBlock := by
  rcases h.2 with ⟨rfl, _⟩ | ⟨g, cap, cur, rfl, _, hg, _⟩
  · simp [Value.ownBlock]
  · rintro e
    simp [Value.ownBlock] at e
    subst e
    rw [hg] at hk
    exact hT cur (Option.some.inj hk).symm
theorem I64s.kept {W W' : World} {a : Option Addr} {l : List Int} (h : I64s W a l) (hs : W.heap.size ≤ W'.heap.size) (hb : ∀ (k off : Nat), a = some ⟨k, off, none⟩ → k < W.heap.size → W'.heap[k]? = W.heap[k]?) : I64s W' a l := by
  rcases h with h | ⟨k, off, rfl, h1, h2⟩
  · exact .inl h
  · exact .inr ⟨k, off, rfl, Nat.lt_of_lt_of_le h1 hs, fun i z hi => (World.cell?_of_block (a := ⟨k, off + i, none⟩) (hb k off rfl h1)).trans (h2 i z hi)⟩
set_option maxRecDepth 100000 in
set_option maxHeartbeats 4000000 in
theorem takeHolder_first (B gb ib lp nb rf wf bx j : Nat) (ob : Obj) (a2 : Option Addr) (c2 : Nat) (xs : List Int) (v : Slots) (b : BookT) (w : World) (hS : BkS B gb w v b) (hB : B ≤ w.heap.size) (hn : NumOk rf wf bx j ob) (hbx : w.heap[bx]? = some ob) (hbo : isBk ob = false) (hib : w.heap[ib]? = some (.cells #[.int .i64 0] 3 (0, 0))) (hlp : w.heap[lp]? = some (.cells #[.pointer (some ⟨gb, 0, none⟩)] 90 (0, 0))) (hnb : w.heap[nb]? = some (.cells (numV rf wf bx) 94 (0, 0)))
    (hj : j < 4) (hx : I64s w a2 xs) (hxl : xs.length ≤ 1024) (hsep : SepA gb v b a2) :
    Calls Tryz.prog 106 #[.slice a2 xs.length c2, .pointer (some ⟨ib, 0, none⟩), .pointer (some ⟨lp, 0, none⟩), .pointer (some ⟨nb, 0, none⟩)] w fun e w' => e = .returned (.bool true) ∧ (∃ v', BkS B gb w' v' { b with hs := setC j xs (zerosI 4 xs.length) }) ∧ KeepT w w' ∧ Below B w w' := by
  obtain ⟨i0, hi0, hz0, hz1, hz2⟩ := info_parts infoZHolder
  obtain ⟨m, hm⟩ : ∃ m, xs.length = m := ⟨_, rfl⟩
  rw [hm] at hxl
  have hnew := hS.newHolder hB m (by omega)
  have hmk : (Instr.makeSlice 22 (.int .i64 (m : Int)) (.int .i64 (m : Int))).run Tryz.prog w.drew = .ok (.slice (some ⟨w.heap.size, 0, none⟩) m m) (w.drew.alloc (.cells (madeCells #[.int .i64 0, .int .i64 0, .int .i64 0, .int .i64 0] (m * 4)) 62)) := by
    have h := run_make (P := Tryz.prog) w.drew 22 62 i0 _ Tryz.underlying22 hi0 hz0 .i64 .i64 (m : Int) (m : Int) (by omega) (by omega) (by rw [hz2]; omega) (by omega)
    rw [hz1] at h
    simp only [Int.toNat_natCast] at h
    exact h
  have ki := cell_of_one hib
  have kp := cell_of_one hlp
  obtain ⟨uo, kg⟩ := cell_of_blkN hS.box 0 (by simp [cellsB])
  have fg := free_of_blkN hS.box 0
  obtain ⟨M, hM⟩ : ∃ x, madeCells #[.int .i64 0, .int .i64 0, .int .i64 0, .int .i64 0] (m * 4) = x := ⟨_, rfl⟩
  rw [hM] at hnew hmk
  have hA : Below w.heap.size w (w.alloc (.cells M 62)) := (Below.refl _ w).alloc (Nat.le_refl _) _
  have kpA : (w.alloc (.cells M 62)).cell? ⟨lp, 0, none⟩ = some (.pointer (some ⟨gb, 0, none⟩)) := cell_of_one ((hA.block lp (lt_of_blk hlp)).trans hlp)
  have kgA : (w.alloc (.cells M 62)).cell? ⟨gb, 0, none⟩ = some uo := (hA.cell (p := ⟨gb, 0, none⟩) (lt_of_blk hS.box)).trans kg
  have fgA : (w.alloc (.cells M 62)).frozen? ⟨gb, 0, none⟩ = false := free_of_blkN ((hA.block gb (lt_of_blk hS.box)).trans hS.box) 0
  have HNEW := Lib.hid hnew
  have HSEP := Lib.hid hsep
  have HS := Lib.hid hS
  clear hnew hsep hA hM hS
  rw [hm]
  go_enter Tryz.func106, Tryz.ntmps106
  go_upto_region 2 with (fail)
  go_region
  go_upto_region 3 with (fail)
  refine at_world (Φ := fun W => BkS B gb W { v with h := some ⟨w.heap.size, 0, none⟩, ch := m } { b with hs := zerosI 4 m } ∧ KeepT w W ∧ Below B w W ∧ ∀ q, q < w.heap.size → q ≠ gb → W.heap[q]? = w.heap[q]?)
    ⟨HNEW.out.1.below ((Below.refl _ _).drew), HNEW.out.2.1.trans (KeepT.below ((Below.refl _ _).drew)), HNEW.out.2.2.drew, fun q hq hne => (heap_setCell_ne _ hne).trans (Below.heap_alloc _ _ _ hq)⟩ ?_
  rintro W1 ⟨hS1, hK1, hB1, hq1⟩
  have hx1 : I64s W1 a2 xs := hx.kept hK1.size (fun q off e hq => hq1 q hq (HSEP.out.g q off e))
  have hbx1 := hK1.same _ _ hbx hbo
  have hlp1 := hK1.same _ _ hlp rfl
  have hnb1 := hK1.same _ _ hnb rfl
  have kg1 : W1.cell? ⟨gb, 0, none⟩ = some (.slice (some ⟨w.heap.size, 0, none⟩) m m) := by
    have h := hS1.box.cells.1
    rwa [zeros_len] at h
  have kp1 := cell_of_one hlp1
  have htk := takenHolder rf wf bx j ob B (some ⟨w.heap.size, 0, none⟩) a2 m c2 (zerosI 4 m) xs W1.drew hn hbx1 (by
      intro e
      have : bx = w.heap.size := by simpa [Value.ownBlock] using e
      have := lt_of_blk hbx
      omega) hS1.h (zeros_ok 4 (by omega)) hj (hx1.below ((Below.refl _ _).drew)) (by
      intro q off e hne e2
      have : q = w.heap.size := by simpa [Value.ownBlock] using e2
      rcases hx with h | ⟨k2, off2, h1, h2, _⟩
      · exact hne h
      · rw [e] at h1; cases h1; omega) (by rw [hm, zeros_len])
  rw [zeros_len, hm] at htk
  obtain ⟨fr, hfr⟩ : ∃ x, Value.func (.func rf) #[] #[.pointer (some ⟨bx, 0, none⟩)] = x := ⟨_, rfl⟩
  obtain ⟨fw, hfw⟩ : ∃ x, Value.func (.func wf) #[] #[.pointer (some ⟨bx, 0, none⟩)] = x := ⟨_, rfl⟩
  have hnv : numV rf wf bx = #[fr, fw] := by rw [← hfr, ← hfw]; rfl
  rw [hnv] at htk hnb1
  have n0 := twoAtS hnb1 0 fr rfl
  have n1 := twoAtS hnb1 1 fw rfl
  rw [Nat.add_zero] at n0
  rw [Nat.zero_add] at n1
  have HTK := Lib.hid htk
  have HS1 := Lib.hid hS1
  have HK1 := Lib.hid hK1
  have HB1 := Lib.hid hB1
  clear htk hS1 hK1 hB1 hq1 hx1 hbx1 hlp1 hnb1 hnv hfr hfw hn hbx hbo hib hlp hnb hx hm hmk hi0 hz0 hz1 hz2 ki kp kg fg kpA kgA fgA
  go_still_tail 5, (by kernel_rfl)
  go_wp2_with (go_at_call 107; refine HTK.out.mono ?_; rintro e w2 ⟨rfl, hown, hgr⟩; have HOWN := Lib.hid hown; have HGR := Lib.hid hgr; clear hown hgr)
  go_ret
  have hS2 : BkS B gb W1.drew { v with h := some ⟨w.heap.size, 0, none⟩, ch := m } { b with hs := zerosI 4 m } := HS1.out.below ((Below.refl _ _).drew)
  have htn := hS2.turnHolder (L := setC j xs (zerosI 4 m)) (by rw [setC_len]) (by show w2.ownsRow B _ 4 (.slice (some ⟨w.heap.size, 0, none⟩) (zerosI 4 m).length m) (zerosI 4 m).length _; rw [zeros_len]; exact HOWN.out) (by show W1.drew.grownBy w2 (Value.slice (some ⟨w.heap.size, 0, none⟩) (zerosI 4 m).length m).ownBlock; rw [zeros_len]; exact HGR.out)
  refine ⟨rfl, ⟨_, htn.1⟩, (HK1.out.trans (KeepT.below ((Below.refl _ _).drew))).trans htn.2, HB1.out.drew.grown HGR.out (by have := HB1.out.size; show B ≤ W1.heap.size; omega) (fun q h => by have h := (own_block_ge HOWN.out) q h; omega)⟩
set_option maxRecDepth 100000 in
set_option maxHeartbeats 4000000 in
theorem takeHolder_next (B gb ib lp nb rf wf bx j j0 : Nat) (ob : Obj) (a2 : Option Addr) (c2 : Nat) (xs : List Int) (v : Slots) (b : BookT) (w : World) (hS : BkS B gb w v b) (hB : B ≤ w.heap.size) (hk : ItemsOk 4 2000 b.hs) (hn : NumOk rf wf bx j ob) (hbx : w.heap[bx]? = some ob) (hbo : isBk ob = false) (hj0 : j0 ≠ 0) (hib : w.heap[ib]? = some (.cells #[.int .i64 (j0 : Int)] 3 (0, 0))) (hlp : w.heap[lp]? = some (.cells #[.pointer (some ⟨gb, 0, none⟩)] 90 (0, 0))) (hnb : w.heap[nb]? = some (.cells (numV rf wf bx) 94 (0, 0)))
    (hj : j < 4) (hx : I64s w a2 xs) (hxl : xs.length = b.hs.length) (hsep : SepA gb v b a2) :
    Calls Tryz.prog 106 #[.slice a2 xs.length c2, .pointer (some ⟨ib, 0, none⟩), .pointer (some ⟨lp, 0, none⟩), .pointer (some ⟨nb, 0, none⟩)] w fun e w' => e = .returned (.bool true) ∧ (∃ v', BkS B gb w' v' { b with hs := setC j xs b.hs }) ∧ KeepT w w' ∧ Below B w w' := by
  have kp1 := cell_of_one hlp
  have ki := cell_of_one hib
  have hz : ((j0 : Int) == 0) = false := by simp; omega
  have kg1 := hS.box.cells.1
  have htk := takenHolder rf wf bx j ob B v.h a2 v.ch c2 b.hs xs w.drew hn hbx (own_ne'' hS.h hbx (fun cur e => by rw [e] at hbo; cases hbo)) hS.h hk hj (hx.below ((Below.refl _ _).drew)) (fun q off e _ => hsep.h q off e) hxl
  rw [hxl] at htk ⊢
  obtain ⟨fr, hfr⟩ : ∃ x, Value.func (.func rf) #[] #[.pointer (some ⟨bx, 0, none⟩)] = x := ⟨_, rfl⟩
  obtain ⟨fw, hfw⟩ : ∃ x, Value.func (.func wf) #[] #[.pointer (some ⟨bx, 0, none⟩)] = x := ⟨_, rfl⟩
  have hnv : numV rf wf bx = #[fr, fw] := by rw [← hfr, ← hfw]; rfl
  rw [hnv] at htk hnb
  have n0 := twoAtS hnb 0 fr rfl
  have n1 := twoAtS hnb 1 fw rfl
  rw [Nat.add_zero] at n0
  rw [Nat.zero_add] at n1
  obtain ⟨m, hm⟩ : ∃ m, b.hs.length = m := ⟨_, rfl⟩
  have hcl : (Value.slice v.h b.hs.length v.ch).ownBlock = (Value.slice v.h m v.ch).ownBlock := by rw [hm]
  rw [hm] at htk kg1 ⊢
  have HTK := Lib.hid htk
  have HS := Lib.hid hS
  have HM := Lib.hid hm
  clear htk hS hsep hnb hnv hfr hfw hn hbx hbo hib hlp hx hm hk hxl hcl
  go_enter Tryz.func106, Tryz.ntmps106
  go_upto_region 3 with (fail)
  go_still_tail 5, (by kernel_rfl)
  go_wp2_with (go_at_call 107; refine HTK.out.mono ?_; rintro e w2 ⟨rfl, hown, hgr⟩; have HOWN := Lib.hid hown; have HGR := Lib.hid hgr; clear hown hgr)
  go_ret
  have hS2 : BkS B gb w.drew v b := HS.out.below ((Below.refl _ _).drew)
  have htn := hS2.turnHolder (L := setC j xs b.hs) (by rw [setC_len]) (by rw [HM.out]; exact HOWN.out) (by rw [HM.out]; exact HGR.out)
  refine ⟨rfl, ⟨_, htn.1⟩, (KeepT.below ((Below.refl _ _).drew)).trans htn.2, (Below.refl _ w).drew.grown HGR.out (by show B ≤ w.heap.size; omega) (fun q h => by have h := (own_block_ge HOWN.out) q h; omega)⟩
set_option maxRecDepth 100000 in
set_option maxHeartbeats 4000000 in
theorem takeHolder_no (B gb ib lp nb rf wf bx j0 : Nat) (a2 : Option Addr) (c2 m : Nat) (v : Slots) (b : BookT) (w : World) (hS : BkS B gb w v b) (hk : b.hs.length ≤ 2000) (hj0 : j0 ≠ 0) (hib : w.heap[ib]? = some (.cells #[.int .i64 (j0 : Int)] 3 (0, 0))) (hlp : w.heap[lp]? = some (.cells #[.pointer (some ⟨gb, 0, none⟩)] 90 (0, 0))) (hnb : w.heap[nb]? = some (.cells (numV rf wf bx) 94 (0, 0)))
    (hm2 : m ≤ 2000) (hxl : m ≠ b.hs.length) :
    Calls Tryz.prog 106 #[.slice a2 m c2, .pointer (some ⟨ib, 0, none⟩), .pointer (some ⟨lp, 0, none⟩), .pointer (some ⟨nb, 0, none⟩)] w fun e w' => e = .returned (.bool false) ∧ Below w.heap.size w w' := by
  have kp1 := cell_of_one hlp
  have ki := cell_of_one hib
  have hz : ((j0 : Int) == 0) = false := by simp; omega
  have kg1 := hS.box.cells.1
  have htk := takenHolder_no rf wf bx v.h a2 v.ch c2 b.hs.length m w.drew hk hm2 hxl
  obtain ⟨fr, hfr⟩ : ∃ x, Value.func (.func rf) #[] #[.pointer (some ⟨bx, 0, none⟩)] = x := ⟨_, rfl⟩
  obtain ⟨fw, hfw⟩ : ∃ x, Value.func (.func wf) #[] #[.pointer (some ⟨bx, 0, none⟩)] = x := ⟨_, rfl⟩
  have hnv : numV rf wf bx = #[fr, fw] := by rw [← hfr, ← hfw]; rfl
  rw [hnv] at htk hnb
  have n0 := twoAtS hnb 0 fr rfl
  have n1 := twoAtS hnb 1 fw rfl
  rw [Nat.add_zero] at n0
  rw [Nat.zero_add] at n1
  have HTK := Lib.hid htk
  clear htk hS hnb hnv hfr hfw hib hlp hk hxl
  go_enter Tryz.func106, Tryz.ntmps106
  go_upto_region 3 with (fail)
  go_still_tail 5, (by kernel_rfl)
  go_wp2_with (go_at_call 107; refine HTK.out.mono ?_; rintro e w2 ⟨rfl, hb⟩; have HB := Lib.hid hb; clear hb)
  go_ret
  exact ⟨rfl, (Below.refl _ w).drew.trans HB.out⟩
set_option maxRecDepth 100000 in
set_option maxHeartbeats 4000000 in
theorem takeStake_first (B gb ib lp nb rf wf bx j : Nat) (ob : Obj) (a2 : Option Addr) (c2 : Nat) (xs : List Int) (v : Slots) (b : BookT) (w : World) (hS : BkS B gb w v b) (hB : B ≤ w.heap.size) (hn : NumOk rf wf bx j ob) (hbx : w.heap[bx]? = some ob) (hbo : isBk ob = false) (hib : w.heap[ib]? = some (.cells #[.int .i64 0] 3 (0, 0))) (hlp : w.heap[lp]? = some (.cells #[.pointer (some ⟨gb, 1, none⟩)] 100 (0, 0))) (hnb : w.heap[nb]? = some (.cells (numV rf wf bx) 104 (0, 0)))
    (hj : j < 3) (hx : I64s w a2 xs) (hxl : xs.length ≤ 1024) (hsep : SepA gb v b a2) :
    Calls Tryz.prog 112 #[.slice a2 xs.length c2, .pointer (some ⟨ib, 0, none⟩), .pointer (some ⟨lp, 0, none⟩), .pointer (some ⟨nb, 0, none⟩)] w fun e w' => e = .returned (.bool true) ∧ (∃ v', BkS B gb w' v' { b with ss := setC j xs (zerosI 3 xs.length) }) ∧ KeepT w w' ∧ Below B w w' := by
  obtain ⟨i0, hi0, hz0, hz1, hz2⟩ := info_parts infoZStake
  obtain ⟨m, hm⟩ : ∃ m, xs.length = m := ⟨_, rfl⟩
  rw [hm] at hxl
  have hnew := hS.newStake hB m (by omega)
  have hmk : (Instr.makeSlice 23 (.int .i64 (m : Int)) (.int .i64 (m : Int))).run Tryz.prog w.drew = .ok (.slice (some ⟨w.heap.size, 0, none⟩) m m) (w.drew.alloc (.cells (madeCells #[.int .i64 0, .int .i64 0, .int .i64 0] (m * 3)) 66)) := by
    have h := run_make (P := Tryz.prog) w.drew 23 66 i0 _ Tryz.underlying23 hi0 hz0 .i64 .i64 (m : Int) (m : Int) (by omega) (by omega) (by rw [hz2]; omega) (by omega)
    rw [hz1] at h
    simp only [Int.toNat_natCast] at h
    exact h
  have ki := cell_of_one hib
  have kp := cell_of_one hlp
  obtain ⟨uo, kg⟩ := cell_of_blkN hS.box 1 (by simp [cellsB])
  have fg := free_of_blkN hS.box 1
  obtain ⟨M, hM⟩ : ∃ x, madeCells #[.int .i64 0, .int .i64 0, .int .i64 0] (m * 3) = x := ⟨_, rfl⟩
  rw [hM] at hnew hmk
  have hA : Below w.heap.size w (w.alloc (.cells M 66)) := (Below.refl _ w).alloc (Nat.le_refl _) _
  have kpA : (w.alloc (.cells M 66)).cell? ⟨lp, 0, none⟩ = some (.pointer (some ⟨gb, 1, none⟩)) := cell_of_one ((hA.block lp (lt_of_blk hlp)).trans hlp)
  have kgA : (w.alloc (.cells M 66)).cell? ⟨gb, 1, none⟩ = some uo := (hA.cell (p := ⟨gb, 1, none⟩) (lt_of_blk hS.box)).trans kg
  have fgA : (w.alloc (.cells M 66)).frozen? ⟨gb, 1, none⟩ = false := free_of_blkN ((hA.block gb (lt_of_blk hS.box)).trans hS.box) 1
  have HNEW := Lib.hid hnew
  have HSEP := Lib.hid hsep
  have HS := Lib.hid hS
  clear hnew hsep hA hM hS
  rw [hm]
  go_enter Tryz.func112, Tryz.ntmps112
  go_upto_region 2 with (fail)
  go_region
  go_upto_region 3 with (fail)
  refine at_world (Φ := fun W => BkS B gb W { v with s := some ⟨w.heap.size, 0, none⟩, cs := m } { b with ss := zerosI 3 m } ∧ KeepT w W ∧ Below B w W ∧ ∀ q, q < w.heap.size → q ≠ gb → W.heap[q]? = w.heap[q]?)
    ⟨HNEW.out.1.below ((Below.refl _ _).drew), HNEW.out.2.1.trans (KeepT.below ((Below.refl _ _).drew)), HNEW.out.2.2.drew, fun q hq hne => (heap_setCell_ne _ hne).trans (Below.heap_alloc _ _ _ hq)⟩ ?_
  rintro W1 ⟨hS1, hK1, hB1, hq1⟩
  have hx1 : I64s W1 a2 xs := hx.kept hK1.size (fun q off e hq => hq1 q hq (HSEP.out.g q off e))
  have hbx1 := hK1.same _ _ hbx hbo
  have hlp1 := hK1.same _ _ hlp rfl
  have hnb1 := hK1.same _ _ hnb rfl
  have kg1 : W1.cell? ⟨gb, 1, none⟩ = some (.slice (some ⟨w.heap.size, 0, none⟩) m m) := by
    have h := hS1.box.cells.2.1
    rwa [zeros_len] at h
  have kp1 := cell_of_one hlp1
  have htk := takenStake rf wf bx j ob B (some ⟨w.heap.size, 0, none⟩) a2 m c2 (zerosI 3 m) xs W1.drew hn hbx1 (by
      intro e
      have : bx = w.heap.size := by simpa [Value.ownBlock] using e
      have := lt_of_blk hbx
      omega) hS1.s (zeros_ok 3 (by omega)) hj (hx1.below ((Below.refl _ _).drew)) (by
      intro q off e hne e2
      have : q = w.heap.size := by simpa [Value.ownBlock] using e2
      rcases hx with h | ⟨k2, off2, h1, h2, _⟩
      · exact hne h
      · rw [e] at h1; cases h1; omega) (by rw [hm, zeros_len])
  rw [zeros_len, hm] at htk
  obtain ⟨fr, hfr⟩ : ∃ x, Value.func (.func rf) #[] #[.pointer (some ⟨bx, 0, none⟩)] = x := ⟨_, rfl⟩
  obtain ⟨fw, hfw⟩ : ∃ x, Value.func (.func wf) #[] #[.pointer (some ⟨bx, 0, none⟩)] = x := ⟨_, rfl⟩
  have hnv : numV rf wf bx = #[fr, fw] := by rw [← hfr, ← hfw]; rfl
  rw [hnv] at htk hnb1
  have n0 := twoAtS hnb1 0 fr rfl
  have n1 := twoAtS hnb1 1 fw rfl
  rw [Nat.add_zero] at n0
  rw [Nat.zero_add] at n1
  have HTK := Lib.hid htk
  have HS1 := Lib.hid hS1
  have HK1 := Lib.hid hK1
  have HB1 := Lib.hid hB1
  clear htk hS1 hK1 hB1 hq1 hx1 hbx1 hlp1 hnb1 hnv hfr hfw hn hbx hbo hib hlp hnb hx hm hmk hi0 hz0 hz1 hz2 ki kp kg fg kpA kgA fgA
  go_still_tail 5, (by kernel_rfl)
  go_wp2_with (go_at_call 113; refine HTK.out.mono ?_; rintro e w2 ⟨rfl, hown, hgr⟩; have HOWN := Lib.hid hown; have HGR := Lib.hid hgr; clear hown hgr)
  go_ret
  have hS2 : BkS B gb W1.drew { v with s := some ⟨w.heap.size, 0, none⟩, cs := m } { b with ss := zerosI 3 m } := HS1.out.below ((Below.refl _ _).drew)
  have htn := hS2.turnStake (L := setC j xs (zerosI 3 m)) (by rw [setC_len]) (by show w2.ownsRow B _ 3 (.slice (some ⟨w.heap.size, 0, none⟩) (zerosI 3 m).length m) (zerosI 3 m).length _; rw [zeros_len]; exact HOWN.out) (by show W1.drew.grownBy w2 (Value.slice (some ⟨w.heap.size, 0, none⟩) (zerosI 3 m).length m).ownBlock; rw [zeros_len]; exact HGR.out)
  refine ⟨rfl, ⟨_, htn.1⟩, (HK1.out.trans (KeepT.below ((Below.refl _ _).drew))).trans htn.2, HB1.out.drew.grown HGR.out (by have := HB1.out.size; show B ≤ W1.heap.size; omega) (fun q h => by have h := (own_block_ge HOWN.out) q h; omega)⟩
set_option maxRecDepth 100000 in
set_option maxHeartbeats 4000000 in
theorem takeStake_next (B gb ib lp nb rf wf bx j j0 : Nat) (ob : Obj) (a2 : Option Addr) (c2 : Nat) (xs : List Int) (v : Slots) (b : BookT) (w : World) (hS : BkS B gb w v b) (hB : B ≤ w.heap.size) (hk : ItemsOk 3 2000 b.ss) (hn : NumOk rf wf bx j ob) (hbx : w.heap[bx]? = some ob) (hbo : isBk ob = false) (hj0 : j0 ≠ 0) (hib : w.heap[ib]? = some (.cells #[.int .i64 (j0 : Int)] 3 (0, 0))) (hlp : w.heap[lp]? = some (.cells #[.pointer (some ⟨gb, 1, none⟩)] 100 (0, 0))) (hnb : w.heap[nb]? = some (.cells (numV rf wf bx) 104 (0, 0)))
    (hj : j < 3) (hx : I64s w a2 xs) (hxl : xs.length = b.ss.length) (hsep : SepA gb v b a2) :
    Calls Tryz.prog 112 #[.slice a2 xs.length c2, .pointer (some ⟨ib, 0, none⟩), .pointer (some ⟨lp, 0, none⟩), .pointer (some ⟨nb, 0, none⟩)] w fun e w' => e = .returned (.bool true) ∧ (∃ v', BkS B gb w' v' { b with ss := setC j xs b.ss }) ∧ KeepT w w' ∧ Below B w w' := by
  have kp1 := cell_of_one hlp
  have ki := cell_of_one hib
  have hz : ((j0 : Int) == 0) = false := by simp; omega
  have kg1 := hS.box.cells.2.1
  have htk := takenStake rf wf bx j ob B v.s a2 v.cs c2 b.ss xs w.drew hn hbx (own_ne'' hS.s hbx (fun cur e => by rw [e] at hbo; cases hbo)) hS.s hk hj (hx.below ((Below.refl _ _).drew)) (fun q off e _ => hsep.s q off e) hxl
  rw [hxl] at htk ⊢
  obtain ⟨fr, hfr⟩ : ∃ x, Value.func (.func rf) #[] #[.pointer (some ⟨bx, 0, none⟩)] = x := ⟨_, rfl⟩
  obtain ⟨fw, hfw⟩ : ∃ x, Value.func (.func wf) #[] #[.pointer (some ⟨bx, 0, none⟩)] = x := ⟨_, rfl⟩
  have hnv : numV rf wf bx = #[fr, fw] := by rw [← hfr, ← hfw]; rfl
  rw [hnv] at htk hnb
  have n0 := twoAtS hnb 0 fr rfl
  have n1 := twoAtS hnb 1 fw rfl
  rw [Nat.add_zero] at n0
  rw [Nat.zero_add] at n1
  obtain ⟨m, hm⟩ : ∃ m, b.ss.length = m := ⟨_, rfl⟩
  have hcl : (Value.slice v.s b.ss.length v.cs).ownBlock = (Value.slice v.s m v.cs).ownBlock := by rw [hm]
  rw [hm] at htk kg1 ⊢
  have HTK := Lib.hid htk
  have HS := Lib.hid hS
  have HM := Lib.hid hm
  clear htk hS hsep hnb hnv hfr hfw hn hbx hbo hib hlp hx hm hk hxl hcl
  go_enter Tryz.func112, Tryz.ntmps112
  go_upto_region 3 with (fail)
  go_still_tail 5, (by kernel_rfl)
  go_wp2_with (go_at_call 113; refine HTK.out.mono ?_; rintro e w2 ⟨rfl, hown, hgr⟩; have HOWN := Lib.hid hown; have HGR := Lib.hid hgr; clear hown hgr)
  go_ret
  have hS2 : BkS B gb w.drew v b := HS.out.below ((Below.refl _ _).drew)
  have htn := hS2.turnStake (L := setC j xs b.ss) (by rw [setC_len]) (by rw [HM.out]; exact HOWN.out) (by rw [HM.out]; exact HGR.out)
  refine ⟨rfl, ⟨_, htn.1⟩, (KeepT.below ((Below.refl _ _).drew)).trans htn.2, (Below.refl _ w).drew.grown HGR.out (by show B ≤ w.heap.size; omega) (fun q h => by have h := (own_block_ge HOWN.out) q h; omega)⟩
set_option maxRecDepth 100000 in
set_option maxHeartbeats 4000000 in
theorem takeStake_no (B gb ib lp nb rf wf bx j0 : Nat) (a2 : Option Addr) (c2 m : Nat) (v : Slots) (b : BookT) (w : World) (hS : BkS B gb w v b) (hk : b.ss.length ≤ 2000) (hj0 : j0 ≠ 0) (hib : w.heap[ib]? = some (.cells #[.int .i64 (j0 : Int)] 3 (0, 0))) (hlp : w.heap[lp]? = some (.cells #[.pointer (some ⟨gb, 1, none⟩)] 100 (0, 0))) (hnb : w.heap[nb]? = some (.cells (numV rf wf bx) 104 (0, 0)))
    (hm2 : m ≤ 2000) (hxl : m ≠ b.ss.length) :
    Calls Tryz.prog 112 #[.slice a2 m c2, .pointer (some ⟨ib, 0, none⟩), .pointer (some ⟨lp, 0, none⟩), .pointer (some ⟨nb, 0, none⟩)] w fun e w' => e = .returned (.bool false) ∧ Below w.heap.size w w' := by
  have kp1 := cell_of_one hlp
  have ki := cell_of_one hib
  have hz : ((j0 : Int) == 0) = false := by simp; omega
  have kg1 := hS.box.cells.2.1
  have htk := takenStake_no rf wf bx v.s a2 v.cs c2 b.ss.length m w.drew hk hm2 hxl
  obtain ⟨fr, hfr⟩ : ∃ x, Value.func (.func rf) #[] #[.pointer (some ⟨bx, 0, none⟩)] = x := ⟨_, rfl⟩
  obtain ⟨fw, hfw⟩ : ∃ x, Value.func (.func wf) #[] #[.pointer (some ⟨bx, 0, none⟩)] = x := ⟨_, rfl⟩
  have hnv : numV rf wf bx = #[fr, fw] := by rw [← hfr, ← hfw]; rfl
  rw [hnv] at htk hnb
  have n0 := twoAtS hnb 0 fr rfl
  have n1 := twoAtS hnb 1 fw rfl
  rw [Nat.add_zero] at n0
  rw [Nat.zero_add] at n1
  have HTK := Lib.hid htk
  clear htk hS hnb hnv hfr hfw hib hlp hk hxl
  go_enter Tryz.func112, Tryz.ntmps112
  go_upto_region 3 with (fail)
  go_still_tail 5, (by kernel_rfl)
  go_wp2_with (go_at_call 113; refine HTK.out.mono ?_; rintro e w2 ⟨rfl, hb⟩; have HB := Lib.hid hb; clear hb)
  go_ret
  exact ⟨rfl, (Below.refl _ w).drew.trans HB.out⟩
set_option maxRecDepth 100000 in
set_option maxHeartbeats 4000000 in
theorem takeOpen_first (B gb ib lp nb rf wf bx j : Nat) (ob : Obj) (a2 : Option Addr) (c2 : Nat) (xs : List Int) (v : Slots) (b : BookT) (w : World) (hS : BkS B gb w v b) (hB : B ≤ w.heap.size) (hn : NumOk rf wf bx j ob) (hbx : w.heap[bx]? = some ob) (hbo : isBk ob = false) (hib : w.heap[ib]? = some (.cells #[.int .i64 0] 3 (0, 0))) (hlp : w.heap[lp]? = some (.cells #[.pointer (some ⟨gb, 2, none⟩)] 109 (0, 0))) (hnb : w.heap[nb]? = some (.cells (numV rf wf bx) 113 (0, 0)))
    (hj : j < 6) (hx : I64s w a2 xs) (hxl : xs.length ≤ 1024) (hsep : SepA gb v b a2) :
    Calls Tryz.prog 118 #[.slice a2 xs.length c2, .pointer (some ⟨ib, 0, none⟩), .pointer (some ⟨lp, 0, none⟩), .pointer (some ⟨nb, 0, none⟩)] w fun e w' => e = .returned (.bool true) ∧ (∃ v', BkS B gb w' v' { b with os := setC j xs (zerosI 6 xs.length) }) ∧ KeepT w w' ∧ Below B w w' := by
  obtain ⟨i0, hi0, hz0, hz1, hz2⟩ := info_parts infoZOpen
  obtain ⟨m, hm⟩ : ∃ m, xs.length = m := ⟨_, rfl⟩
  rw [hm] at hxl
  have hnew := hS.newOpen hB m (by omega)
  have hmk : (Instr.makeSlice 24 (.int .i64 (m : Int)) (.int .i64 (m : Int))).run Tryz.prog w.drew = .ok (.slice (some ⟨w.heap.size, 0, none⟩) m m) (w.drew.alloc (.cells (madeCells #[.int .i64 0, .int .i64 0, .int .i64 0, .int .i64 0, .int .i64 0, .int .i64 0] (m * 6)) 69)) := by
    have h := run_make (P := Tryz.prog) w.drew 24 69 i0 _ Tryz.underlying24 hi0 hz0 .i64 .i64 (m : Int) (m : Int) (by omega) (by omega) (by rw [hz2]; omega) (by omega)
    rw [hz1] at h
    simp only [Int.toNat_natCast] at h
    exact h
  have ki := cell_of_one hib
  have kp := cell_of_one hlp
  obtain ⟨uo, kg⟩ := cell_of_blkN hS.box 2 (by simp [cellsB])
  have fg := free_of_blkN hS.box 2
  obtain ⟨M, hM⟩ : ∃ x, madeCells #[.int .i64 0, .int .i64 0, .int .i64 0, .int .i64 0, .int .i64 0, .int .i64 0] (m * 6) = x := ⟨_, rfl⟩
  rw [hM] at hnew hmk
  have hA : Below w.heap.size w (w.alloc (.cells M 69)) := (Below.refl _ w).alloc (Nat.le_refl _) _
  have kpA : (w.alloc (.cells M 69)).cell? ⟨lp, 0, none⟩ = some (.pointer (some ⟨gb, 2, none⟩)) := cell_of_one ((hA.block lp (lt_of_blk hlp)).trans hlp)
  have kgA : (w.alloc (.cells M 69)).cell? ⟨gb, 2, none⟩ = some uo := (hA.cell (p := ⟨gb, 2, none⟩) (lt_of_blk hS.box)).trans kg
  have fgA : (w.alloc (.cells M 69)).frozen? ⟨gb, 2, none⟩ = false := free_of_blkN ((hA.block gb (lt_of_blk hS.box)).trans hS.box) 2
  have HNEW := Lib.hid hnew
  have HSEP := Lib.hid hsep
  have HS := Lib.hid hS
  clear hnew hsep hA hM hS
  rw [hm]
  go_enter Tryz.func118, Tryz.ntmps118
  go_upto_region 2 with (fail)
  go_region
  go_upto_region 3 with (fail)
  refine at_world (Φ := fun W => BkS B gb W { v with o := some ⟨w.heap.size, 0, none⟩, co := m } { b with os := zerosI 6 m } ∧ KeepT w W ∧ Below B w W ∧ ∀ q, q < w.heap.size → q ≠ gb → W.heap[q]? = w.heap[q]?)
    ⟨HNEW.out.1.below ((Below.refl _ _).drew), HNEW.out.2.1.trans (KeepT.below ((Below.refl _ _).drew)), HNEW.out.2.2.drew, fun q hq hne => (heap_setCell_ne _ hne).trans (Below.heap_alloc _ _ _ hq)⟩ ?_
  rintro W1 ⟨hS1, hK1, hB1, hq1⟩
  have hx1 : I64s W1 a2 xs := hx.kept hK1.size (fun q off e hq => hq1 q hq (HSEP.out.g q off e))
  have hbx1 := hK1.same _ _ hbx hbo
  have hlp1 := hK1.same _ _ hlp rfl
  have hnb1 := hK1.same _ _ hnb rfl
  have kg1 : W1.cell? ⟨gb, 2, none⟩ = some (.slice (some ⟨w.heap.size, 0, none⟩) m m) := by
    have h := hS1.box.cells.2.2.1
    rwa [zeros_len] at h
  have kp1 := cell_of_one hlp1
  have htk := takenOpen rf wf bx j ob B (some ⟨w.heap.size, 0, none⟩) a2 m c2 (zerosI 6 m) xs W1.drew hn hbx1 (by
      intro e
      have : bx = w.heap.size := by simpa [Value.ownBlock] using e
      have := lt_of_blk hbx
      omega) hS1.o (zeros_ok 6 (by omega)) hj (hx1.below ((Below.refl _ _).drew)) (by
      intro q off e hne e2
      have : q = w.heap.size := by simpa [Value.ownBlock] using e2
      rcases hx with h | ⟨k2, off2, h1, h2, _⟩
      · exact hne h
      · rw [e] at h1; cases h1; omega) (by rw [hm, zeros_len])
  rw [zeros_len, hm] at htk
  obtain ⟨fr, hfr⟩ : ∃ x, Value.func (.func rf) #[] #[.pointer (some ⟨bx, 0, none⟩)] = x := ⟨_, rfl⟩
  obtain ⟨fw, hfw⟩ : ∃ x, Value.func (.func wf) #[] #[.pointer (some ⟨bx, 0, none⟩)] = x := ⟨_, rfl⟩
  have hnv : numV rf wf bx = #[fr, fw] := by rw [← hfr, ← hfw]; rfl
  rw [hnv] at htk hnb1
  have n0 := twoAtS hnb1 0 fr rfl
  have n1 := twoAtS hnb1 1 fw rfl
  rw [Nat.add_zero] at n0
  rw [Nat.zero_add] at n1
  have HTK := Lib.hid htk
  have HS1 := Lib.hid hS1
  have HK1 := Lib.hid hK1
  have HB1 := Lib.hid hB1
  clear htk hS1 hK1 hB1 hq1 hx1 hbx1 hlp1 hnb1 hnv hfr hfw hn hbx hbo hib hlp hnb hx hm hmk hi0 hz0 hz1 hz2 ki kp kg fg kpA kgA fgA
  go_still_tail 5, (by kernel_rfl)
  go_wp2_with (go_at_call 119; refine HTK.out.mono ?_; rintro e w2 ⟨rfl, hown, hgr⟩; have HOWN := Lib.hid hown; have HGR := Lib.hid hgr; clear hown hgr)
  go_ret
  have hS2 : BkS B gb W1.drew { v with o := some ⟨w.heap.size, 0, none⟩, co := m } { b with os := zerosI 6 m } := HS1.out.below ((Below.refl _ _).drew)
  have htn := hS2.turnOpen (L := setC j xs (zerosI 6 m)) (by rw [setC_len]) (by show w2.ownsRow B _ 6 (.slice (some ⟨w.heap.size, 0, none⟩) (zerosI 6 m).length m) (zerosI 6 m).length _; rw [zeros_len]; exact HOWN.out) (by show W1.drew.grownBy w2 (Value.slice (some ⟨w.heap.size, 0, none⟩) (zerosI 6 m).length m).ownBlock; rw [zeros_len]; exact HGR.out)
  refine ⟨rfl, ⟨_, htn.1⟩, (HK1.out.trans (KeepT.below ((Below.refl _ _).drew))).trans htn.2, HB1.out.drew.grown HGR.out (by have := HB1.out.size; show B ≤ W1.heap.size; omega) (fun q h => by have h := (own_block_ge HOWN.out) q h; omega)⟩
set_option maxRecDepth 100000 in
set_option maxHeartbeats 4000000 in
theorem takeOpen_next (B gb ib lp nb rf wf bx j j0 : Nat) (ob : Obj) (a2 : Option Addr) (c2 : Nat) (xs : List Int) (v : Slots) (b : BookT) (w : World) (hS : BkS B gb w v b) (hB : B ≤ w.heap.size) (hk : ItemsOk 6 2000 b.os) (hn : NumOk rf wf bx j ob) (hbx : w.heap[bx]? = some ob) (hbo : isBk ob = false) (hj0 : j0 ≠ 0) (hib : w.heap[ib]? = some (.cells #[.int .i64 (j0 : Int)] 3 (0, 0))) (hlp : w.heap[lp]? = some (.cells #[.pointer (some ⟨gb, 2, none⟩)] 109 (0, 0))) (hnb : w.heap[nb]? = some (.cells (numV rf wf bx) 113 (0, 0)))
    (hj : j < 6) (hx : I64s w a2 xs) (hxl : xs.length = b.os.length) (hsep : SepA gb v b a2) :
    Calls Tryz.prog 118 #[.slice a2 xs.length c2, .pointer (some ⟨ib, 0, none⟩), .pointer (some ⟨lp, 0, none⟩), .pointer (some ⟨nb, 0, none⟩)] w fun e w' => e = .returned (.bool true) ∧ (∃ v', BkS B gb w' v' { b with os := setC j xs b.os }) ∧ KeepT w w' ∧ Below B w w' := by
  have kp1 := cell_of_one hlp
  have ki := cell_of_one hib
  have hz : ((j0 : Int) == 0) = false := by simp; omega
  have kg1 := hS.box.cells.2.2.1
  have htk := takenOpen rf wf bx j ob B v.o a2 v.co c2 b.os xs w.drew hn hbx (own_ne'' hS.o hbx (fun cur e => by rw [e] at hbo; cases hbo)) hS.o hk hj (hx.below ((Below.refl _ _).drew)) (fun q off e _ => hsep.o q off e) hxl
  rw [hxl] at htk ⊢
  obtain ⟨fr, hfr⟩ : ∃ x, Value.func (.func rf) #[] #[.pointer (some ⟨bx, 0, none⟩)] = x := ⟨_, rfl⟩
  obtain ⟨fw, hfw⟩ : ∃ x, Value.func (.func wf) #[] #[.pointer (some ⟨bx, 0, none⟩)] = x := ⟨_, rfl⟩
  have hnv : numV rf wf bx = #[fr, fw] := by rw [← hfr, ← hfw]; rfl
  rw [hnv] at htk hnb
  have n0 := twoAtS hnb 0 fr rfl
  have n1 := twoAtS hnb 1 fw rfl
  rw [Nat.add_zero] at n0
  rw [Nat.zero_add] at n1
  obtain ⟨m, hm⟩ : ∃ m, b.os.length = m := ⟨_, rfl⟩
  have hcl : (Value.slice v.o b.os.length v.co).ownBlock = (Value.slice v.o m v.co).ownBlock := by rw [hm]
  rw [hm] at htk kg1 ⊢
  have HTK := Lib.hid htk
  have HS := Lib.hid hS
  have HM := Lib.hid hm
  clear htk hS hsep hnb hnv hfr hfw hn hbx hbo hib hlp hx hm hk hxl hcl
  go_enter Tryz.func118, Tryz.ntmps118
  go_upto_region 3 with (fail)
  go_still_tail 5, (by kernel_rfl)
  go_wp2_with (go_at_call 119; refine HTK.out.mono ?_; rintro e w2 ⟨rfl, hown, hgr⟩; have HOWN := Lib.hid hown; have HGR := Lib.hid hgr; clear hown hgr)
  go_ret
  have hS2 : BkS B gb w.drew v b := HS.out.below ((Below.refl _ _).drew)
  have htn := hS2.turnOpen (L := setC j xs b.os) (by rw [setC_len]) (by rw [HM.out]; exact HOWN.out) (by rw [HM.out]; exact HGR.out)
  refine ⟨rfl, ⟨_, htn.1⟩, (KeepT.below ((Below.refl _ _).drew)).trans htn.2, (Below.refl _ w).drew.grown HGR.out (by show B ≤ w.heap.size; omega) (fun q h => by have h := (own_block_ge HOWN.out) q h; omega)⟩
set_option maxRecDepth 100000 in
set_option maxHeartbeats 4000000 in
theorem takeOpen_no (B gb ib lp nb rf wf bx j0 : Nat) (a2 : Option Addr) (c2 m : Nat) (v : Slots) (b : BookT) (w : World) (hS : BkS B gb w v b) (hk : b.os.length ≤ 2000) (hj0 : j0 ≠ 0) (hib : w.heap[ib]? = some (.cells #[.int .i64 (j0 : Int)] 3 (0, 0))) (hlp : w.heap[lp]? = some (.cells #[.pointer (some ⟨gb, 2, none⟩)] 109 (0, 0))) (hnb : w.heap[nb]? = some (.cells (numV rf wf bx) 113 (0, 0)))
    (hm2 : m ≤ 2000) (hxl : m ≠ b.os.length) :
    Calls Tryz.prog 118 #[.slice a2 m c2, .pointer (some ⟨ib, 0, none⟩), .pointer (some ⟨lp, 0, none⟩), .pointer (some ⟨nb, 0, none⟩)] w fun e w' => e = .returned (.bool false) ∧ Below w.heap.size w w' := by
  have kp1 := cell_of_one hlp
  have ki := cell_of_one hib
  have hz : ((j0 : Int) == 0) = false := by simp; omega
  have kg1 := hS.box.cells.2.2.1
  have htk := takenOpen_no rf wf bx v.o a2 v.co c2 b.os.length m w.drew hk hm2 hxl
  obtain ⟨fr, hfr⟩ : ∃ x, Value.func (.func rf) #[] #[.pointer (some ⟨bx, 0, none⟩)] = x := ⟨_, rfl⟩
  obtain ⟨fw, hfw⟩ : ∃ x, Value.func (.func wf) #[] #[.pointer (some ⟨bx, 0, none⟩)] = x := ⟨_, rfl⟩
  have hnv : numV rf wf bx = #[fr, fw] := by rw [← hfr, ← hfw]; rfl
  rw [hnv] at htk hnb
  have n0 := twoAtS hnb 0 fr rfl
  have n1 := twoAtS hnb 1 fw rfl
  rw [Nat.add_zero] at n0
  rw [Nat.zero_add] at n1
  have HTK := Lib.hid htk
  clear htk hS hnb hnv hfr hfw hib hlp hk hxl
  go_enter Tryz.func118, Tryz.ntmps118
  go_upto_region 3 with (fail)
  go_still_tail 5, (by kernel_rfl)
  go_wp2_with (go_at_call 119; refine HTK.out.mono ?_; rintro e w2 ⟨rfl, hb⟩; have HB := Lib.hid hb; clear hb)
  go_ret
  exact ⟨rfl, (Below.refl _ w).drew.trans HB.out⟩
set_option maxRecDepth 100000 in
set_option maxHeartbeats 4000000 in
theorem takeRate_first (B gb ib lp nb rf wf bx j : Nat) (ob : Obj) (a2 : Option Addr) (c2 : Nat) (xs : List Int) (v : Slots) (b : BookT) (w : World) (hS : BkS B gb w v b) (hB : B ≤ w.heap.size) (hn : NumOk rf wf bx j ob) (hbx : w.heap[bx]? = some ob) (hbo : isBk ob = false) (hib : w.heap[ib]? = some (.cells #[.int .i64 0] 3 (0, 0))) (hlp : w.heap[lp]? = some (.cells #[.pointer (some ⟨gb, 3, none⟩)] 121 (0, 0))) (hnb : w.heap[nb]? = some (.cells (numV rf wf bx) 125 (0, 0)))
    (hj : j < 2) (hx : I64s w a2 xs) (hxl : xs.length ≤ 1024) (hsep : SepA gb v b a2) :
    Calls Tryz.prog 126 #[.slice a2 xs.length c2, .pointer (some ⟨ib, 0, none⟩), .pointer (some ⟨lp, 0, none⟩), .pointer (some ⟨nb, 0, none⟩)] w fun e w' => e = .returned (.bool true) ∧ (∃ v', BkS B gb w' v' { b with rs := setC j xs (zerosI 2 xs.length) }) ∧ KeepT w w' ∧ Below B w w' := by
  obtain ⟨i0, hi0, hz0, hz1, hz2⟩ := info_parts infoZRate
  obtain ⟨m, hm⟩ : ∃ m, xs.length = m := ⟨_, rfl⟩
  rw [hm] at hxl
  have hnew := hS.newRate hB m (by omega)
  have hmk : (Instr.makeSlice 25 (.int .i64 (m : Int)) (.int .i64 (m : Int))).run Tryz.prog w.drew = .ok (.slice (some ⟨w.heap.size, 0, none⟩) m m) (w.drew.alloc (.cells (madeCells #[.int .i64 0, .int .i64 0] (m * 2)) 64)) := by
    have h := run_make (P := Tryz.prog) w.drew 25 64 i0 _ Tryz.underlying25 hi0 hz0 .i64 .i64 (m : Int) (m : Int) (by omega) (by omega) (by rw [hz2]; omega) (by omega)
    rw [hz1] at h
    simp only [Int.toNat_natCast] at h
    exact h
  have ki := cell_of_one hib
  have kp := cell_of_one hlp
  obtain ⟨uo, kg⟩ := cell_of_blkN hS.box 3 (by simp [cellsB])
  have fg := free_of_blkN hS.box 3
  obtain ⟨M, hM⟩ : ∃ x, madeCells #[.int .i64 0, .int .i64 0] (m * 2) = x := ⟨_, rfl⟩
  rw [hM] at hnew hmk
  have hA : Below w.heap.size w (w.alloc (.cells M 64)) := (Below.refl _ w).alloc (Nat.le_refl _) _
  have kpA : (w.alloc (.cells M 64)).cell? ⟨lp, 0, none⟩ = some (.pointer (some ⟨gb, 3, none⟩)) := cell_of_one ((hA.block lp (lt_of_blk hlp)).trans hlp)
  have kgA : (w.alloc (.cells M 64)).cell? ⟨gb, 3, none⟩ = some uo := (hA.cell (p := ⟨gb, 3, none⟩) (lt_of_blk hS.box)).trans kg
  have fgA : (w.alloc (.cells M 64)).frozen? ⟨gb, 3, none⟩ = false := free_of_blkN ((hA.block gb (lt_of_blk hS.box)).trans hS.box) 3
  have HNEW := Lib.hid hnew
  have HSEP := Lib.hid hsep
  have HS := Lib.hid hS
  clear hnew hsep hA hM hS
  rw [hm]
  go_enter Tryz.func126, Tryz.ntmps126
  go_upto_region 2 with (fail)
  go_region
  go_upto_region 3 with (fail)
  refine at_world (Φ := fun W => BkS B gb W { v with r := some ⟨w.heap.size, 0, none⟩, cr := m } { b with rs := zerosI 2 m } ∧ KeepT w W ∧ Below B w W ∧ ∀ q, q < w.heap.size → q ≠ gb → W.heap[q]? = w.heap[q]?)
    ⟨HNEW.out.1.below ((Below.refl _ _).drew), HNEW.out.2.1.trans (KeepT.below ((Below.refl _ _).drew)), HNEW.out.2.2.drew, fun q hq hne => (heap_setCell_ne _ hne).trans (Below.heap_alloc _ _ _ hq)⟩ ?_
  rintro W1 ⟨hS1, hK1, hB1, hq1⟩
  have hx1 : I64s W1 a2 xs := hx.kept hK1.size (fun q off e hq => hq1 q hq (HSEP.out.g q off e))
  have hbx1 := hK1.same _ _ hbx hbo
  have hlp1 := hK1.same _ _ hlp rfl
  have hnb1 := hK1.same _ _ hnb rfl
  have kg1 : W1.cell? ⟨gb, 3, none⟩ = some (.slice (some ⟨w.heap.size, 0, none⟩) m m) := by
    have h := hS1.box.cells.2.2.2.1
    rwa [zeros_len] at h
  have kp1 := cell_of_one hlp1
  have htk := takenRate rf wf bx j ob B (some ⟨w.heap.size, 0, none⟩) a2 m c2 (zerosI 2 m) xs W1.drew hn hbx1 (by
      intro e
      have : bx = w.heap.size := by simpa [Value.ownBlock] using e
      have := lt_of_blk hbx
      omega) hS1.r (zeros_ok 2 (by omega)) hj (hx1.below ((Below.refl _ _).drew)) (by
      intro q off e hne e2
      have : q = w.heap.size := by simpa [Value.ownBlock] using e2
      rcases hx with h | ⟨k2, off2, h1, h2, _⟩
      · exact hne h
      · rw [e] at h1; cases h1; omega) (by rw [hm, zeros_len])
  rw [zeros_len, hm] at htk
  obtain ⟨fr, hfr⟩ : ∃ x, Value.func (.func rf) #[] #[.pointer (some ⟨bx, 0, none⟩)] = x := ⟨_, rfl⟩
  obtain ⟨fw, hfw⟩ : ∃ x, Value.func (.func wf) #[] #[.pointer (some ⟨bx, 0, none⟩)] = x := ⟨_, rfl⟩
  have hnv : numV rf wf bx = #[fr, fw] := by rw [← hfr, ← hfw]; rfl
  rw [hnv] at htk hnb1
  have n0 := twoAtS hnb1 0 fr rfl
  have n1 := twoAtS hnb1 1 fw rfl
  rw [Nat.add_zero] at n0
  rw [Nat.zero_add] at n1
  have HTK := Lib.hid htk
  have HS1 := Lib.hid hS1
  have HK1 := Lib.hid hK1
  have HB1 := Lib.hid hB1
  clear htk hS1 hK1 hB1 hq1 hx1 hbx1 hlp1 hnb1 hnv hfr hfw hn hbx hbo hib hlp hnb hx hm hmk hi0 hz0 hz1 hz2 ki kp kg fg kpA kgA fgA
  go_still_tail 5, (by kernel_rfl)
  go_wp2_with (go_at_call 127; refine HTK.out.mono ?_; rintro e w2 ⟨rfl, hown, hgr⟩; have HOWN := Lib.hid hown; have HGR := Lib.hid hgr; clear hown hgr)
  go_ret
  have hS2 : BkS B gb W1.drew { v with r := some ⟨w.heap.size, 0, none⟩, cr := m } { b with rs := zerosI 2 m } := HS1.out.below ((Below.refl _ _).drew)
  have htn := hS2.turnRate (L := setC j xs (zerosI 2 m)) (by rw [setC_len]) (by show w2.ownsRow B _ 2 (.slice (some ⟨w.heap.size, 0, none⟩) (zerosI 2 m).length m) (zerosI 2 m).length _; rw [zeros_len]; exact HOWN.out) (by show W1.drew.grownBy w2 (Value.slice (some ⟨w.heap.size, 0, none⟩) (zerosI 2 m).length m).ownBlock; rw [zeros_len]; exact HGR.out)
  refine ⟨rfl, ⟨_, htn.1⟩, (HK1.out.trans (KeepT.below ((Below.refl _ _).drew))).trans htn.2, HB1.out.drew.grown HGR.out (by have := HB1.out.size; show B ≤ W1.heap.size; omega) (fun q h => by have h := (own_block_ge HOWN.out) q h; omega)⟩
set_option maxRecDepth 100000 in
set_option maxHeartbeats 4000000 in
theorem takeRate_next (B gb ib lp nb rf wf bx j j0 : Nat) (ob : Obj) (a2 : Option Addr) (c2 : Nat) (xs : List Int) (v : Slots) (b : BookT) (w : World) (hS : BkS B gb w v b) (hB : B ≤ w.heap.size) (hk : ItemsOk 2 2000 b.rs) (hn : NumOk rf wf bx j ob) (hbx : w.heap[bx]? = some ob) (hbo : isBk ob = false) (hj0 : j0 ≠ 0) (hib : w.heap[ib]? = some (.cells #[.int .i64 (j0 : Int)] 3 (0, 0))) (hlp : w.heap[lp]? = some (.cells #[.pointer (some ⟨gb, 3, none⟩)] 121 (0, 0))) (hnb : w.heap[nb]? = some (.cells (numV rf wf bx) 125 (0, 0)))
    (hj : j < 2) (hx : I64s w a2 xs) (hxl : xs.length = b.rs.length) (hsep : SepA gb v b a2) :
    Calls Tryz.prog 126 #[.slice a2 xs.length c2, .pointer (some ⟨ib, 0, none⟩), .pointer (some ⟨lp, 0, none⟩), .pointer (some ⟨nb, 0, none⟩)] w fun e w' => e = .returned (.bool true) ∧ (∃ v', BkS B gb w' v' { b with rs := setC j xs b.rs }) ∧ KeepT w w' ∧ Below B w w' := by
  have kp1 := cell_of_one hlp
  have ki := cell_of_one hib
  have hz : ((j0 : Int) == 0) = false := by simp; omega
  have kg1 := hS.box.cells.2.2.2.1
  have htk := takenRate rf wf bx j ob B v.r a2 v.cr c2 b.rs xs w.drew hn hbx (own_ne'' hS.r hbx (fun cur e => by rw [e] at hbo; cases hbo)) hS.r hk hj (hx.below ((Below.refl _ _).drew)) (fun q off e _ => hsep.r q off e) hxl
  rw [hxl] at htk ⊢
  obtain ⟨fr, hfr⟩ : ∃ x, Value.func (.func rf) #[] #[.pointer (some ⟨bx, 0, none⟩)] = x := ⟨_, rfl⟩
  obtain ⟨fw, hfw⟩ : ∃ x, Value.func (.func wf) #[] #[.pointer (some ⟨bx, 0, none⟩)] = x := ⟨_, rfl⟩
  have hnv : numV rf wf bx = #[fr, fw] := by rw [← hfr, ← hfw]; rfl
  rw [hnv] at htk hnb
  have n0 := twoAtS hnb 0 fr rfl
  have n1 := twoAtS hnb 1 fw rfl
  rw [Nat.add_zero] at n0
  rw [Nat.zero_add] at n1
  obtain ⟨m, hm⟩ : ∃ m, b.rs.length = m := ⟨_, rfl⟩
  have hcl : (Value.slice v.r b.rs.length v.cr).ownBlock = (Value.slice v.r m v.cr).ownBlock := by rw [hm]
  rw [hm] at htk kg1 ⊢
  have HTK := Lib.hid htk
  have HS := Lib.hid hS
  have HM := Lib.hid hm
  clear htk hS hsep hnb hnv hfr hfw hn hbx hbo hib hlp hx hm hk hxl hcl
  go_enter Tryz.func126, Tryz.ntmps126
  go_upto_region 3 with (fail)
  go_still_tail 5, (by kernel_rfl)
  go_wp2_with (go_at_call 127; refine HTK.out.mono ?_; rintro e w2 ⟨rfl, hown, hgr⟩; have HOWN := Lib.hid hown; have HGR := Lib.hid hgr; clear hown hgr)
  go_ret
  have hS2 : BkS B gb w.drew v b := HS.out.below ((Below.refl _ _).drew)
  have htn := hS2.turnRate (L := setC j xs b.rs) (by rw [setC_len]) (by rw [HM.out]; exact HOWN.out) (by rw [HM.out]; exact HGR.out)
  refine ⟨rfl, ⟨_, htn.1⟩, (KeepT.below ((Below.refl _ _).drew)).trans htn.2, (Below.refl _ w).drew.grown HGR.out (by show B ≤ w.heap.size; omega) (fun q h => by have h := (own_block_ge HOWN.out) q h; omega)⟩
set_option maxRecDepth 100000 in
set_option maxHeartbeats 4000000 in
theorem takeRate_no (B gb ib lp nb rf wf bx j0 : Nat) (a2 : Option Addr) (c2 m : Nat) (v : Slots) (b : BookT) (w : World) (hS : BkS B gb w v b) (hk : b.rs.length ≤ 2000) (hj0 : j0 ≠ 0) (hib : w.heap[ib]? = some (.cells #[.int .i64 (j0 : Int)] 3 (0, 0))) (hlp : w.heap[lp]? = some (.cells #[.pointer (some ⟨gb, 3, none⟩)] 121 (0, 0))) (hnb : w.heap[nb]? = some (.cells (numV rf wf bx) 125 (0, 0)))
    (hm2 : m ≤ 2000) (hxl : m ≠ b.rs.length) :
    Calls Tryz.prog 126 #[.slice a2 m c2, .pointer (some ⟨ib, 0, none⟩), .pointer (some ⟨lp, 0, none⟩), .pointer (some ⟨nb, 0, none⟩)] w fun e w' => e = .returned (.bool false) ∧ Below w.heap.size w w' := by
  have kp1 := cell_of_one hlp
  have ki := cell_of_one hib
  have hz : ((j0 : Int) == 0) = false := by simp; omega
  have kg1 := hS.box.cells.2.2.2.1
  have htk := takenRate_no rf wf bx v.r a2 v.cr c2 b.rs.length m w.drew hk hm2 hxl
  obtain ⟨fr, hfr⟩ : ∃ x, Value.func (.func rf) #[] #[.pointer (some ⟨bx, 0, none⟩)] = x := ⟨_, rfl⟩
  obtain ⟨fw, hfw⟩ : ∃ x, Value.func (.func wf) #[] #[.pointer (some ⟨bx, 0, none⟩)] = x := ⟨_, rfl⟩
  have hnv : numV rf wf bx = #[fr, fw] := by rw [← hfr, ← hfw]; rfl
  rw [hnv] at htk hnb
  have n0 := twoAtS hnb 0 fr rfl
  have n1 := twoAtS hnb 1 fw rfl
  rw [Nat.add_zero] at n0
  rw [Nat.zero_add] at n1
  have HTK := Lib.hid htk
  clear htk hS hnb hnv hfr hfw hib hlp hk hxl
  go_enter Tryz.func126, Tryz.ntmps126
  go_upto_region 3 with (fail)
  go_still_tail 5, (by kernel_rfl)
  go_wp2_with (go_at_call 127; refine HTK.out.mono ?_; rintro e w2 ⟨rfl, hb⟩; have HB := Lib.hid hb; clear hb)
  go_ret
  exact ⟨rfl, (Below.refl _ w).drew.trans HB.out⟩
end Go.Proofs.YtnhljfhpfpfniaaGreat

namespace Go.Proofs.YtnhljfhpfpfniaaGreat
open Go.RowKit Base Base2

/-- What reads and writes a number: the closures, and the box that they capture. -/
structure NumD where
  rf : Nat
  wf : Nat
  bx : Nat
/-- A field, as it lies. -/
structure Fld where
  m : Nat
  tf : Nat
  tc : Array Value
  kf : Nat
  kc : Array Value
def Fld.cells (f : Fld) : List Value := [.int .i64 (f.m : Int), .func (.func f.tf) #[] f.tc, .func (.func f.kf) #[] f.kc]
def flatF (fs : List Fld) : List Value := (fs.map Fld.cells).flatten
theorem flatF_app (l m : List Fld) : flatF (l ++ m) = flatF l ++ flatF m := by simp [flatF]
theorem flatF_one (f : Fld) : flatF [f] = f.cells := by simp [flatF]
theorem flatF_len : ∀ fs : List Fld, (flatF fs).length = fs.length * 3
  | [] => rfl
  | f :: fs => by
    show (f.cells ++ flatF fs).length = _
    rw [List.length_append, flatF_len fs, List.length_cons, Nat.add_mul]; simp [Fld.cells]; omega
theorem one_fld (f : Fld) : ∀ u ∈ f.cells, u.oneCell' = true := by
  intro u hu
  simp only [Fld.cells, List.mem_cons, List.not_mem_nil, or_false] at hu
  rcases hu with rfl | rfl | rfl <;> rfl
def ptrV (b : Nat) : Value := .pointer (some ⟨b, 0, none⟩)
/-- A field that is laid: the boxes that its closures capture. -/
structure IsFld (tf kf : Nat) (nt : TypeId) (m lp i : Nat) (d : NumD) (W : World) (f : Fld) : Prop where
  is : ∃ nb ib, f = ⟨m, tf, #[ptrV lp, ptrV nb], kf, #[ptrV ib, ptrV lp, ptrV nb]⟩ ∧ W.heap[nb]? = some (.cells (numV d.rf d.wf d.bx) nt (0, 0)) ∧ W.heap[ib]? = some (.cells #[.int .i64 (i : Int)] 3 (0, 0))
theorem IsFld.below {tf kf : Nat} {nt : TypeId} {m lp i : Nat} {d : NumD} {W W' : World} {f : Fld} (h : IsFld tf kf nt m lp i d W f) (hb : Below W.heap.size W W') : IsFld tf kf nt m lp i d W' f := by
  obtain ⟨nb, ib, h1, h2, h3⟩ := h.is
  exact ⟨nb, ib, h1, (hb.block nb (lt_of_blk h2)).trans h2, (hb.block ib (lt_of_blk h3)).trans h3⟩
/-- What laid has made so far. -/
structure LaidS (tf kf : Nat) (nt lt : TypeId) (m gb ce : Nat) (ns : List NumD) (w : World) (v : Value) (fs : List Fld) (W : World) : Prop where
  own : W.ownsRow (w.heap.size + 1) 57 3 v fs.length (flatF fs)
  lo : Below w.heap.size w W
  box : W.heap[w.heap.size]? = some (.cells #[.pointer (some ⟨gb, ce, none⟩)] lt (0, 0))
  fld : ∀ (i : Nat) (f : Fld) (d : NumD), fs[i]? = some f → ns[i]? = some d → IsFld tf kf nt m w.heap.size i d W f
theorem infoF : (Tryz.prog.info? 57).map (fun i => (i.zero, i.size, i.bytes)) = some (some (.agg #[.int .i64 0, .nilFunc, .nilFunc]), 3, 24) := by kernel_rfl
theorem LaidS.app {tf kf : Nat} {nt lt : TypeId} {m gb ce : Nat} {ns : List NumD} {w : World} {v v' : Value} {fs : List Fld} {W W1 w2 : World} {f : Fld} {ob : Obj} (h : LaidS tf kf nt lt m gb ce ns w v fs W) (hW1 : Below W.heap.size W W1) (hn : nt ≠ 57)
    (hf : ∀ d, ns[fs.length]? = some d → IsFld tf kf nt m w.heap.size fs.length d W1 f)
    (hr : w2.ownsRow (w.heap.size + 1) 57 3 v' (fs.length + 1) (flatF fs ++ f.cells)) (hg : (W1.alloc ob).grownBy w2 v.ownBlock) : LaidS tf kf nt lt m gb ce ns w v' (fs ++ [f]) w2 := by
  have hg2 := World_grown_alloc hg
  have hown1 := own_below' h.own hW1
  have hkeep : ∀ (k : Nat) (cs : Array Value) (T : TypeId), T ≠ 57 → W1.heap[k]? = some (.cells cs T (0, 0)) → w2.heap[k]? = some (.cells cs T (0, 0)) := fun k cs T hT hk => (hg2.block k (lt_of_blk hk) (own_ne' hown1 hk hT)).trans hk
  have hwl : w.heap.size < W.heap.size := lt_of_blk h.box
  refine ⟨by rw [flatF_app, flatF_one, List.length_append]; exact hr, (h.lo.trans (hW1.mono h.lo.size)).grown hg2 (by have := h.lo.size; have := hW1.size; omega) (fun k e => by have := own_block_ge hown1 k e; omega), (hg2.block _ (Nat.lt_of_lt_of_le hwl hW1.size) (fun e => by have := own_block_ge hown1 _ e.symm; omega)).trans ((hW1.block _ hwl).trans h.box), fun i f' d hi hd => ?_⟩
  have hk : ∀ {f' : Fld} {i : Nat}, IsFld tf kf nt m w.heap.size i d W1 f' → IsFld tf kf nt m w.heap.size i d w2 f' := fun hh => by
    obtain ⟨nb, ib, h1, h2, h3⟩ := hh.is
    exact ⟨nb, ib, h1, hkeep _ _ _ hn h2, hkeep _ _ _ (by decide) h3⟩
  by_cases hlt : i < fs.length
  · rw [List.getElem?_append_left hlt] at hi
    exact hk ((h.fld i f' d hi hd).below hW1)
  · have hle := (List.getElem?_eq_some_iff.1 hi).1
    rw [List.length_append, List.length_singleton] at hle
    obtain rfl : i = fs.length := by omega
    rw [List.getElem?_append_right (Nat.le_refl _), Nat.sub_self] at hi
    obtain rfl : f = f' := by simpa using hi
    exact hk (hf d hd)
set_option maxRecDepth 100000 in
set_option maxHeartbeats 4000000 in
theorem laidHolder (gb m gn c : Nat) (ns : List NumD) (w : World) (_hm : m ≤ 2000) (hns : ns.length ≤ 10) (hgn : gn < w.heap.size) (hc : ∀ (i : Nat) (d : NumD), ns[i]? = some d → w.cell? ⟨gn, i * 2, none⟩ = some (.func (.func d.rf) #[] #[.pointer (some ⟨d.bx, 0, none⟩)]) ∧ w.cell? ⟨gn, i * 2 + 1, none⟩ = some (.func (.func d.wf) #[] #[.pointer (some ⟨d.bx, 0, none⟩)])) :
    Calls Tryz.prog 39 #[.pointer (some ⟨gb, 0, none⟩), .int .i64 (m : Int), .slice (some ⟨gn, 0, none⟩) ns.length c] w fun e w' => ∃ v fs, e = .returned v ∧ fs.length = ns.length ∧ LaidS 104 106 94 90 m gb 0 ns w v fs w' := by
  obtain ⟨i0, hi0, hz0, hz1, hz2⟩ := info_parts infoF
  have HC := Lib.hid hc
  have HL0 := Lib.hid (show LaidS 104 106 94 90 m gb 0 ns w (.slice none 0 0) [] (w.alloc (.cells #[.pointer (some ⟨gb, 0, none⟩)] 90)) from
    ⟨⟨rfl, .inl ⟨rfl, rfl⟩⟩, (Below.refl _ w).alloc (Nat.le_refl _) _, heap_alloc_new w _, fun i f d h => by simp at h⟩)
  clear hc
  go_enter Tryz.func39, Tryz.ntmps39
  go_upto_region 3 with (fail)
  go_loopw [7, 12] (fun v7 vi W => ∃ (i : Nat) (fs : List Fld), vi = .int .i64 (i : Int) ∧ i ≤ ns.length ∧ fs.length = i ∧ LaidS 104 106 94 90 m gb 0 ns w v7 fs W) (fun _ vi _ => ns.length - (intOf vi).toNat)
  case atStart => exact ⟨0, [], rfl, Nat.zero_le _, rfl, HL0.out⟩
  case round =>
    obtain ⟨i, fs, rfl, hi, hfl, hls⟩ := hrel
    have HL := Lib.hid hls
    have HFL := Lib.hid hfl
    clear hls HL0 hfl
    by_cases hlt : i < ns.length
    · obtain ⟨d, hd⟩ : ∃ d, ns[i]? = some d := ⟨ns[i], by simp [hlt]⟩
      obtain ⟨hc0, hc1⟩ := HC.out i d hd
      have k0 := (HL.out.lo.cell (p := ⟨gn, i * 2, none⟩) hgn).trans hc0
      have k1 := (HL.out.lo.cell (p := ⟨gn, i * 2 + 1, none⟩) hgn).trans hc1
      clear hc0 hc1
      go_upto_region 5 with (fail)
      obtain ⟨fld, hfd⟩ : ∃ x : Fld, x = ⟨m, 104, #[ptrV w.heap.size, ptrV (wr.heap.size + 1)], 106, #[ptrV wr.heap.size, ptrV w.heap.size, ptrV (wr.heap.size + 1)]⟩ := ⟨_, rfl⟩
      refine at_world (Φ := fun W => Below wr.heap.size wr W ∧ (∀ d', ns[fs.length]? = some d' → IsFld 104 106 94 m w.heap.size fs.length d' W fld)) ⟨((Below.refl _ _).alloc (Nat.le_refl _) _).alloc (by simp) _, fun d' hd' => ?_⟩ ?_
      · rw [HFL.out, hd] at hd'
        obtain rfl : d = d' := Option.some.inj hd'
        have h2 := heap_alloc_new (wr.alloc (.cells #[.int .i64 (i : Int)] 3)) (.cells (numV d.rf d.wf d.bx) 94)
        rw [World.size_alloc] at h2
        exact ⟨wr.heap.size + 1, wr.heap.size, hfd, h2, by rw [HFL.out]; exact (Below.heap_alloc _ _ _ (by simp)).trans (heap_alloc_new wr _)⟩
      rintro W1 ⟨hb1, hf1⟩
      have HB1 := Lib.hid hb1
      have HF1 := Lib.hid hf1
      have HX := Lib.hid (show fld.cells = [.int .i64 (m : Int), .func (.func 104) #[] #[ptrV w.heap.size, ptrV (wr.heap.size + 1)], .func (.func 106) #[] #[ptrV wr.heap.size, ptrV w.heap.size, ptrV (wr.heap.size + 1)]] by rw [hfd]; rfl)
      have HO := Lib.hid (one_fld fld)
      rw [HX.out] at HO
      have b1 : fs.length + 1 ≤ maxLen := by unfold maxLen; have := HFL.out; omega
      have b2 : (fs.length + 1) * 24 ≤ 140737488355328 := by have := HFL.out; omega
      have hsz := Nat.le_trans HL.out.lo.size hb1.size
      have HOW := Lib.hid (own_below' HL.out.own hb1)
      have hwl := Nat.lt_of_lt_of_le (lt_of_blk HL.out.box) hb1.size
      clear hb1 hf1 hfd hd k0 k1 hsz
      go_wp2_with (at_builtin; refine wpList_append_own _ rfl _ _ 51 rfl (w.heap.size + 1) 57 i0 (.agg #[.int .i64 0, .nilFunc, .nilFunc]) 3 24 Tryz.underlying51 hi0 hz0 hz1 hz2 rfl (by decide) _ _ _ rfl (HOW.out.alloc _) ⟨W1.heap.size, 0, none⟩ 1 1 [.int .i64 (m : Int), .func (.func 104) #[] #[ptrV w.heap.size, ptrV (wr.heap.size + 1)], .func (.func 106) #[] #[ptrV wr.heap.size, ptrV w.heap.size, ptrV (wr.heap.size + 1)]] rfl rfl (new_cells _ _ _) HO.out b1 b2 (by rw [World.size_alloc]; omega) ?_; intro v' w3 hown hgrow _; have HA := Lib.hid (HL.out.app HB1.out (by decide) HF1.out (by rw [HX.out]; exact hown) hgrow); clear hown hgrow)
      go_roundw
      case rel => exact ⟨i + 1, fs ++ [fld], by go_num, hlt, by rw [List.length_append, HFL.out]; rfl, HA.out⟩
      case measure => simp [intOf]; omega
    · have HE := Lib.hid (show fs.length = ns.length by rw [HFL.out]; omega)
      obtain ⟨u, hu⟩ : ∃ u, ns.length = u := ⟨_, rfl⟩
      go_wp2
      go_ret
      exact ⟨_, fs, rfl, HE.out, HL.out⟩
set_option maxRecDepth 100000 in
set_option maxHeartbeats 4000000 in
theorem laidStake (gb m gn c : Nat) (ns : List NumD) (w : World) (_hm : m ≤ 2000) (hns : ns.length ≤ 10) (hgn : gn < w.heap.size) (hc : ∀ (i : Nat) (d : NumD), ns[i]? = some d → w.cell? ⟨gn, i * 2, none⟩ = some (.func (.func d.rf) #[] #[.pointer (some ⟨d.bx, 0, none⟩)]) ∧ w.cell? ⟨gn, i * 2 + 1, none⟩ = some (.func (.func d.wf) #[] #[.pointer (some ⟨d.bx, 0, none⟩)])) :
    Calls Tryz.prog 45 #[.pointer (some ⟨gb, 1, none⟩), .int .i64 (m : Int), .slice (some ⟨gn, 0, none⟩) ns.length c] w fun e w' => ∃ v fs, e = .returned v ∧ fs.length = ns.length ∧ LaidS 110 112 104 100 m gb 1 ns w v fs w' := by
  obtain ⟨i0, hi0, hz0, hz1, hz2⟩ := info_parts infoF
  have HC := Lib.hid hc
  have HL0 := Lib.hid (show LaidS 110 112 104 100 m gb 1 ns w (.slice none 0 0) [] (w.alloc (.cells #[.pointer (some ⟨gb, 1, none⟩)] 100)) from
    ⟨⟨rfl, .inl ⟨rfl, rfl⟩⟩, (Below.refl _ w).alloc (Nat.le_refl _) _, heap_alloc_new w _, fun i f d h => by simp at h⟩)
  clear hc
  go_enter Tryz.func45, Tryz.ntmps45
  go_upto_region 3 with (fail)
  go_loopw [7, 12] (fun v7 vi W => ∃ (i : Nat) (fs : List Fld), vi = .int .i64 (i : Int) ∧ i ≤ ns.length ∧ fs.length = i ∧ LaidS 110 112 104 100 m gb 1 ns w v7 fs W) (fun _ vi _ => ns.length - (intOf vi).toNat)
  case atStart => exact ⟨0, [], rfl, Nat.zero_le _, rfl, HL0.out⟩
  case round =>
    obtain ⟨i, fs, rfl, hi, hfl, hls⟩ := hrel
    have HL := Lib.hid hls
    have HFL := Lib.hid hfl
    clear hls HL0 hfl
    by_cases hlt : i < ns.length
    · obtain ⟨d, hd⟩ : ∃ d, ns[i]? = some d := ⟨ns[i], by simp [hlt]⟩
      obtain ⟨hc0, hc1⟩ := HC.out i d hd
      have k0 := (HL.out.lo.cell (p := ⟨gn, i * 2, none⟩) hgn).trans hc0
      have k1 := (HL.out.lo.cell (p := ⟨gn, i * 2 + 1, none⟩) hgn).trans hc1
      clear hc0 hc1
      go_upto_region 5 with (fail)
      obtain ⟨fld, hfd⟩ : ∃ x : Fld, x = ⟨m, 110, #[ptrV w.heap.size, ptrV (wr.heap.size + 1)], 112, #[ptrV wr.heap.size, ptrV w.heap.size, ptrV (wr.heap.size + 1)]⟩ := ⟨_, rfl⟩
      refine at_world (Φ := fun W => Below wr.heap.size wr W ∧ (∀ d', ns[fs.length]? = some d' → IsFld 110 112 104 m w.heap.size fs.length d' W fld)) ⟨((Below.refl _ _).alloc (Nat.le_refl _) _).alloc (by simp) _, fun d' hd' => ?_⟩ ?_
      · rw [HFL.out, hd] at hd'
        obtain rfl : d = d' := Option.some.inj hd'
        have h2 := heap_alloc_new (wr.alloc (.cells #[.int .i64 (i : Int)] 3)) (.cells (numV d.rf d.wf d.bx) 104)
        rw [World.size_alloc] at h2
        exact ⟨wr.heap.size + 1, wr.heap.size, hfd, h2, by rw [HFL.out]; exact (Below.heap_alloc _ _ _ (by simp)).trans (heap_alloc_new wr _)⟩
      rintro W1 ⟨hb1, hf1⟩
      have HB1 := Lib.hid hb1
      have HF1 := Lib.hid hf1
      have HX := Lib.hid (show fld.cells = [.int .i64 (m : Int), .func (.func 110) #[] #[ptrV w.heap.size, ptrV (wr.heap.size + 1)], .func (.func 112) #[] #[ptrV wr.heap.size, ptrV w.heap.size, ptrV (wr.heap.size + 1)]] by rw [hfd]; rfl)
      have HO := Lib.hid (one_fld fld)
      rw [HX.out] at HO
      have b1 : fs.length + 1 ≤ maxLen := by unfold maxLen; have := HFL.out; omega
      have b2 : (fs.length + 1) * 24 ≤ 140737488355328 := by have := HFL.out; omega
      have hsz := Nat.le_trans HL.out.lo.size hb1.size
      have HOW := Lib.hid (own_below' HL.out.own hb1)
      have hwl := Nat.lt_of_lt_of_le (lt_of_blk HL.out.box) hb1.size
      clear hb1 hf1 hfd hd k0 k1 hsz
      go_wp2_with (at_builtin; refine wpList_append_own _ rfl _ _ 51 rfl (w.heap.size + 1) 57 i0 (.agg #[.int .i64 0, .nilFunc, .nilFunc]) 3 24 Tryz.underlying51 hi0 hz0 hz1 hz2 rfl (by decide) _ _ _ rfl (HOW.out.alloc _) ⟨W1.heap.size, 0, none⟩ 1 1 [.int .i64 (m : Int), .func (.func 110) #[] #[ptrV w.heap.size, ptrV (wr.heap.size + 1)], .func (.func 112) #[] #[ptrV wr.heap.size, ptrV w.heap.size, ptrV (wr.heap.size + 1)]] rfl rfl (new_cells _ _ _) HO.out b1 b2 (by rw [World.size_alloc]; omega) ?_; intro v' w3 hown hgrow _; have HA := Lib.hid (HL.out.app HB1.out (by decide) HF1.out (by rw [HX.out]; exact hown) hgrow); clear hown hgrow)
      go_roundw
      case rel => exact ⟨i + 1, fs ++ [fld], by go_num, hlt, by rw [List.length_append, HFL.out]; rfl, HA.out⟩
      case measure => simp [intOf]; omega
    · have HE := Lib.hid (show fs.length = ns.length by rw [HFL.out]; omega)
      obtain ⟨u, hu⟩ : ∃ u, ns.length = u := ⟨_, rfl⟩
      go_wp2
      go_ret
      exact ⟨_, fs, rfl, HE.out, HL.out⟩
set_option maxRecDepth 100000 in
set_option maxHeartbeats 4000000 in
theorem laidOpen (gb m gn c : Nat) (ns : List NumD) (w : World) (_hm : m ≤ 2000) (hns : ns.length ≤ 10) (hgn : gn < w.heap.size) (hc : ∀ (i : Nat) (d : NumD), ns[i]? = some d → w.cell? ⟨gn, i * 2, none⟩ = some (.func (.func d.rf) #[] #[.pointer (some ⟨d.bx, 0, none⟩)]) ∧ w.cell? ⟨gn, i * 2 + 1, none⟩ = some (.func (.func d.wf) #[] #[.pointer (some ⟨d.bx, 0, none⟩)])) :
    Calls Tryz.prog 50 #[.pointer (some ⟨gb, 2, none⟩), .int .i64 (m : Int), .slice (some ⟨gn, 0, none⟩) ns.length c] w fun e w' => ∃ v fs, e = .returned v ∧ fs.length = ns.length ∧ LaidS 116 118 113 109 m gb 2 ns w v fs w' := by
  obtain ⟨i0, hi0, hz0, hz1, hz2⟩ := info_parts infoF
  have HC := Lib.hid hc
  have HL0 := Lib.hid (show LaidS 116 118 113 109 m gb 2 ns w (.slice none 0 0) [] (w.alloc (.cells #[.pointer (some ⟨gb, 2, none⟩)] 109)) from
    ⟨⟨rfl, .inl ⟨rfl, rfl⟩⟩, (Below.refl _ w).alloc (Nat.le_refl _) _, heap_alloc_new w _, fun i f d h => by simp at h⟩)
  clear hc
  go_enter Tryz.func50, Tryz.ntmps50
  go_upto_region 3 with (fail)
  go_loopw [7, 12] (fun v7 vi W => ∃ (i : Nat) (fs : List Fld), vi = .int .i64 (i : Int) ∧ i ≤ ns.length ∧ fs.length = i ∧ LaidS 116 118 113 109 m gb 2 ns w v7 fs W) (fun _ vi _ => ns.length - (intOf vi).toNat)
  case atStart => exact ⟨0, [], rfl, Nat.zero_le _, rfl, HL0.out⟩
  case round =>
    obtain ⟨i, fs, rfl, hi, hfl, hls⟩ := hrel
    have HL := Lib.hid hls
    have HFL := Lib.hid hfl
    clear hls HL0 hfl
    by_cases hlt : i < ns.length
    · obtain ⟨d, hd⟩ : ∃ d, ns[i]? = some d := ⟨ns[i], by simp [hlt]⟩
      obtain ⟨hc0, hc1⟩ := HC.out i d hd
      have k0 := (HL.out.lo.cell (p := ⟨gn, i * 2, none⟩) hgn).trans hc0
      have k1 := (HL.out.lo.cell (p := ⟨gn, i * 2 + 1, none⟩) hgn).trans hc1
      clear hc0 hc1
      go_upto_region 5 with (fail)
      obtain ⟨fld, hfd⟩ : ∃ x : Fld, x = ⟨m, 116, #[ptrV w.heap.size, ptrV (wr.heap.size + 1)], 118, #[ptrV wr.heap.size, ptrV w.heap.size, ptrV (wr.heap.size + 1)]⟩ := ⟨_, rfl⟩
      refine at_world (Φ := fun W => Below wr.heap.size wr W ∧ (∀ d', ns[fs.length]? = some d' → IsFld 116 118 113 m w.heap.size fs.length d' W fld)) ⟨((Below.refl _ _).alloc (Nat.le_refl _) _).alloc (by simp) _, fun d' hd' => ?_⟩ ?_
      · rw [HFL.out, hd] at hd'
        obtain rfl : d = d' := Option.some.inj hd'
        have h2 := heap_alloc_new (wr.alloc (.cells #[.int .i64 (i : Int)] 3)) (.cells (numV d.rf d.wf d.bx) 113)
        rw [World.size_alloc] at h2
        exact ⟨wr.heap.size + 1, wr.heap.size, hfd, h2, by rw [HFL.out]; exact (Below.heap_alloc _ _ _ (by simp)).trans (heap_alloc_new wr _)⟩
      rintro W1 ⟨hb1, hf1⟩
      have HB1 := Lib.hid hb1
      have HF1 := Lib.hid hf1
      have HX := Lib.hid (show fld.cells = [.int .i64 (m : Int), .func (.func 116) #[] #[ptrV w.heap.size, ptrV (wr.heap.size + 1)], .func (.func 118) #[] #[ptrV wr.heap.size, ptrV w.heap.size, ptrV (wr.heap.size + 1)]] by rw [hfd]; rfl)
      have HO := Lib.hid (one_fld fld)
      rw [HX.out] at HO
      have b1 : fs.length + 1 ≤ maxLen := by unfold maxLen; have := HFL.out; omega
      have b2 : (fs.length + 1) * 24 ≤ 140737488355328 := by have := HFL.out; omega
      have hsz := Nat.le_trans HL.out.lo.size hb1.size
      have HOW := Lib.hid (own_below' HL.out.own hb1)
      have hwl := Nat.lt_of_lt_of_le (lt_of_blk HL.out.box) hb1.size
      clear hb1 hf1 hfd hd k0 k1 hsz
      go_wp2_with (at_builtin; refine wpList_append_own _ rfl _ _ 51 rfl (w.heap.size + 1) 57 i0 (.agg #[.int .i64 0, .nilFunc, .nilFunc]) 3 24 Tryz.underlying51 hi0 hz0 hz1 hz2 rfl (by decide) _ _ _ rfl (HOW.out.alloc _) ⟨W1.heap.size, 0, none⟩ 1 1 [.int .i64 (m : Int), .func (.func 116) #[] #[ptrV w.heap.size, ptrV (wr.heap.size + 1)], .func (.func 118) #[] #[ptrV wr.heap.size, ptrV w.heap.size, ptrV (wr.heap.size + 1)]] rfl rfl (new_cells _ _ _) HO.out b1 b2 (by rw [World.size_alloc]; omega) ?_; intro v' w3 hown hgrow _; have HA := Lib.hid (HL.out.app HB1.out (by decide) HF1.out (by rw [HX.out]; exact hown) hgrow); clear hown hgrow)
      go_roundw
      case rel => exact ⟨i + 1, fs ++ [fld], by go_num, hlt, by rw [List.length_append, HFL.out]; rfl, HA.out⟩
      case measure => simp [intOf]; omega
    · have HE := Lib.hid (show fs.length = ns.length by rw [HFL.out]; omega)
      obtain ⟨u, hu⟩ : ∃ u, ns.length = u := ⟨_, rfl⟩
      go_wp2
      go_ret
      exact ⟨_, fs, rfl, HE.out, HL.out⟩
set_option maxRecDepth 100000 in
set_option maxHeartbeats 4000000 in
theorem laidRate (gb m gn c : Nat) (ns : List NumD) (w : World) (_hm : m ≤ 2000) (hns : ns.length ≤ 10) (hgn : gn < w.heap.size) (hc : ∀ (i : Nat) (d : NumD), ns[i]? = some d → w.cell? ⟨gn, i * 2, none⟩ = some (.func (.func d.rf) #[] #[.pointer (some ⟨d.bx, 0, none⟩)]) ∧ w.cell? ⟨gn, i * 2 + 1, none⟩ = some (.func (.func d.wf) #[] #[.pointer (some ⟨d.bx, 0, none⟩)])) :
    Calls Tryz.prog 59 #[.pointer (some ⟨gb, 3, none⟩), .int .i64 (m : Int), .slice (some ⟨gn, 0, none⟩) ns.length c] w fun e w' => ∃ v fs, e = .returned v ∧ fs.length = ns.length ∧ LaidS 124 126 125 121 m gb 3 ns w v fs w' := by
  obtain ⟨i0, hi0, hz0, hz1, hz2⟩ := info_parts infoF
  have HC := Lib.hid hc
  have HL0 := Lib.hid (show LaidS 124 126 125 121 m gb 3 ns w (.slice none 0 0) [] (w.alloc (.cells #[.pointer (some ⟨gb, 3, none⟩)] 121)) from
    ⟨⟨rfl, .inl ⟨rfl, rfl⟩⟩, (Below.refl _ w).alloc (Nat.le_refl _) _, heap_alloc_new w _, fun i f d h => by simp at h⟩)
  clear hc
  go_enter Tryz.func59, Tryz.ntmps59
  go_upto_region 3 with (fail)
  go_loopw [7, 12] (fun v7 vi W => ∃ (i : Nat) (fs : List Fld), vi = .int .i64 (i : Int) ∧ i ≤ ns.length ∧ fs.length = i ∧ LaidS 124 126 125 121 m gb 3 ns w v7 fs W) (fun _ vi _ => ns.length - (intOf vi).toNat)
  case atStart => exact ⟨0, [], rfl, Nat.zero_le _, rfl, HL0.out⟩
  case round =>
    obtain ⟨i, fs, rfl, hi, hfl, hls⟩ := hrel
    have HL := Lib.hid hls
    have HFL := Lib.hid hfl
    clear hls HL0 hfl
    by_cases hlt : i < ns.length
    · obtain ⟨d, hd⟩ : ∃ d, ns[i]? = some d := ⟨ns[i], by simp [hlt]⟩
      obtain ⟨hc0, hc1⟩ := HC.out i d hd
      have k0 := (HL.out.lo.cell (p := ⟨gn, i * 2, none⟩) hgn).trans hc0
      have k1 := (HL.out.lo.cell (p := ⟨gn, i * 2 + 1, none⟩) hgn).trans hc1
      clear hc0 hc1
      go_upto_region 5 with (fail)
      obtain ⟨fld, hfd⟩ : ∃ x : Fld, x = ⟨m, 124, #[ptrV w.heap.size, ptrV (wr.heap.size + 1)], 126, #[ptrV wr.heap.size, ptrV w.heap.size, ptrV (wr.heap.size + 1)]⟩ := ⟨_, rfl⟩
      refine at_world (Φ := fun W => Below wr.heap.size wr W ∧ (∀ d', ns[fs.length]? = some d' → IsFld 124 126 125 m w.heap.size fs.length d' W fld)) ⟨((Below.refl _ _).alloc (Nat.le_refl _) _).alloc (by simp) _, fun d' hd' => ?_⟩ ?_
      · rw [HFL.out, hd] at hd'
        obtain rfl : d = d' := Option.some.inj hd'
        have h2 := heap_alloc_new (wr.alloc (.cells #[.int .i64 (i : Int)] 3)) (.cells (numV d.rf d.wf d.bx) 125)
        rw [World.size_alloc] at h2
        exact ⟨wr.heap.size + 1, wr.heap.size, hfd, h2, by rw [HFL.out]; exact (Below.heap_alloc _ _ _ (by simp)).trans (heap_alloc_new wr _)⟩
      rintro W1 ⟨hb1, hf1⟩
      have HB1 := Lib.hid hb1
      have HF1 := Lib.hid hf1
      have HX := Lib.hid (show fld.cells = [.int .i64 (m : Int), .func (.func 124) #[] #[ptrV w.heap.size, ptrV (wr.heap.size + 1)], .func (.func 126) #[] #[ptrV wr.heap.size, ptrV w.heap.size, ptrV (wr.heap.size + 1)]] by rw [hfd]; rfl)
      have HO := Lib.hid (one_fld fld)
      rw [HX.out] at HO
      have b1 : fs.length + 1 ≤ maxLen := by unfold maxLen; have := HFL.out; omega
      have b2 : (fs.length + 1) * 24 ≤ 140737488355328 := by have := HFL.out; omega
      have hsz := Nat.le_trans HL.out.lo.size hb1.size
      have HOW := Lib.hid (own_below' HL.out.own hb1)
      have hwl := Nat.lt_of_lt_of_le (lt_of_blk HL.out.box) hb1.size
      clear hb1 hf1 hfd hd k0 k1 hsz
      go_wp2_with (at_builtin; refine wpList_append_own _ rfl _ _ 51 rfl (w.heap.size + 1) 57 i0 (.agg #[.int .i64 0, .nilFunc, .nilFunc]) 3 24 Tryz.underlying51 hi0 hz0 hz1 hz2 rfl (by decide) _ _ _ rfl (HOW.out.alloc _) ⟨W1.heap.size, 0, none⟩ 1 1 [.int .i64 (m : Int), .func (.func 124) #[] #[ptrV w.heap.size, ptrV (wr.heap.size + 1)], .func (.func 126) #[] #[ptrV wr.heap.size, ptrV w.heap.size, ptrV (wr.heap.size + 1)]] rfl rfl (new_cells _ _ _) HO.out b1 b2 (by rw [World.size_alloc]; omega) ?_; intro v' w3 hown hgrow _; have HA := Lib.hid (HL.out.app HB1.out (by decide) HF1.out (by rw [HX.out]; exact hown) hgrow); clear hown hgrow)
      go_roundw
      case rel => exact ⟨i + 1, fs ++ [fld], by go_num, hlt, by rw [List.length_append, HFL.out]; rfl, HA.out⟩
      case measure => simp [intOf]; omega
    · have HE := Lib.hid (show fs.length = ns.length by rw [HFL.out]; omega)
      obtain ⟨u, hu⟩ : ∃ u, ns.length = u := ⟨_, rfl⟩
      go_wp2
      go_ret
      exact ⟨_, fs, rfl, HE.out, HL.out⟩
end Go.Proofs.YtnhljfhpfpfniaaGreat

namespace Go.Proofs.YtnhljfhpfpfniaaGreat
open Go.RowKit Base Base2

theorem flatF_oneS : ∀ {l : List Fld}, ∀ u ∈ flatF l, u.oneCell' = true := by
  intro l u hu
  unfold flatF at hu
  obtain ⟨y, hy, hu⟩ := List.mem_flatten.1 hu
  obtain ⟨x, _, rfl⟩ := List.mem_map.1 hy
  exact one_fld x u hu
/-- A row of fields, as it lies. -/
def RowsF (W : World) (a : Option Addr) (l : List Fld) : Prop := l = [] ∨ ∃ b off, a = some ⟨b, off, none⟩ ∧ b < W.heap.size ∧ ∀ (m : Nat) (u : Value), (flatF l)[m]? = some u → W.cell? ⟨b, off + m, none⟩ = some u
theorem RowsF.below {W W' : World} {a : Option Addr} {l : List Fld} (h : RowsF W a l) (hb : Below W.heap.size W W') : RowsF W' a l := by
  rcases h with h | ⟨b, off, rfl, h1, h2⟩
  · exact .inl h
  · exact .inr ⟨b, off, rfl, Nat.lt_of_lt_of_le h1 hb.size, fun m u hu => (hb.cell (p := ⟨b, off + m, none⟩) h1).trans (h2 m u hu)⟩
theorem rowsF_own {W : World} {base : Nat} {T : TypeId} {v : Value} {l : List Fld} (h : W.ownsRow base T 3 v l.length (flatF l)) : ∃ a c, v = .slice a l.length c ∧ RowsF W a l := by
  have h0 := h
  rcases h.2 with ⟨rfl, hn⟩ | ⟨g, cap, cur, rfl, a1, a2, a3, a4, a5, a6⟩
  · exact ⟨none, 0, by rw [hn], .inl (List.eq_nil_of_length_eq_zero hn)⟩
  · refine ⟨_, _, rfl, .inr ⟨g, 0, rfl, (Array.getElem?_eq_some_iff.1 a2).1, fun m u hu => ?_⟩⟩
    have := h0.cells (g := g) rfl m _ hu
    rw [Addr.add_mid] at this
    exact this
theorem append_noneF {P : Program} {w : World} (base c : Nat) (t ty e : TypeId) (i : TypeInfo) (size : Nat) (ht : P.underlying t = some (.slice e)) (hi : P.info? e = some i) (v : Value) (n : Nat) (xs : List Value) (hown : w.ownsRow base e size v n xs) :
    (Builtin.append_ #[t, t] ty #[v, .slice none 0 c]).run P w = .ok v w := by
  rcases hown.2 with ⟨rfl, rfl⟩ | ⟨g, cap, cur, rfl, _, _, hnc, _⟩
  · simp [Builtin.append_, run_underlying ht, sizeOf, typeInfo, hi, Builtin.lenOf, Builtin.firstCells]
  · simp [Builtin.append_, run_underlying ht, sizeOf, typeInfo, hi, Builtin.lenOf, Builtin.firstCells, hnc, storeCells]
theorem grownF_refl (w : World) (r : Option Nat) : w.grownBy w r := ⟨rfl, rfl, rfl, Nat.le_refl _, fun _ _ _ => rfl⟩
theorem app_partF {P : Program} {T E : TypeId} {i0 : TypeInfo} {z0 : Value} {bytes : Nat} (hT : P.underlying T = some (.slice E)) (hi : P.info? E = some i0) (hz : i0.zero = some z0) (hs : i0.size = 3) (hb : i0.bytes = bytes) (hzs : z0.cells.size = 3) (ty : TypeId)
    {B : Nat} {W : World} {v : Value} {n : Nat} {xs : List Value} (hown : W.ownsRow B E 3 v n xs) (hB : B ≤ W.heap.size) {a : Option Addr} {c : Nat} {l : List Fld} (hr : RowsF W a l)
    (h63 : n + l.length ≤ maxLen) (hby : (n + l.length) * bytes ≤ 140737488355328) :
    ∃ v' w', (Builtin.append_ #[T, T] ty #[v, .slice a l.length c]).run P W = .ok v' w' ∧ w'.ownsRow B E 3 v' (n + l.length) (xs ++ flatF l) ∧ W.grownBy w' v.ownBlock := by
  cases a with
  | none =>
    have hl : l = [] := by
      rcases hr with h | ⟨b, off, h, _⟩
      · exact h
      · cases h
    subst hl
    exact ⟨v, W, append_noneF B c T ty E i0 3 hT hi v n xs hown, by simpa [flatF] using hown, grownF_refl _ _⟩
  | some ad =>
    obtain ⟨v', w', h1, h2, h3, _⟩ := run_append_own (P := P) (w := W) B T ty E i0 z0 3 bytes hT hi hz hs hb hzs (by decide) v n xs hown ad l.length c (flatF l) (flatF_len l) (fun j u hu => by
      rcases hr with rfl | ⟨b, off, hab, _, h⟩
      · simp [flatF] at hu
      · obtain rfl : ad = ⟨b, off, none⟩ := by simpa using hab
        rw [Addr.add_mid]
        exact h j u hu) flatF_oneS h63 hby hB
    exact ⟨v', w', h1, h2, h3⟩
/-- A row of fields that is being made. -/
structure SetF (B : Nat) (W0 : World) (o : List Fld) (v : Value) (W : World) : Prop where
  row : W.ownsRow B 57 3 v o.length (flatF o)
  lo : Below B W0 W
  sz : B ≤ W.heap.size
theorem SetF.nil {B : Nat} {W0 : World} (h : B ≤ W0.heap.size) : SetF B W0 [] (.slice none 0 0) W0 := ⟨⟨by simp [flatF], .inl ⟨rfl, rfl⟩⟩, Below.refl _ _, h⟩
theorem SetF.appG {B : Nat} {W0 : World} {o l : List Fld} {v v' : Value} {W w2 : World} (h : SetF B W0 o v W) (hr : w2.ownsRow B 57 3 v' (o.length + l.length) (flatF o ++ flatF l)) (hg : W.grownBy w2 v.ownBlock) : SetF B W0 (o ++ l) v' w2 :=
  ⟨by rw [flatF_app, List.length_append]; exact hr, h.lo.grown hg h.sz (own_block_ge h.row), Nat.le_trans h.sz hg.size⟩
/-- Rows of fields that are put one behind the other. -/
structure PartF where
  a : Option Addr
  c : Nat
  l : List Fld
def catF (ps : List PartF) : List Fld := (ps.map PartF.l).flatten
theorem catF_next {ps : List PartF} {i : Nat} {p : PartF} (h : ps[i]? = some p) : catF (ps.take (i + 1)) = catF (ps.take i) ++ p.l := by
  unfold catF
  rw [List.take_add_one, h]; simp
theorem catF_all {ps : List PartF} {i : Nat} (h : ps.length ≤ i) : catF (ps.take i) = catF ps := by rw [List.take_of_length_le h]
theorem catF_le (ps : List PartF) (i : Nat) : (catF (ps.take i)).length ≤ (catF ps).length := by
  have h : catF ps = catF (ps.take i) ++ catF (ps.drop i) := by
    unfold catF
    rw [← List.flatten_append, ← List.map_append, List.take_append_drop]
  rw [h, List.length_append]; omega
set_option maxRecDepth 100000 in
set_option maxHeartbeats 4000000 in
theorem growField (n : Nat) (w : World) (hn : n ≤ 3000) : Calls Tryz.prog 103 #[.slice none 0 0, .int .i64 (n : Int)] w fun e w' => ∃ v, e = .returned v ∧ SetF w.heap.size w [] v w' := by
  by_cases h0 : n = 0
  · subst h0
    go_enter Tryz.func103, Tryz.ntmps103
    go_wp2
    go_ret
    exact ⟨_, rfl, SetF.nil (Nat.le_refl _)⟩
  · obtain ⟨i0, hi0, hz0, hz1, hz2⟩ := info_parts infoF
    have hap := Lib.run_append_nil_zeros (P := Tryz.prog) w 51 3 51 57 i0 _ .i64 .i64 Tryz.underlying51 Tryz.underlying3 hi0 hz0 n (by omega) (by rw [hz1]; decide) (by omega) (by rw [hz2]; omega)
    have hC1 := grownCap_ge w n 0 57
    have hC2 := grownCap_le_maxLen w n 0 57 (by unfold maxLen; omega)
    have hcs : (Builtin.zeroCells (Value.agg #[.int .i64 0, .nilFunc, .nilFunc]).cells n ++ Builtin.zeroCells (Value.agg #[.int .i64 0, .nilFunc, .nilFunc]).cells (grownCap w n 0 57 - n)).size = grownCap w n 0 57 * 3 := by
      rw [Array.size_append, size_zeroCells, size_zeroCells, show (Value.agg #[.int .i64 0, .nilFunc, .nilFunc]).cells.size = 3 from rfl]; omega
    generalize grownCap w n 0 57 = C at *
    generalize (Builtin.zeroCells (Value.agg #[.int .i64 0, .nilFunc, .nilFunc]).cells n ++ Builtin.zeroCells (Value.agg #[.int .i64 0, .nilFunc, .nilFunc]).cells (C - n)) = CU at *
    have hS := Lib.hid (show SetF w.heap.size w [] (.slice (some ⟨w.heap.size, 0, none⟩) 0 C) (w.drew.alloc (.cells CU 57)) from
      ⟨by have h := World.ownsRow_made (base := w.heap.size) (size := 3) (e := 57) w.drew CU C (Nat.le_refl _) hC2 hcs; simpa [flatF] using h, (below_drewN' (Below.refl _ w) 1).alloc (Nat.le_refl _) _, by simp⟩)
    have hC0 : ¬ C = 0 := by omega
    clear hcs hC1 hC2
    go_enter Tryz.func103, Tryz.ntmps103
    go_wp2_with (at_builtin; refine Lib.wpList_append_run _ rfl _ _ _ _ rfl _ _ rfl rfl _ _ hap ?_)
    go_ret
    exact ⟨_, rfl, hS.out⟩
set_option maxRecDepth 100000 in
set_option maxHeartbeats 8000000 in
theorem concatField (g c0 : Nat) (ps : List PartF) (w : World) (hg : g < w.heap.size) (hc : ∀ (i : Nat) (p : PartF), ps[i]? = some p → w.cell? ⟨g, i, none⟩ = some (.slice p.a p.l.length p.c)) (hr : ∀ p ∈ ps, RowsF w p.a p.l) (hl : (catF ps).length ≤ 1500) (hps : ps.length ≤ 10) :
    Calls Tryz.prog 38 #[.slice (some ⟨g, 0, none⟩) ps.length c0] w fun e w' => ∃ v, e = .returned v ∧ SetF w.heap.size w (catF ps) v w' := by
  obtain ⟨i0, hi0, hz0, hz1, hz2⟩ := info_parts infoF
  have HC := Lib.hid (fun (i : Nat) (p : PartF) (h : ps[i]? = some p) (W : World) (hb : Below w.heap.size w W) => (hb.cell (p := ⟨g, i, none⟩) hg).trans (hc i p h))
  have HR := Lib.hid (fun (i : Nat) (p : PartF) (h : ps[i]? = some p) (W : World) (hb : Below w.heap.size w W) => (hr p (List.mem_of_getElem? h)).below hb)
  have HN := Lib.hid (fun (i : Nat) (p : PartF) (h : ps[i]? = some p) => catF_next h)
  have HL := Lib.hid (fun i => Nat.le_trans (catF_le ps i) hl)
  clear hc hr
  go_enter Tryz.func38, Tryz.ntmps38
  go_wp2
  go_loopw [3, 11] (fun vs vi W => ∃ i : Nat, vi = .int .i64 (i : Int) ∧ i ≤ ps.length ∧ vs = .int .i64 ((catF (ps.take i)).length : Int) ∧ W = w) (fun _ vi _ => ps.length - (intOf vi).toNat)
  case atStart => exact ⟨0, rfl, Nat.zero_le _, rfl, rfl⟩
  case round =>
    obtain ⟨i, rfl, hi, rfl, hw⟩ := hrel
    obtain rfl := hw.symm
    by_cases hlt : i < ps.length
    · obtain ⟨p, hp⟩ : ∃ p, ps[i]? = some p := ⟨ps[i], by simp [hlt]⟩
      have k0 := HC.out i p hp w (Below.refl _ _)
      have e1 := HL.out (i + 1)
      have hn := HN.out i p hp
      rw [hn, List.length_append] at e1
      have HNN := Lib.hid (show ((catF (ps.take (i + 1))).length : Int) = ((catF (ps.take i)).length : Int) + (p.l.length : Int) by rw [hn, List.length_append]; omega)
      clear hn hp
      generalize (catF (ps.take i)).length = N at *
      go_wp2
      go_roundw
      case rel => exact ⟨i + 1, by go_num, hlt, by rw [HNN.out], by trivial⟩
      case measure => simp [intOf]; omega
    · have hall := catF_all (ps := ps) (i := i) (by omega)
      rw [hall]
      have HLL := Lib.hid hl
      have hl2 : (catF ps).length ≤ 3000 := by omega
      clear hall
      go_wp2_with (go_at_call 103; refine (growField _ _ hl2).mono ?_; rintro e y ⟨vy, rfl, hy⟩; have HY := Lib.hid hy; clear hy)
      go_loopw [6, 27] (fun vo vi W => ∃ i : Nat, vi = .int .i64 (i : Int) ∧ i ≤ ps.length ∧ SetF w.heap.size w (catF (ps.take i)) vo W) (fun _ vi _ => ps.length - (intOf vi).toNat)
      case atStart => exact ⟨0, rfl, Nat.zero_le _, HY.out⟩
      case round =>
        clear HY
        obtain ⟨j, rfl, hj, hst⟩ := hrel
        have HS := Lib.hid hst
        clear hst
        by_cases hlt : j < ps.length
        · obtain ⟨p, hp⟩ : ∃ p, ps[j]? = some p := ⟨ps[j], by simp [hlt]⟩
          have k0 := HC.out j p hp _ HS.out.lo
          have e1 := HL.out (j + 1)
          have hn := HN.out j p hp
          rw [hn, List.length_append] at e1
          obtain ⟨v', w', hap, hown, hgr⟩ := app_partF (P := Tryz.prog) Tryz.underlying51 hi0 hz0 hz1 hz2 (by decide) 51 HS.out.row HS.out.sz (c := p.c) (HR.out j p hp _ HS.out.lo) (by unfold maxLen; omega) (by omega)
          have HNX := Lib.hid (show SetF w.heap.size w (catF (ps.take (j + 1))) v' w' by rw [hn]; exact HS.out.appG hown hgr)
          clear hn hp hown hgr
          go_wp2_with (at_builtin; refine Lib.wpList_append_run _ rfl _ _ _ _ rfl _ _ rfl rfl _ _ hap ?_)
          go_roundw
          case rel => exact ⟨j + 1, by go_num, hlt, HNX.out⟩
          case measure => simp [intOf]; omega
        · have HE := Lib.hid (show SetF w.heap.size w (catF ps) _ _ by have h := HS.out; rw [catF_all (by omega)] at h; exact h)
          go_wp2
          go_ret
          exact ⟨_, rfl, HE.out⟩
end Go.Proofs.YtnhljfhpfpfniaaGreat
