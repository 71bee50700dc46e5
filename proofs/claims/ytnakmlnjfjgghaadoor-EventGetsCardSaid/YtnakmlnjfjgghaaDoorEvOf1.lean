/- Contracts of the functions that point to the numbers of an event, a verdict, a pair: a new row of pointers. -/
import Derived.Test.YtnakmlnjfjgghaaDoorSmall
import Derived.Test.YtnakmlnjfjgghaaDoorBase
import Derived.BigRegion
import Derived.StillTailTactics
import Derived.Lib.SmallJoins
namespace Go.Proofs.YtnakmlnjfjgghaaDoor
open Go.RowKit Base

/-- The pointer to a number of the kind t. -/
def pt (t : TypeId) (b i : Nat) : Value := .iface t (.pointer (some ⟨b, i, none⟩))
def ptsE (b o : Nat) : List Value := [pt 67 b o, pt 72 b (o + 1), pt 72 b (o + 2), pt 72 b (o + 3), pt 67 b (o + 4), pt 72 b (o + 5), pt 72 b (o + 6)]
def ptsV (b o : Nat) : List Value := [pt 67 b o, pt 72 b (o + 1)]
/-- The kind of the pair's number i. -/
def kd (i : Nat) : TypeId := if i = 0 ∨ i = 4 ∨ i = 7 then 67 else 72
/-- Pointers to the first numbers. -/
def pts (b n : Nat) : List Value := (List.range n).map (fun i => pt (kd i) b i)
theorem ptsE0 (b : Nat) : ptsE b 0 = pts b 7 := rfl
theorem ptsV0 (b : Nat) : ptsV b 0 = pts b 2 := rfl
theorem ptsP (b : Nat) : ptsE b 0 ++ ptsV b 7 = pts b 9 := rfl

theorem own_new (w : World) (xs : List Value) (n : Nat) (T : TypeId) (h : xs.length = n) (hn : n ≤ 100) : ((w.alloc (.cells xs.toArray T)).drew).ownsRow w.heap.size T 1 (.slice (some ⟨w.heap.size, 0, none⟩) n n) n xs :=
  ⟨by rw [h, Nat.mul_one], .inr ⟨w.heap.size, n, xs.toArray, rfl, Nat.le_refl _, heap_alloc_new w _, Nat.le_refl _, by unfold maxLen; omega, by simp [h], by simp [← h]⟩⟩
set_option maxRecDepth 100000 in
theorem ofVerdict25 (b o : Nat) (w : World) (_hb : b < w.heap.size) :
    Calls Tryd.prog 25 #[.pointer (some ⟨b, o, none⟩)] w fun e w' => ∃ v, e = .returned v ∧ w'.ownsRow w.heap.size 20 1 v 2 (ptsV b o) ∧ Below w.heap.size w w' := by
  go_enter Tryd.func25, Tryd.ntmps25
  go_wp2
  go_region
  go_wp2
  go_ret
  exact ⟨_, rfl, own_new w (ptsV b o) 2 20 rfl (by omega), ((Below.refl _ w).alloc (Nat.le_refl _) _).drew⟩
set_option maxRecDepth 100000 in
theorem ofEvent24 (b o : Nat) (w : World) (_hb : b < w.heap.size) :
    Calls Tryd.prog 24 #[.pointer (some ⟨b, o, none⟩)] w fun e w' => ∃ v, e = .returned v ∧ w'.ownsRow w.heap.size 20 1 v 7 (ptsE b o) ∧ Below w.heap.size w w' := by
  go_enter Tryd.func24, Tryd.ntmps24
  go_wp2
  go_region
  go_wp2
  go_ret
  exact ⟨_, rfl, own_new w (ptsE b o) 7 20 rfl (by omega), ((Below.refl _ w).alloc (Nat.le_refl _) _).drew⟩

end Go.Proofs.YtnakmlnjfjgghaaDoor
