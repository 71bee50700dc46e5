/- The document's key of constants in a box. -/
import Derived.Test.YtipaicfmodgcoaaDoorTreeHash
namespace Go.Proofs.YtipaicfmodgcoaaDoor
open Go.RowKit

theorem load_key {W : World} {g : Nat} {kc : Array Value} (hs : kc.size = 72) (h : W.heap[g]? = some (.cells kc 37 (0, 0))) : (Instr.loadAt 37 (.pointer (some ⟨g, 0, none⟩))).run Tryd.prog W = .ok (.agg kc) W := by
  have hr := World.rangeAt_of_block h 0 72
  have e : (kc.extract 0 (0 + 72)).toList = kc.toList := by
    rw [show 0 + 72 = kc.size by omega, Array.extract_size]
  rw [e] at hr
  have := load_at (P := Tryd.prog) W g 0 37 kc.toList _ hr Tryd.underlying37 rfl (by rw [info33]; simp [hs])
  simpa using this
/-- The key lies in its box. -/
def KeyS (w : World) (kc : Array Value) (W : World) : Prop := W.heap[w.heap.size]? = some (.cells kc 37 (0, 0)) ∧ Below w.heap.size w W ∧ w.heap.size < W.heap.size
theorem KeyS.below {w W W' : World} {kc : Array Value} (h : KeyS w kc W) (hb : Below W.heap.size W W') : KeyS w kc W' :=
  ⟨(hb.block _ h.2.2).trans h.1, h.2.1.trans (hb.mono (Nat.le_of_lt h.2.2)), Nat.lt_of_lt_of_le h.2.2 hb.size⟩
theorem KeyS.drew {w W : World} {kc : Array Value} (h : KeyS w kc W) : KeyS w kc W.drew := ⟨h.1, h.2.1.drew, h.2.2⟩
theorem KeyS.box (w : World) (kc : Array Value) : KeyS w kc (w.alloc (.cells kc 37)) := ⟨heap_alloc_new w _, (Below.refl _ w).alloc (Nat.le_refl _) _, by simp⟩
theorem KeyS.alloc {w W : World} {kc : Array Value} (h : KeyS w kc W) (o : Obj) : KeyS w kc (W.alloc o) :=
  ⟨(Below.heap_alloc _ _ _ h.2.2).trans h.1, h.2.1.alloc (Nat.le_of_lt h.2.2) _, by simp; have := h.2.2; omega⟩
theorem KeyS.grown {w W W' : World} {kc : Array Value} {r : Option Nat} (h : KeyS w kc W) (hg : W.grownBy W' r) (hr : ∀ k, r = some k → w.heap.size < k) : KeyS w kc W' :=
  ⟨(hg.block _ h.2.2 (fun e => by have := hr _ e.symm; omega)).trans h.1, h.2.1.grown hg (Nat.le_of_lt h.2.2) (fun k hk => Nat.le_of_lt (hr k hk)), Nat.lt_of_lt_of_le h.2.2 hg.size⟩
end Go.Proofs.YtipaicfmodgcoaaDoor
