/- Rows of texts in memory; the contracts of sides, refusal, Great, Same. -/
import Derived.Test.YtipaicfmodgcoaaDoorTreeSplit
import Derived.Deep.Strs
import Derived.BigQuiet
import Derived.Laws.OwnMore
namespace Go.Proofs.YtipaicfmodgcoaaDoor
open Go.RowKit

/-- A row of texts from an address on. -/
def StrsAt (W : World) (a : Option Addr) (l : List ByteArray) : Prop := l = [] ∨ ∃ b off, a = some ⟨b, off, none⟩ ∧ b < W.heap.size ∧ ∀ i t, l[i]? = some t → W.cell? ⟨b, off + i, none⟩ = some (.string t)
theorem StrsAt.below {W W' : World} {a : Option Addr} {l : List ByteArray} (h : StrsAt W a l) (hb : Below W.heap.size W W') : StrsAt W' a l := by
  rcases h with h | ⟨b, off, rfl, h1, h2⟩
  · exact .inl h
  · exact .inr ⟨b, off, rfl, Nat.lt_of_lt_of_le h1 hb.size, fun i t hi => (hb.cell (p := ⟨b, off + i, none⟩) h1).trans (h2 i t hi)⟩
theorem StrsAt.some {W : World} {a : Option Addr} {l : List ByteArray} (h : StrsAt W a l) (hl : 1 ≤ l.length) : ∃ b off, a = some ⟨b, off, none⟩ ∧ b < W.heap.size ∧ ∀ i t, l[i]? = some t → W.cell? ⟨b, off + i, none⟩ = some (.string t) := by
  rcases h with rfl | h
  · simp at hl
  · exact h
theorem StrsAt.take {W : World} {b off : Nat} {l : List ByteArray} (h : StrsAt W (Option.some ⟨b, off, none⟩) l) (s : Nat) : StrsAt W (Option.some ⟨b, off, none⟩) (l.take s) := by
  rcases h with rfl | ⟨b', off', e, h1, h2⟩
  · exact .inl (by simp)
  · simp only [Option.some.injEq, Addr.mk.injEq, and_true] at e
    obtain ⟨rfl, rfl⟩ := e
    refine .inr ⟨b, off, rfl, h1, fun i t hi => h2 i t ?_⟩
    rw [List.getElem?_take] at hi
    by_cases hs : i < s
    · rwa [if_pos hs] at hi
    · rw [if_neg hs] at hi; cases hi
theorem StrsAt.drop {W : World} {b off : Nat} {l : List ByteArray} (h : StrsAt W (Option.some ⟨b, off, none⟩) l) (s : Nat) : StrsAt W (Option.some ⟨b, off + s, none⟩) (l.drop s) := by
  rcases h with rfl | ⟨b', off', e, h1, h2⟩
  · exact .inl (by simp)
  · simp only [Option.some.injEq, Addr.mk.injEq, and_true] at e
    obtain ⟨rfl, rfl⟩ := e
    refine .inr ⟨b, off + s, rfl, h1, fun i t hi => ?_⟩
    rw [List.getElem?_drop] at hi
    rw [Nat.add_assoc]
    exact h2 _ t hi

theorem sizeS (W : World) : (sizeOf 9).run Tryd.prog W = .ok 1 W := by kernel_rfl

/-- Why there is no tree. -/
def refS (len : Nat) (n : Int) : Int := if 1 ≤ n ∧ n ≤ 32 then (if 4096 < len then 4 else 0) else 1
theorem refS_arg {len : Nat} {n : Int} (h : ¬ (1 ≤ n ∧ n ≤ 32)) : refS len n = 1 := by unfold refS; rw [if_neg h]
theorem refS_many {len : Nat} {n : Int} (h : 1 ≤ n ∧ n ≤ 32) (h2 : 4096 < len) : refS len n = 4 := by unfold refS; rw [if_pos h, if_pos h2]
theorem refS_ok {len : Nat} {n : Int} (h : 1 ≤ n ∧ n ≤ 32) (h2 : ¬ 4096 < len) : refS len n = 0 := by unfold refS; rw [if_pos h, if_neg h2]
/-- Are leaves more than statements look at? -/
def greatS (l : List ByteArray) : Bool := decide (40 < l.length) || l.any (fun t => decide (200 < t.size))
theorem greatS_no {l : List ByteArray} (h : greatS l = false) : l.length ≤ 40 ∧ ∀ t ∈ l, t.size ≤ 200 := by
  unfold greatS at h
  simp only [Bool.or_eq_false_iff, decide_eq_false_iff_not, List.any_eq_false, decide_eq_true_eq] at h
  exact ⟨by omega, fun t ht => by have := h.2 t ht; omega⟩
theorem greatS_far {l : List ByteArray} (h : 40 < l.length) : greatS l = true := by unfold greatS; rw [decide_eq_true h]; rfl
theorem greatS_at {l : List ByteArray} {i : Nat} {t : ByteArray} (h : l[i]? = some t) (h2 : 200 < t.size) : greatS l = true := by
  unfold greatS
  rw [Bool.or_eq_true]
  exact .inr (List.any_eq_true.2 ⟨t, List.mem_of_getElem? h, by simpa using h2⟩)
theorem greatS_small {l : List ByteArray} (h : l.length ≤ 40) (h2 : ∀ (i : Nat) t, l[i]? = some t → t.size ≤ 200) : greatS l = false := by
  unfold greatS
  rw [Bool.or_eq_false_iff]
  refine ⟨by simpa using h, List.any_eq_false.2 fun t ht => ?_⟩
  obtain ⟨i, hi⟩ := List.mem_iff_getElem?.1 ht
  have := h2 i t hi
  simp; omega
end Go.Proofs.YtipaicfmodgcoaaDoor
