/- Bytes in digits of base 16: the contracts of Hex, the program's and the document's. -/
import Derived.Test.YtipaicfmodgcoaaDoorShaSum
namespace Go.Proofs.YtipaicfmodgcoaaDoor
open Go.RowKit

def hexS : ByteArray := ⟨#[48, 49, 50, 51, 52, 53, 54, 55, 56, 57, 97, 98, 99, 100, 101, 102]⟩
def hexD (n : Nat) : UInt8 := hexS.data.getD n 0
def hex1 (b : UInt8) : List UInt8 := [hexD (b.toNat / 16), hexD (b.toNat % 16)]
def hexB (l : List UInt8) : List UInt8 := l.flatMap hex1
theorem hexB_snoc (l : List UInt8) (b : UInt8) : hexB (l ++ [b]) = hexB l ++ hex1 b := by simp [hexB]
theorem hexB_len (l : List UInt8) : (hexB l).length = 2 * l.length := by
  induction l with
  | nil => rfl
  | cons b l ih => simp [hexB, hex1] at *; omega
theorem hex_index (d : Nat) (h : d < 16) (k : IntKind) (W : World) : (Instr.index 9 (.string ⟨#[48, 49, 50, 51, 52, 53, 54, 55, 56, 57, 97, 98, 99, 100, 101, 102]⟩) (.int k (d : Int))).run Tryd.prog W = .ok (.int .u8 ((hexD d).toNat : Int)) W := by
  have e : hexS[d]? = some (hexD d) := by
    have hs : hexS.size = 16 := rfl
    rw [getElem?_pos hexS d (by rw [hs]; exact h)]
    have h2 : d < hexS.data.size := h
    unfold hexD
    rw [Array.getD_eq_getD_getElem?, Array.getElem?_eq_getElem h2]
    rfl
  have h0 : (0 : Int) ≤ (d : Int) := by omega
  simp only [Instr.index, asIntOf, Sem.run_bind, Sem.run_pure, Result.andThen_ok, run_underlying Tryd.underlying9, if_pos h0, Int.toNat_natCast]
  show ((match hexS[d]? with | some b => pure (Value.int .u8 b.toNat) | none => _ : Sem Value)).run Tryd.prog W = _
  rw [e]
  rfl
theorem take_snoc (s : ByteArray) (k : Nat) (h : k < s.size) : s.data.toList.take (k + 1) = s.data.toList.take k ++ [s[k]] := by
  rw [List.take_succ_eq_append_getElem (by simpa using h)]; rfl
theorem two_cell_u8 (n m : Int) : ∀ u ∈ [Value.int .u8 n, Value.int .u8 m], u.oneCell' = true := by
  intro u hu; simp at hu; rcases hu with rfl | rfl <;> rfl
theorem new_two (W : World) (v x : Value) (T : TypeId) : ∀ (j : Nat) (u : Value), [v, x][j]? = some u → (W.alloc (.cells #[v, x] T)).cell? ((⟨W.heap.size, 0, none⟩ : Addr).add j) = some u := by
  intro j u hj
  have h := heap_alloc_new W (.cells #[v, x] T)
  rw [Addr.add_mid, cell_of_row _ _ _ _ T (0, 0) h]
  simpa using hj
theorem own_drew_alloc {w : World} {base : Nat} {v : Value} {n : Nat} {xs : List Value} (h : w.ownsRow base 5 1 v n xs) (o : Obj) : (w.drew.alloc o).ownsRow base 5 1 v n xs := World.ownsRow.alloc (w := w.drew) h o
def HexRel (w : World) (s : ByteArray) (v vi : Value) (W : World) : Prop :=
  ∃ i : Nat, i ≤ s.size ∧ vi = .int .i64 (i : Int) ∧ W.ownsRow w.heap.size 5 1 v (2 * i) (Lib.byteCells (hexB (s.data.toList.take i))) ∧ Below w.heap.size w W ∧ w.heap.size ≤ W.heap.size
theorem and15 (n : Nat) (h : n < 256) : bits .and .u8 (n : Int) 15 = ((n % 16 : Nat) : Int) := by
  rw [show (15 : Int) = ((15 : Nat) : Int) from rfl, u8_and_nat _ _ h (by omega), show (15 : Nat) = 2 ^ 4 - 1 from rfl, Nat.and_two_pow_sub_one_eq_mod]
end Go.Proofs.YtipaicfmodgcoaaDoor
