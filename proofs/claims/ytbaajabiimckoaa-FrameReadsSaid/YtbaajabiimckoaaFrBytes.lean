/- Bytes of a text in memory: made, turned one by one, made a text again; a row of small numbers that comes in. -/
import Derived.Test.YtbaajabiimckoaaFrTorn
import Derived.Test.YtbaajabiimckoaaTreeMem
import Derived.Test.YtbaajabiimckoaaBase
namespace Go.Proofs.Ytbaajabiimckoaa
open Go.RowKit Base

/-- A slice's bytes: in a block of its own, which may be marked behind its capacity. -/
def BytesAt (W : World) (g cap : Nat) (l : List UInt8) : Prop :=
  ∃ cur fz, W.heap[g]? = some (.cells cur 5 fz) ∧ (fz = (0, 0) ∨ cap ≤ fz.1) ∧ cur.size = cap ∧ l.length ≤ cap ∧ cur.toList.take l.length = Lib.byteCells l
theorem BytesAt.lt {W : World} {g cap : Nat} {l : List UInt8} (h : BytesAt W g cap l) : g < W.heap.size := by
  obtain ⟨cur, fz, h1, _⟩ := h; exact lt_of_blk h1
theorem BytesAt.cell {W : World} {g cap : Nat} {l : List UInt8} (h : BytesAt W g cap l) (j : Nat) (hj : j < l.length) : W.cell? ⟨g, j, none⟩ = some (.int .u8 (l[j].toNat : Int)) := by
  obtain ⟨cur, fz, h1, h2, h3, h4, h5⟩ := h
  rw [cell_of_row W g j cur 5 fz h1, ← Array.getElem?_toList]
  have : (cur.toList.take l.length)[j]? = some (.int .u8 (l[j].toNat : Int)) := by rw [h5]; simp [Lib.byteCells, hj]
  rwa [List.getElem?_take, if_pos hj] at this
theorem BytesAt.free {W : World} {g cap : Nat} {l : List UInt8} (h : BytesAt W g cap l) (j : Nat) (hj : j < l.length) : W.frozen? ⟨g, j, none⟩ = false := by
  obtain ⟨cur, fz, h1, h2, h3, h4, h5⟩ := h
  rcases h2 with rfl | hf
  · simp [World.frozen?, h1]
  · simp [World.frozen?, h1]; omega
theorem BytesAt.set {W : World} {g cap : Nat} {l : List UInt8} (h : BytesAt W g cap l) (j : Nat) (b : UInt8) : BytesAt (W.setCell ⟨g, j, none⟩ (.int .u8 (b.toNat : Int))) g cap (l.set j b) := by
  obtain ⟨cur, fz, h1, h2, h3, h4, h5⟩ := h
  refine ⟨cur.setIfInBounds j (.int .u8 (b.toNat : Int)), fz, ?_, h2, by simp [h3], by simpa using h4, ?_⟩
  · simp [World.setCell, Array.getElem?_modify, h1]
  · rw [Array.toList_setIfInBounds, List.length_set, List.take_set, h5]
    simp [Lib.byteCells, List.map_set]
theorem BytesAt.text {W : World} {g cap : Nat} {l : List UInt8} (h : BytesAt W g cap l) : (convert 42 9 (.slice (some ⟨g, 0, none⟩) l.length cap)).run Try.prog W = .ok (.string (bytesB l)) W :=
  run_convert_bytes_back W 42 9 5 ⟨g, 0, none⟩ cap l Try.underlying42 Try.underlying5 Try.underlying9 (fun j hj => by rw [Addr.add_mid, Nat.zero_add]; exact h.cell j hj)
/-- '[]byte(s)'. -/
theorem bytesOf (W : World) (s : ByteArray) : ∃ cap w', (convert 9 42 (.string s)).run Try.prog W = .ok (.slice (some ⟨W.heap.size, 0, none⟩) s.size cap) w' ∧ BytesAt w' W.heap.size cap s.data.toList ∧ Below W.heap.size W w' := by
  have hr := run_bytes_of_string (P := Try.prog) W 9 42 5 s Try.underlying9 Try.underlying42 Try.underlying5
  have hge := grownCap_ge W s.size 0 5
  have hsl : s.data.toList.length = s.size := (Lib.size_eq s).symm
  refine ⟨_, _, hr, ⟨_, _, heap_alloc_new W.drew _, .inr ?_, ?_, by rw [hsl]; exact hge, ?_⟩, ((Below.refl _ W).drew.alloc (Nat.le_refl _) _)⟩
  · simp [bytesRow]; omega
  · simp [bytesRow]; omega
  · simp only [bytesRow, Array.toList_append]
    rw [List.take_append_of_le_length (by simp), List.take_of_length_le (by simp)]
    simp [Lib.byteCells]

/-- A row of numbers of 16 bits. -/
def KeptAt (W : World) (a : Option Addr) (l : List Nat) : Prop := (∀ k ∈ l, k < 65536) ∧ (l = [] ∨ ∃ b off, a = some ⟨b, off, none⟩ ∧ b < W.heap.size ∧ ∀ i (k : Nat), l[i]? = some k → W.cell? ⟨b, off + i, none⟩ = some (.int .u16 (k : Int)))
theorem KeptAt.below {W W' : World} {a : Option Addr} {l : List Nat} (h : KeptAt W a l) (hb : Below W.heap.size W W') : KeptAt W' a l := by
  refine ⟨h.1, ?_⟩
  rcases h.2 with h | ⟨b, off, rfl, h1, h2⟩
  · exact .inl h
  · exact .inr ⟨b, off, rfl, Nat.lt_of_lt_of_le h1 hb.size, fun i t hi => (hb.cell (p := ⟨b, off + i, none⟩) h1).trans (h2 i t hi)⟩
/-- The first j bytes are as the torn frame has them. -/
def tornTo (f : List UInt8) (k j : Nat) : List UInt8 := f.take k ++ List.replicate (j - k) 0 ++ f.drop j
theorem tornTo_start (f : List UInt8) (k : Nat) : tornTo f k k = f := by simp [tornTo]
theorem tornTo_end (f : List UInt8) (k : Nat) : tornTo f k f.length = tornL f k := by simp [tornTo, tornL]
theorem tornTo_len (f : List UInt8) (k j : Nat) (h1 : k ≤ j) (h2 : j ≤ f.length) : (tornTo f k j).length = f.length := by simp [tornTo]; omega
theorem tornTo_next (f : List UInt8) (k j : Nat) (h1 : k ≤ j) (h2 : j < f.length) : (tornTo f k j).set j 0 = tornTo f k (j + 1) := by
  unfold tornTo
  have l1 : (f.take k ++ List.replicate (j - k) (0 : UInt8)).length = j := by simp; omega
  rw [List.set_append_right _ _ (by omega), l1, Nat.sub_self, List.drop_eq_getElem_cons h2, List.set_cons_zero]
  rw [show j + 1 - k = (j - k) + 1 by omega, List.replicate_succ', ← List.append_assoc, List.append_assoc _ [0], List.singleton_append]
end Go.Proofs.Ytbaajabiimckoaa
