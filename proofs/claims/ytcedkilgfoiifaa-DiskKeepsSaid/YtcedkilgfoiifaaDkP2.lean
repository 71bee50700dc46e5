/- Rows of bytes of the program's own: more room, bytes copied in, bytes made of a text and back. -/
import Derived.Test.YtcedkilgfoiifaaDkP1
namespace Go.Proofs.Ytcedkilgfoiifaa
open Go.RowKit Base Base2

theorem setCells_block (b : Nat) : ∀ (vs : List Value) (o : Nat) (w : World) (k : Nat), k ≠ b → (w.setCells b o vs).heap[k]? = w.heap[k]?
  | [], _, _, _, _ => rfl
  | v :: r, o, w, k, h => by rw [World.setCells, setCells_block b r (o + 1) _ k h, Below.heap_setCell _ _ _ _ h]
theorem setCells_row (b : Nat) : ∀ (vs : List Value) (o : Nat) (w : World), (∃ cur fz, w.heap[b]? = some (.cells cur 5 fz)) → ∃ cur fz, (w.setCells b o vs).heap[b]? = some (.cells cur 5 fz)
  | [], _, _, h => h
  | v :: r, o, w, ⟨cur, fz, h⟩ => by
    rw [World.setCells]
    refine setCells_row b r (o + 1) _ ?_
    simp only [World.setCell, Array.getElem?_modify]
    simp only [if_true, h]
    exact ⟨_, _, rfl⟩
theorem setCells_world (b : Nat) : ∀ (vs : List Value) (o : Nat) (w : World), (w.setCells b o vs).os = w.os ∧ (w.setCells b o vs).tape = w.tape ∧ (w.setCells b o vs).output = w.output ∧ (w.setCells b o vs).heap.size = w.heap.size
  | [], _, _ => ⟨rfl, rfl, rfl, rfl⟩
  | v :: r, o, w => by
    rw [World.setCells]
    obtain ⟨h1, h2, h3, h4⟩ := setCells_world b r (o + 1) (w.setCell ⟨b, o, none⟩ v)
    exact ⟨h1, h2, h3, h4.trans (by simp [World.setCell])⟩
theorem setCells_grown (b o : Nat) (vs : List Value) (w : World) : w.grownBy (w.setCells b o vs) (some b) := by
  obtain ⟨h1, h2, h3, h4⟩ := setCells_world b vs o w
  exact ⟨h1, h2, h3, Nat.le_of_eq h4.symm, fun k _ hk => setCells_block b vs o w k (fun e => hk (by rw [e]))⟩
theorem BytsAt.set {W : World} {g : Nat × Nat} {t t' : ByteArray} (h : BytsAt W g t) (vs : List Value) (o : Nat) (hfit : o + vs.length ≤ g.2) (hle : t'.size ≤ g.2)
    (hget : ∀ j u, (Lib.byteCells t'.data.toList)[j]? = some u → if o ≤ j ∧ j < o + vs.length then vs[j - o]? = some u else (Lib.byteCells t.data.toList)[j]? = some u) : BytsAt (W.setCells g.1 o vs) g t' := by
  have hin := World.cell?_setCells_in g.1 vs o W (fun j hj => h.isc (o + j) (by omega))
  have hout := World.cell?_setCells_out g.1 vs o W
  refine ⟨setCells_row _ _ _ _ h.row, hle, h.max, fun j hj => ?_, fun j hj => ?_, fun j u hu => ?_⟩
  · by_cases hj2 : o ≤ j ∧ j < o + vs.length
    · have := hin (j - o) (by omega)
      rw [show o + (j - o) = j by omega] at this
      rw [this]; rfl
    · rw [hout ⟨g.1, j, none⟩ (fun _ _ => by simp; omega)]; exact h.isc j hj
  · rw [World.frozen?_setCells]; exact h.free j hj
  · have hu2 := hget j u hu
    by_cases hj2 : o ≤ j ∧ j < o + vs.length
    · rw [if_pos hj2] at hu2
      have := hin (j - o) (by omega)
      rw [show o + (j - o) = j by omega] at this
      rw [this, ← hu2, List.getElem?_eq_getElem]
    · rw [if_neg hj2] at hu2
      rw [hout ⟨g.1, j, none⟩ (fun _ _ => by simp; omega)]; exact h.get j u hu2
theorem bcell {l : List UInt8} {j : Nat} {u : Value} : (Lib.byteCells l)[j]? = some u ↔ ∃ b, l[j]? = some b ∧ u = .int .u8 (b.toNat : Int) := by
  simp only [Lib.byteCells, List.getElem?_map, Option.map_eq_some_iff]
  exact ⟨fun ⟨b, h1, h2⟩ => ⟨b, h1, h2.symm⟩, fun ⟨b, h1, h2⟩ => ⟨b, h1, h2.symm⟩⟩
theorem zcells (k : Nat) : (Builtin.zeroCells (Value.int .u8 0).cells k).toList = List.replicate k (.int .u8 0) := by
  apply List.ext_getElem?
  intro i
  have e : (Value.int .u8 0).cells = #[.int .u8 0] := rfl
  simp only [Builtin.zeroCells, e]
  simp only [List.getElem?_replicate]
  by_cases hi : i < k
  · simp [hi, Nat.mod_one]
  · simp [hi]
/-- How a slice of bytes that may be nil lies. -/
def valB (g : Nat × Nat) (s : ByteArray) : Value := if s.size = 0 then .slice none 0 0 else sliceB g s
def zerosB (old : ByteArray) (k : Nat) : ByteArray := bytesL (old.data.toList ++ List.replicate k 0)
theorem zerosB_size (old : ByteArray) (k : Nat) : (zerosB old k).size = old.size + k := by
  rw [zerosB, bytesL_size]; simp
theorem zerosB_list (old : ByteArray) (k : Nat) : (zerosB old k).data.toList = old.data.toList ++ List.replicate k 0 := by simp [zerosB, bytesL]
theorem block_bytes {W : World} {b : Nat} {cs : Array Value} {fz : Nat × Nat} (hb : W.heap[b]? = some (.cells cs 5 fz)) (cap : Nat) (s : ByteArray) (hc : cap ≤ cs.size) (hm : cap ≤ maxLen) (hs : s.size ≤ cap) (hf : fz = (0, 0) ∨ cap ≤ fz.1) (hg : ∀ (j : Nat) (u : Value), (Lib.byteCells s.data.toList)[j]? = some u → cs[j]? = some u) :
    BytsAt W (b, cap) s := by
  refine ⟨⟨_, _, hb⟩, hs, hm, fun j hj => ?_, fun j hj => ?_, fun j u hu => ?_⟩
  · rw [cell_of_row _ _ j cs 5 fz hb]; simp; simp at hj; omega
  · rcases hf with rfl | hf
    · simp [World.frozen?, hb]
    · have hj2 : j < cap := hj
      simp [World.frozen?, hb]; omega
  · rw [cell_of_row _ _ j cs 5 fz hb]; exact hg j u hu
theorem new_bytes (W : World) (cs : Array Value) (fz : Nat × Nat) (cap : Nat) (s : ByteArray) (hc : cap ≤ cs.size) (hm : cap ≤ maxLen) (hs : s.size ≤ cap) (hf : fz = (0, 0) ∨ cap ≤ fz.1) (hg : ∀ (j : Nat) (u : Value), (Lib.byteCells s.data.toList)[j]? = some u → cs[j]? = some u) :
    BytsAt (W.alloc (.cells cs 5 fz)) (W.heap.size, cap) s := block_bytes (heap_alloc_new W _) cap s hc hm hs hf hg
theorem add_row (g j : Nat) : (⟨g, 0, none⟩ : Addr).add j = ⟨g, j, none⟩ := by unfold Addr.add; split <;> simp_all
/-- A text's bytes in a new row. -/
theorem conv_bytes (W : World) (s : ByteArray) (hs : s.size ≤ 1048576) : ∃ cap W', (convert 9 72 (.string s)).run Try.prog W = .ok (sliceB (W.heap.size, cap) s) W' ∧ BytsAt W' (W.heap.size, cap) s ∧ W.grownBy W' none ∧ W'.heap.size = W.heap.size + 1 := by
  have hr := run_bytes_of_string (P := Try.prog) W 9 72 5 s Try.underlying9 Try.underlying72 Try.underlying5
  have hge := grownCap_ge W s.size 0 5
  have hle := grownCap_le_maxLen W s.size 0 5 (by unfold maxLen; omega)
  have hsz : s.data.size = s.size := rfl
  have hsz2 : (bytesRow s (grownCap W s.size 0 5)).size = grownCap W s.size 0 5 := by simp [bytesRow]; omega
  refine ⟨_, _, hr, new_bytes W.drew _ _ _ s (Nat.le_of_eq hsz2.symm) hle hge (.inr (by rw [hsz2]; exact Nat.le_refl _)) (fun j u hu => ?_), ?_, by simp⟩
  · obtain ⟨b, h1, rfl⟩ := bcell.1 hu
    have hj : j < s.data.size := by have := (List.getElem?_eq_some_iff.1 h1).1; simpa using this
    simp only [bytesRow]
    rw [Array.getElem?_append_left (by simpa using hj)]
    rw [Array.getElem?_map, ← Array.getElem?_toList, h1]; rfl
  · exact ⟨rfl, rfl, rfl, by simp, fun k hk _ => Below.heap_alloc _ _ _ hk⟩
/-- A text of the bytes of a row. -/
theorem conv_text (W : World) (g : Nat × Nat) (s : ByteArray) (h : BytsAt W g s) : (convert 72 9 (sliceB g s)).run Try.prog W = .ok (.string s) W := by
  have := run_convert_bytes_back (P := Try.prog) W 72 9 5 ⟨g.1, 0, none⟩ g.2 s.data.toList Try.underlying72 Try.underlying5 Try.underlying9 (fun j hj => by
    have hg := h.get j _ (bcell.2 ⟨_, List.getElem?_eq_getElem hj, rfl⟩)
    rw [add_row]; exact hg)
  have e1 : s.data.toList.length = s.size := by simp
  rw [e1] at this
  simpa [sliceB] using this
/-- Blocks that a row of bytes may turn. -/
def ownB (g : Nat × Nat) (s : ByteArray) : Option Nat := if s.size = 0 then none else some g.1
/-- Noughts appended. -/
theorem append_zeros (W : World) (g : Nat × Nat) (old : ByteArray) (k : Nat) (hk : 0 < k) (h : old.size ≠ 0 → BytsAt W g old) (hsum : old.size + k ≤ 3000000) :
    ∃ g' W', (∀ ty, (Builtin.append_ #[72, 3] ty #[valB g old, .int .i64 k]).run Try.prog W = .ok (sliceB g' (zerosB old k)) W') ∧ BytsAt W' g' (zerosB old k) ∧ W.grownBy W' (ownB g old) ∧ ((old.size ≠ 0 ∧ g'.1 = g.1) ∨ W.heap.size ≤ g'.1) := by
  obtain ⟨i0, hi, hz0, hz1, hz2⟩ := info_parts infoU8
  have hzl := zerosB_size old k
  have hzz : ∀ j u, (Lib.byteCells (zerosB old k).data.toList)[j]? = some u → if j < old.size then (Lib.byteCells old.data.toList)[j]? = some u else (j < old.size + k ∧ u = .int .u8 0) := by
    intro j u hu
    have hsz : old.data.toList.length = old.size := by simp
    rw [zerosB_list, Lib.byteCells_append] at hu
    have hl : (Lib.byteCells old.data.toList).length = old.size := by rw [Lib.byteCells_length]; exact hsz
    split
    · rename_i hj
      rw [List.getElem?_append_left (by omega)] at hu; exact hu
    · rename_i hj
      rw [List.getElem?_append_right (by omega)] at hu
      obtain ⟨b, h1, rfl⟩ := bcell.1 hu
      rw [List.getElem?_replicate] at h1
      split at h1
      · obtain rfl : 0 = b := by simpa using h1
        exact ⟨by omega, rfl⟩
      · cases h1
  by_cases h0 : old.size = 0
  · have hr := fun ty => Lib.run_append_nil_zeros (P := Try.prog) W 72 3 ty 5 i0 (.int .u8 0) .i64 .i64 Try.underlying72 Try.underlying3 hi hz0 k hk (by omega) (by omega) (by rw [hz2]; omega)
    have hge := grownCap_ge W k 0 5
    have hle := grownCap_le_maxLen W k 0 5 (by unfold maxLen; omega)
    have hz := zcells k
    generalize Builtin.zeroCells (Value.int .u8 0).cells k = Z at hr hz
    have hZ : Z.size = k := by rw [← Array.length_toList, hz]; simp
    refine ⟨(W.heap.size, grownCap W k 0 5), _, (by rw [valB, if_pos h0, sliceB, hzl, h0, Nat.zero_add]; exact hr), new_bytes W.drew _ (0, 0) _ (zerosB old k) ?_ hle (by rw [hzl]; show old.size + k ≤ grownCap W k 0 5; omega) (.inl rfl) (fun j u hu => ?_), ⟨rfl, rfl, rfl, by simp, fun k hk _ => Below.heap_alloc _ _ _ hk⟩, .inr (Nat.le_refl _)⟩
    · rw [Array.size_append, size_zeroCells]; simp [Value.cells]; omega
    · have h2 := hzz j u hu
      rw [if_neg (by omega)] at h2
      obtain ⟨h3, rfl⟩ := h2
      rw [Array.getElem?_append_left (by omega), ← Array.getElem?_toList, hz, List.getElem?_replicate, if_pos (by omega)]
  · have hB := h h0
    have hm := hB.max
    have hle0 := hB.le
    have holen : (Lib.byteCells old.data.toList).length = old.size := by rw [Lib.byteCells_length]; simp
    by_cases hroom : old.size + k ≤ g.2
    · have hst := run_storeCells_cells (P := Try.prog) g.1 0 (List.replicate k (.int .u8 0)) old.size W (fun j hj => by rw [Nat.zero_add]; exact hB.isc _ (by simp at hj; omega)) (fun j hj => by rw [Nat.zero_add]; exact hB.free _ (by simp at hj; omega)) (fun v hv => by rw [List.eq_of_mem_replicate hv]; rfl)
      have hw : IntKind.i64.wrap (k : Int) = k := by rw [IntKind.wrap_i64]; omega
      have hneg : ¬ ((k : Int) < 0) := by omega
      have h48i : ¬ (281474976710656 < (k : Int) * (i0.bytes : Int)) := by rw [hz2]; omega
      have hns : ¬ (k * i0.size = 0) := by rw [hz1]; omega
      have hadd : (⟨g.1, 0, none⟩ : Addr).add (old.size * i0.size) = ⟨g.1, old.size, none⟩ := by rw [hz1, Nat.mul_one, add_row]
      have hst2 : (storeCells ⟨g.1, old.size, none⟩ (Builtin.zeroCells (Value.int .u8 0).cells k).toList).run Try.prog W = .ok () (W.setCells g.1 old.size (List.replicate k (.int .u8 0))) := by
        have := run_storeCells_cells (P := Try.prog) g.1 old.size (List.replicate k (.int .u8 0)) 0 W (fun j hj => hB.isc _ (by simp at hj; omega)) (fun j hj => hB.free _ (by simp at hj; omega)) (fun v hv => by rw [List.eq_of_mem_replicate hv]; rfl)
        rw [zcells]; simpa using this
      refine ⟨g, W.setCells g.1 old.size (List.replicate k (.int .u8 0)), ?_, hB.set _ _ (by simpa using hroom) (by rw [hzl]; exact hroom) (fun j u hu => ?_), by rw [ownB, if_neg h0]; exact setCells_grown _ _ _ _, .inl ⟨h0, rfl⟩⟩
      · intro ty
        rw [valB, if_neg h0, sliceB, sliceB, hzl]
        simp [Builtin.append_, run_underlying Try.underlying72, run_underlying Try.underlying3, sizeOf, typeInfo, zeroValue, hi, hz0, asInt, asIntOf, hw, hneg, hns, h48i, hroom, hadd, hst2]
      · have h2 := hzz j u hu
        by_cases hj : j < old.size
        · rw [if_pos hj] at h2; rw [if_neg (by simp; omega)]; exact h2
        · rw [if_neg hj] at h2
          obtain ⟨h3, rfl⟩ := h2
          rw [if_pos (by simp; omega), List.getElem?_replicate, if_pos (by omega)]
    · have hfc : (Builtin.firstCells i0.size old.size (.slice (some ⟨g.1, 0, none⟩) old.size g.2)).run Try.prog W.drew = .ok (Lib.byteCells old.data.toList).toArray W.drew := by
        rw [hz1]
        exact run_firstCells_some W.drew 1 old.size ⟨g.1, 0, none⟩ old.size g.2 _ (by rw [holen]; omega) (fun j u hu => by rw [add_row]; exact hB.get j u hu)
      have hns : Builtin.nextslicecap (old.size + k) g.2 ≤ 281474976710656 := by
        have := nextslicecap_le (need := old.size + k) (old := g.2) (by omega)
        omega
      have hr := fun ty => Lib.run_append_grow_zeros (P := Try.prog) W 72 3 ty 5 i0 (.int .u8 0) .i64 .i64 Try.underlying72 Try.underlying3 hi hz0 (some ⟨g.1, 0, none⟩) old.size g.2 _ hfc k hk (by omega) (by omega) (by omega) (by rw [hz2]; omega) (by rw [hz2]; omega)
      have hge := grownCap_ge W (old.size + k) g.2 5
      have hle := grownCap_le_maxLen W (old.size + k) g.2 5 (by unfold maxLen; omega)
      have hz := zcells k
      generalize Builtin.zeroCells (Value.int .u8 0).cells k = Z at hr hz
      have hZ : Z.size = k := by rw [← Array.length_toList, hz]; simp
      have hO : (Lib.byteCells old.data.toList).toArray.size = old.size := by simpa using holen
      refine ⟨(W.heap.size, grownCap W (old.size + k) g.2 5), _, (by rw [valB, if_neg h0, sliceB, sliceB, hzl]; exact hr), new_bytes W.drew _ (0, 0) _ (zerosB old k) ?_ hle (by rw [hzl]; exact hge) (.inl rfl) (fun j u hu => ?_), ⟨rfl, rfl, rfl, by simp, fun k hk _ => Below.heap_alloc _ _ _ hk⟩, .inr (Nat.le_refl _)⟩
      · rw [Array.size_append, Array.size_append, size_zeroCells, hO]; simp [Value.cells]; omega
      · have h2 := hzz j u hu
        by_cases hj : j < old.size
        · rw [if_pos hj] at h2
          rw [Array.getElem?_append_left (by rw [Array.size_append]; omega), Array.getElem?_append_left (by omega), ← Array.getElem?_toList]; exact h2
        · rw [if_neg hj] at h2
          obtain ⟨h3, rfl⟩ := h2
          rw [Array.getElem?_append_left (by rw [Array.size_append]; omega), Array.getElem?_append_right (by omega), ← Array.getElem?_toList, hz, List.getElem?_replicate, if_pos (by omega)]
end Go.Proofs.Ytcedkilgfoiifaa
