/- Names of files: a name's kind and number are read back. -/
import Derived.Test.YtgdfnngfifjdmaaDoorSfNames
namespace Go.Proofs.YtgdfnngfifjdmaaDoor
open Go.RowKit Base Base2

theorem nameB_list (c : UInt8) (k : Nat) (h : k ≤ 1099511627776) : (nameB c (k : Int)).data.toList = c :: decL k := by
  rw [nameB_yes c k h]; simp [decB]
theorem nameB_first (c : UInt8) (k : Nat) (h : k ≤ 1099511627776) : (nameB c (k : Int)).data.toList.getD 0 0 = c := by rw [nameB_list c k h]; rfl
theorem nameB_rest (c : UInt8) (k : Nat) (h : k ≤ 1099511627776) : (nameB c (k : Int)).data.toList.drop 1 = decL k := by rw [nameB_list c k h]; rfl
theorem nameB_len (c : UInt8) (k : Nat) (h : k ≤ 1099511627776) : 2 ≤ (nameB c (k : Int)).size ∧ (nameB c (k : Int)).size ≤ 14 := by
  have e : (nameB c (k : Int)).size = (decL k).length + 1 := by
    rw [Lib.size_eq, nameB_list c k h]; rfl
  have := decL_len 13 k (by rw [pow13]; omega) (by omega)
  omega
theorem nameB_ne (c d : UInt8) (hcd : c ≠ d) (k m : Nat) (h : k ≤ 1099511627776) (g : m ≤ 1099511627776) : nameB c (k : Int) ≠ nameB d (m : Int) := by
  intro e
  have := nameB_first c k h
  rw [e, nameB_first d m g] at this
  exact hcd this.symm
theorem nameB_inj (c : UInt8) {k m : Nat} (h : k ≤ 1099511627776) (g : m ≤ 1099511627776) (e : nameB c (k : Int) = nameB c (m : Int)) : k = m := by
  have h1 := nameB_rest c k h
  rw [e, nameB_rest c m g] at h1
  have h2 := valL_dec k
  rw [← h1, valL_dec m] at h2
  exact (Option.some.inj h2).symm
theorem nameB_heads (c : UInt8) (hc : c ≠ 104) (k : Nat) (h : k ≤ 1099511627776) : nameB c (k : Int) ≠ headsB := by
  intro e
  have := nameB_first c k h
  rw [e] at this
  exact hc this.symm
/-- A segment's name is read back. -/
theorem kindS_seg (k : Nat) (h : k ≤ 1099511627776) : kindS (nameB 115 (k : Int)) = (1, (k : Int), true) := by
  have hl := nameB_len 115 k h
  have hf := nameB_first 115 k h
  rw [kindS_some (nameB_heads 115 (by decide) k h) (by rintro (a | a | ⟨a, _⟩) <;> first | omega | exact a hf) (by rw [nameB_rest 115 k h]; exact valL_dec k), if_neg (by omega), if_pos rfl]
/-- A column's name is read back. -/
theorem kindS_col (k : Nat) (h : k ≤ 1099511627776) : kindS (nameB 99 (k : Int)) = (2, (k : Int), true) := by
  have hl := nameB_len 99 k h
  have hf := nameB_first 99 k h
  rw [kindS_some (nameB_heads 99 (by decide) k h) (by rintro (a | a | ⟨_, a⟩) <;> first | omega | exact a hf) (by rw [nameB_rest 99 k h]; exact valL_dec k), if_neg (by omega), if_neg (nameB_ne 115 99 (by decide) k k h h), if_pos rfl]
/-- What is read as a segment is that segment's name. -/
theorem kindS_is (s : ByteArray) : kindS s = (0, 0, false) ∨ (s = headsB ∧ kindS s = (3, 0, true)) ∨ ∃ n : Nat, n ≤ 1099511627776 ∧ ((s = nameB 115 (n : Int) ∧ kindS s = (1, (n : Int), true)) ∨ (s = nameB 99 (n : Int) ∧ kindS s = (2, (n : Int), true))) := by
  by_cases h0 : s = headsB
  · exact .inr (.inl ⟨h0, by rw [h0]; exact kindS_heads⟩)
  by_cases h1 : s.size < 2 ∨ 14 < s.size ∨ (s.data.toList.getD 0 0 ≠ 115 ∧ s.data.toList.getD 0 0 ≠ 99)
  · exact .inl (kindS_no h0 h1)
  rcases hv : valL 0 (s.data.toList.drop 1) with _ | n
  · exact .inl (kindS_none h0 h1 hv)
  have e := kindS_some h0 h1 hv
  by_cases hn : 1099511627776 < n
  · rw [if_pos hn] at e; exact .inl e
  rw [if_neg hn] at e
  by_cases ha : nameB 115 (n : Int) = s
  · rw [if_pos ha] at e; exact .inr (.inr ⟨n, by omega, .inl ⟨ha.symm, e⟩⟩)
  rw [if_neg ha] at e
  by_cases hb : nameB 99 (n : Int) = s
  · rw [if_pos hb] at e; exact .inr (.inr ⟨n, by omega, .inr ⟨hb.symm, e⟩⟩)
  rw [if_neg hb] at e; exact .inl e

end Go.Proofs.YtgdfnngfifjdmaaDoor
