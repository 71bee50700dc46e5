/- Plain mathematics of a hash that takes pieces. -/
import Derived.Test.YtipaicfmodgcoaaDoorShaMath
namespace Go.Proofs.YtipaicfmodgcoaaDoor

theorem byteAt_left (p q : List UInt8) (i : Nat) (h : i < p.length) : byteAt (p ++ q) i = byteAt p i := by
  unfold byteAt; rw [List.getD_eq_getElem?_getD, List.getD_eq_getElem?_getD, List.getElem?_append_left h]
theorem byteAt_drop (p : List UInt8) (k i : Nat) : byteAt (p.drop k) i = byteAt p (k + i) := by
  unfold byteAt; rw [List.getD_eq_getElem?_getD, List.getD_eq_getElem?_getD, List.getElem?_drop]
theorem sch_congr (p q : List UInt8) (a b : Nat) (h : ∀ j, j < 64 → byteAt p (a + j) = byteAt q (b + j)) : ∀ n, sch p a n = sch q b n := by
  intro n
  induction n with
  | zero => rfl
  | succ n ih =>
    rw [sch, sch, ih]
    by_cases hn : n < 16
    · rw [if_pos hn, if_pos hn]
      have e : word4 p (a + 4 * n) = word4 q (b + 4 * n) := by
        unfold word4
        rw [h (4 * n) (by omega), show a + 4 * n + 1 = a + (4 * n + 1) by omega, show a + 4 * n + 2 = a + (4 * n + 2) by omega, show a + 4 * n + 3 = a + (4 * n + 3) by omega,
          h (4 * n + 1) (by omega), h (4 * n + 2) (by omega), h (4 * n + 3) (by omega)]
        rfl
      rw [e]
    · rw [if_neg hn, if_neg hn]
theorem blk_congr (p q : List UInt8) (a b : Nat) (s : St) (h : ∀ j, j < 64 → byteAt p (a + j) = byteAt q (b + j)) : blk p a s = blk q b s := by
  unfold blk; rw [sch_congr p q a b h]
theorem blks_left (p q : List UInt8) (n : Nat) (h : 64 * n ≤ p.length) : blks (p ++ q) n = blks p n := by
  induction n with
  | zero => rfl
  | succ n ih =>
    rw [blks, blks, ih (by omega)]
    exact blk_congr _ _ _ _ _ fun j hj => byteAt_left p q _ (by omega)

/-- What a hash of so many bytes holds: the state, and the block's beginning. -/
def sOf (all : List UInt8) : St := blks all (all.length / 64)
def tailOk (all b : List UInt8) : Prop := b.length = 64 ∧ b.take (all.length % 64) = all.drop (64 * (all.length / 64))
/-- Some bytes laid into a block. -/
def laid (b : List UInt8) (m : Nat) (x : List UInt8) : List UInt8 := b.take m ++ x ++ b.drop (m + x.length)
theorem laid_len (b : List UInt8) (m : Nat) (x : List UInt8) (hb : b.length = 64) (h : m + x.length ≤ 64) : (laid b m x).length = 64 := by
  unfold laid; simp; omega
theorem laid_take (b : List UInt8) (m : Nat) (x : List UInt8) (hb : b.length = 64) (h : m + x.length ≤ 64) : (laid b m x).take (m + x.length) = b.take m ++ x := by
  unfold laid
  rw [List.take_append_of_le_length (by simp; omega), List.take_of_length_le (by simp; omega)]
theorem drop_more (all x : List UInt8) (k : Nat) (h : k ≤ all.length) : (all ++ x).drop k = all.drop k ++ x := List.drop_append_of_le_length h
/-- Less than a block came. -/
theorem more_part (all b x : List UInt8) (h : tailOk all b) (hx : all.length % 64 + x.length < 64) : tailOk (all ++ x) (laid b (all.length % 64) x) ∧ sOf (all ++ x) = sOf all := by
  obtain ⟨hb, ht⟩ := h
  have e1 : (all ++ x).length = all.length + x.length := List.length_append
  have e2 : (all.length + x.length) / 64 = all.length / 64 := by omega
  have e3 : (all.length + x.length) % 64 = all.length % 64 + x.length := by omega
  refine ⟨⟨laid_len _ _ _ hb (by omega), ?_⟩, ?_⟩
  · rw [e1, e2, e3, laid_take _ _ _ hb (by omega), ht, drop_more _ _ _ (by omega)]
  · unfold sOf; rw [e1, e2]; exact blks_left _ _ _ (by omega)
/-- A block came to its end. -/
theorem more_full (all b x : List UInt8) (h : tailOk all b) (hx : all.length % 64 + x.length = 64) : tailOk (all ++ x) (laid b (all.length % 64) x) ∧ sOf (all ++ x) = blk (laid b (all.length % 64) x) 0 (sOf all) := by
  obtain ⟨hb, ht⟩ := h
  have e1 : (all ++ x).length = all.length + x.length := List.length_append
  have e2 : (all.length + x.length) / 64 = all.length / 64 + 1 := by omega
  have e3 : (all.length + x.length) % 64 = 0 := by omega
  have hl := laid_len b (all.length % 64) x hb (by omega)
  have hd : laid b (all.length % 64) x = (all ++ x).drop (64 * (all.length / 64)) := by
    rw [drop_more _ _ _ (by omega), ← ht, ← laid_take b _ x hb (by omega)]
    exact (List.take_of_length_le (by omega)).symm
  refine ⟨⟨hl, ?_⟩, ?_⟩
  · rw [e1, e2, e3, List.take_zero, List.drop_of_length_le (by omega)]
  · unfold sOf
    rw [e1, e2, blks, blks_left _ _ _ (by omega)]
    refine blk_congr _ _ _ _ _ fun j hj => ?_
    rw [hd, byteAt_drop, Nat.zero_add]
theorem tail_nil (b : List UInt8) (h : b.length = 64) : tailOk [] b := ⟨h, rfl⟩

theorem be8_len (n : Nat) : (be8 n).length = 8 := by simp [be8]
theorem endB_len (n : Nat) : (endB n).length = padn n + 9 := by simp [endB, be8_len]
theorem pad_len (s : List UInt8) : (pad s).length % 64 = 0 := by
  unfold pad; rw [List.length_append, endB_len]; unfold padn; omega
theorem dig_sOf (s : List UInt8) : digB s = outB (sOf (s ++ endB s.length)) := rfl
end Go.Proofs.YtipaicfmodgcoaaDoor
