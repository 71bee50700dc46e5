/- What a reader makes of any bytes, in two halves, and the walk of NumsOne: it returns true and writes nothing that was there. -/
import Derived.Test.YtipaicfmodgcoaaDoorAlive
namespace Go.Proofs.YtipaicfmodgcoaaDoor
open Go.RowKit
theorem numTo_all (s : List UInt8) : numTo s (fun n => decide ((n : Int) ≤ 18446744073709551615)) = M.num s :=
  numTo_ok (.inr (by have := M.num_lt s; simp; omega))

/-- Num of any number at all. -/
theorem num19_all (p : Nat) (s : ByteArray) (w : World) (hs : s.size ≤ 1000000) (hX : RdX w p s 0) :
    Calls Tryd.prog 46 #[.pointer (some ⟨p, 0, none⟩), .int .u64 18446744073709551615] w fun x w' => x = .returned (.int .u64 ((M.num s.data.toList).1 : Int)) ∧
      RdX w' p (AfterX s 0 (M.num s.data.toList).2.1 (M.num s.data.toList).2.2).1 (AfterX s 0 (M.num s.data.toList).2.1 (M.num s.data.toList).2.2).2 ∧ w.grownBy w' (some p) := by
  have h := num19 p s 0 18446744073709551615 w hs hX
  rw [numTo_all, orZ_ok] at h
  exact h

theorem afterX_ok (s : ByteArray) (k : Nat) : AfterX s 0 (k : Int) 0 = (s.extract k s.size, 0) := rfl
theorem afterX_no (s : ByteArray) (k er : Int) (h : er ≠ 0) : AfterX s 0 k er = (s, er) := by unfold AfterX; rw [if_pos rfl, if_neg h]

/-- The first half: after Num of a reader of s, the fault, and how much is left. -/
theorem half1 (s : ByteArray) (hs : s.size ≤ 1000000) :
    ∃ (n L : Nat) (e : Int), n < 18446744073709551616 ∧ L ≤ s.size ∧ (e = 0 → M.encB n = s.extract 0 (s.size - L)) ∧
      ∀ (p : Nat) (w : World), RdX w p s 0 → Calls Tryd.prog 46 #[.pointer (some ⟨p, 0, none⟩), .int .u64 18446744073709551615] w fun x w' => x = .returned (.int .u64 (n : Int)) ∧ (∃ r, r.size = L ∧ RdX w' p r e) ∧ w.grownBy w' (some p) := by
  have h := fun p w hX => num19_all p s w hs hX
  have hle := num_le s
  have ho := M.num_one s.data.toList
  have hlt := M.num_lt s.data.toList
  obtain ⟨N, hN⟩ : ∃ N, N = M.num s.data.toList := ⟨_, rfl⟩
  rw [← hN] at h hle ho hlt
  by_cases he : N.2.2 = 0
  · refine ⟨N.1, s.size - N.2.1, 0, hlt, by omega, fun _ => ?_, fun p w hX => (h p w hX).mono ?_⟩
    · rw [show s.size - (s.size - N.2.1) = N.2.1 from by omega, Lib.extract_eq]
      unfold M.encB
      rw [ho he]; simp
    · rintro x w' ⟨hx, hr, hg⟩
      rw [he, afterX_ok] at hr
      exact ⟨hx, ⟨_, by simp [ByteArray.size_extract], hr⟩, hg⟩
  · refine ⟨N.1, s.size, N.2.2, hlt, by omega, fun a => absurd a he, fun p w hX => (h p w hX).mono ?_⟩
    rintro x w' ⟨hx, hr, hg⟩
    rw [afterX_no _ _ _ he] at hr
    exact ⟨hx, ⟨_, rfl, hr⟩, hg⟩

theorem takeR_ok (s : ByteArray) (n : Int) (h : (takeR s n).2 = 0) : 0 ≤ n ∧ n ≤ s.size ∧ (takeR s n).1 = s.extract 0 n.toNat := by
  unfold takeR at h ⊢
  by_cases h1 : n < 0
  · rw [if_pos h1] at h; simp at h
  · rw [if_neg h1] at h ⊢
    by_cases h2 : (s.size : Int) < n
    · rw [if_pos h2] at h; simp at h
    · rw [if_neg h2]
      exact ⟨by omega, by omega, rfl⟩

/-- A row that is read is just its bytes. -/
theorem rowR_one (s : ByteArray) (most : Int) (h : (rowR s most).2.2 = 0) :
    rowB (rowR s most).1 = s.extract 0 (rowR s most).2.1.toNat := by
  have hk := rowR_k s most
  unfold rowR at h hk ⊢
  by_cases h1 : (numTo s.data.toList (rowMay most)).2.2 = 0
  · rw [if_pos h1] at h hk ⊢
    obtain ⟨_, h2⟩ := numTo_may _ _ h1
    have hle := num_le s
    have ho := M.num_one s.data.toList
    rw [h2] at h h1 hk ⊢
    obtain ⟨N, hN⟩ : ∃ N, N = M.num s.data.toList := ⟨_, rfl⟩
    rw [← hN] at h h1 hle ho hk ⊢
    simp only at h hk ⊢
    obtain ⟨a, b, c⟩ := takeR_ok _ _ h
    have hz : (s.extract N.2.1 s.size).size = s.size - N.2.1 := by simp [ByteArray.size_extract]
    rw [c] at hk ⊢
    have hz2 : ((s.extract N.2.1 s.size).extract 0 N.1).size = N.1 := by
      simp [ByteArray.size_extract]; rw [hz] at b; omega
    rw [Int.toNat_natCast] at hk ⊢
    unfold rowB
    rw [hz2, show ((N.2.1 : Int) + (N.1 : Int)).toNat = N.2.1 + N.1 from by omega]
    rw [hz] at b
    apply ByteArray.ext
    rw [ByteArray.data_append]
    apply Array.toList_inj.1
    rw [Array.toList_append]
    have e1 : (M.encB N.1).data.toList = s.data.toList.take N.2.1 := by unfold M.encB; rw [ho h1]
    rw [e1, Lib.extract_data, Lib.extract_data, Lib.extract_data]
    simp only [Nat.sub_zero, List.drop_zero, List.take_take]
    rw [Nat.min_eq_left (by omega), List.take_add]
  · rw [if_neg h1] at h; exact absurd h h1

/-- The second half: after Row of a reader of s, the fault, and how much is left. -/
theorem half2 (s : ByteArray) (hs : s.size ≤ 1000000) :
    ∃ (t : ByteArray) (L : Nat) (e : Int), t.size ≤ s.size ∧ L ≤ s.size ∧ (e = 0 → rowB t = s.extract 0 (s.size - L)) ∧
      ∀ (p : Nat) (w : World), RdX w p s 0 → Calls Tryd.prog 47 #[.pointer (some ⟨p, 0, none⟩), .int .i64 2000] w fun x w' => x = .returned (.string t) ∧ (∃ r, r.size = L ∧ RdX w' p r e) ∧ w.grownBy w' (some p) := by
  have h := fun p w hX => row21 p s 0 2000 w hs (by omega) hX
  simp only [orZ_ok] at h
  have hk := rowR_k s 2000
  have ho := rowR_one s 2000
  have hz : (rowR s 2000).1.size ≤ s.size := by
    by_cases h0 : (rowR s 2000).2.2 = 0
    · have := congrArg ByteArray.size (ho h0)
      unfold rowB at this
      rw [ByteArray.size_append, ByteArray.size_extract] at this
      omega
    · rw [rowR_zero _ _ h0]; exact Nat.zero_le _
  obtain ⟨R, hR⟩ : ∃ R, R = rowR s 2000 := ⟨_, rfl⟩
  rw [← hR] at h hk ho hz
  by_cases he : R.2.2 = 0
  · refine ⟨R.1, s.size - R.2.1.toNat, 0, hz, by omega, fun _ => ?_, fun p w hX => (h p w hX).mono ?_⟩
    · rw [ho he]; congr 1; omega
    · rintro x w' ⟨hx, hr, hg⟩
      have e1 : AfterX s 0 R.2.1 R.2.2 = (s.extract R.2.1.toNat s.size, 0) := by unfold AfterX; rw [if_pos rfl, if_pos he]
      rw [e1] at hr
      exact ⟨hx, ⟨_, by simp [ByteArray.size_extract], hr⟩, hg⟩
  · refine ⟨R.1, s.size, R.2.2, hz, by omega, fun a => absurd a he, fun p w hX => (h p w hX).mono ?_⟩
    rintro x w' ⟨hx, hr, hg⟩
    rw [afterX_no _ _ _ he] at hr
    exact ⟨hx, ⟨_, rfl, hr⟩, hg⟩

theorem gt {w w1 w2 : World} {r : Option Nat} (h : Below w.heap.size w w1) (k : w1.grownBy w2 r) : w.grownBy w2 r :=
  grown_transN (below_grown h r) k
end Go.Proofs.YtipaicfmodgcoaaDoor
