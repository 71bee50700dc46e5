/- Contracts of the looks of the program's Reader: what each of its closures makes of the bytes that are left. -/
import Derived.Test.YtnakmlnjfjgghaaDoorDigs
namespace Go.Proofs.YtnakmlnjfjgghaaDoor
open Go.RowKit

/-- The number that stands next, if it may be. -/
def numTo (s : List UInt8) (may : Nat → Bool) : Nat × Nat × Int := if (M.num s).2.2 = 0 ∧ may (M.num s).1 = false then (0, 0, 4) else M.num s

theorem numTo_bad {s : List UInt8} {may : Nat → Bool} (h1 : (M.num s).2.2 = 0) (h2 : may (M.num s).1 = false) : numTo s may = (0, 0, 4) := by
  unfold numTo; rw [if_pos ⟨h1, h2⟩]
theorem numTo_ok {s : List UInt8} {may : Nat → Bool} (h : (M.num s).2.2 ≠ 0 ∨ may (M.num s).1 = true) : numTo s may = M.num s := by
  unfold numTo; rw [if_neg]; rintro ⟨a, b⟩; rcases h with h | h
  · exact h a
  · rw [b] at h; cases h

/-- Three results: a number, how many bytes, a fault. -/
abbrev Tri (p : Nat × Nat × Int) : Ending := .returned (.tuple #[.int .u64 p.1, .int .i64 p.2.1, .int .i64 p.2.2])

/-- Three results of Int's look. -/
abbrev TriI (p : Nat × Nat × Int) : Ending := .returned (.tuple #[.int .i64 (M.zag p.1), .int .i64 p.2.1, .int .i64 p.2.2])

set_option maxRecDepth 100000 in
theorem look38 (s : ByteArray) (w : World) (hs : s.size ≤ maxLen) :
    Calls Tryd.prog 51 #[.string s] w fun e w' => e = TriI (M.num s.data.toList) ∧ w = w' := by
  have hl := M.num_lt s.data.toList
  have HB := Lib.hid (number39 s w hs)
  have HZ := Lib.hid (zag16 ((M.num s.data.toList).1 : Int) w (by omega) (by omega))
  clear hl
  go_enter Tryd.func51, Tryd.ntmps51
  go_wp2_with (first
    | (go_at_call 52; refine HB.out.mono ?_; rintro e w' ⟨rfl, rfl⟩)
    | (go_at_call 53; refine HZ.out.mono ?_; rintro e w' ⟨rfl, rfl⟩))
  go_ret3
  exact ⟨rfl, rfl⟩

/-- What take makes of bytes and a number. -/
def takeR (s : ByteArray) (n : Int) : ByteArray × Int := if n < 0 then (⟨#[]⟩, 1) else if (s.size : Int) < n then (⟨#[]⟩, 2) else (s.extract 0 n.toNat, 0)

theorem takeR_size (s : ByteArray) (n : Int) : (takeR s n).1.size ≤ s.size := by
  unfold takeR
  split
  · exact Nat.zero_le _
  · split
    · exact Nat.zero_le _
    · simp [ByteArray.size_extract]; omega

/-- May a row be so long? -/
def rowMay (most : Int) (n : Nat) : Bool := decide (0 ≤ most) && decide ((n : Int) ≤ most)

/-- What Row's look makes of bytes. -/
def rowR (s : ByteArray) (most : Int) : ByteArray × Int × Int :=
  if (numTo s.data.toList (rowMay most)).2.2 = 0 then
    ((takeR (s.extract (numTo s.data.toList (rowMay most)).2.1 s.size) (numTo s.data.toList (rowMay most)).1).1,
      (numTo s.data.toList (rowMay most)).2.1 + ((takeR (s.extract (numTo s.data.toList (rowMay most)).2.1 s.size) (numTo s.data.toList (rowMay most)).1).1.size : Int),
      (takeR (s.extract (numTo s.data.toList (rowMay most)).2.1 s.size) (numTo s.data.toList (rowMay most)).1).2)
  else (⟨#[]⟩, 0, (numTo s.data.toList (rowMay most)).2.2)

theorem numTo_may (s : List UInt8) (may : Nat → Bool) (h : (numTo s may).2.2 = 0) : may (numTo s may).1 = true ∧ numTo s may = M.num s := by
  by_cases hc : (M.num s).2.2 = 0 ∧ may (M.num s).1 = false
  · rw [numTo_bad hc.1 hc.2] at h; simp at h
  · have e : numTo s may = M.num s := by unfold numTo; rw [if_neg hc]
    rw [e] at h ⊢
    refine ⟨?_, rfl⟩
    by_cases hm : may (M.num s).1 = true
    · exact hm
    · exact absurd ⟨h, by simpa using hm⟩ hc

theorem numTo_le (s : ByteArray) (may : Nat → Bool) : (numTo s.data.toList may).2.1 ≤ s.size := by
  unfold numTo
  split
  · exact Nat.zero_le _
  · have h := M.num_form s.data.toList
    have e : s.data.toList.length = s.size := (Lib.size_eq s).symm
    rw [e] at h
    omega
end Go.Proofs.YtnakmlnjfjgghaaDoor
