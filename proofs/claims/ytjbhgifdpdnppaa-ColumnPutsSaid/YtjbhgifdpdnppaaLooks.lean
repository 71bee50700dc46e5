/- Contracts of the looks of the program's Reader: what each of its closures makes of the bytes that are left. -/
import Derived.Test.YtjbhgifdpdnppaaDigs
namespace Go.Proofs.Ytjbhgifdpdnppaa
open Go.RowKit

/-- The number that stands next, if it may be. -/
def numTo (s : List UInt8) (may : Nat → Bool) : Nat × Nat × Int := if (M.num s).2.2 = 0 ∧ may (M.num s).1 = false then (0, 0, 4) else M.num s

theorem numTo_bad {s : List UInt8} {may : Nat → Bool} (h1 : (M.num s).2.2 = 0) (h2 : may (M.num s).1 = false) : numTo s may = (0, 0, 4) := by
  unfold numTo; rw [if_pos ⟨h1, h2⟩]
theorem numTo_ok {s : List UInt8} {may : Nat → Bool} (h : (M.num s).2.2 ≠ 0 ∨ may (M.num s).1 = true) : numTo s may = M.num s := by
  unfold numTo; rw [if_neg]; rintro ⟨a, b⟩; rcases h with h | h
  · exact h a
  · rw [b] at h; cases h

/-- Three results: a number, how many bytes, a fault. -/
abbrev Tri (p : Nat × Nat × Int) : Ending := .returned (.tuple #[.int .u64 p.1, .int .i64 p.2.1, .int .i64 p.2.2])

theorem may36 (n most : Int) (g : Nat) (w : World) (hc : w.cell? ⟨g, 0, none⟩ = some (.int .u64 most)) :
    Calls Try.prog 42 #[.int .u64 n, .pointer (some ⟨g, 0, none⟩)] w fun e w' => e = .returned (.bool (decide (n ≤ most))) ∧ w = w' := by
  go_enter Try.func42, Try.ntmps42
  go_wp2
  go_ret
  exact ⟨rfl, rfl⟩

set_option maxRecDepth 100000 in
theorem bounded35 (s : ByteArray) (fn : Nat) (cap : Value) (may : Nat → Bool) (w : World) (hs : s.size ≤ maxLen)
    (HE : ∀ (args : Array Value) (w : World), (callFunc fn args).run Try.prog w = .ok (.enter fn args) w)
    (H : Hid (∀ n : Nat, Calls Try.prog fn #[.int .u64 n, cap] w fun e w' => e = .returned (.bool (may n)) ∧ w = w')) :
    Calls Try.prog 41 #[.string s, .func (.func fn) #[] #[cap]] w fun e w' => e = Tri (numTo s.data.toList may) ∧ w = w' := by
  obtain ⟨N, hN⟩ : ∃ N, N = M.num s.data.toList := ⟨_, rfl⟩
  have H39 := Lib.hid (number39 s w hs); rw [← hN] at H39
  by_cases he : N.2.2 = 0
  · have hb : (N.2.2 == 0) = true := by simpa using he
    by_cases hm : may N.1 = true
    · have HR := Lib.hid (numTo_ok (s := s.data.toList) (may := may) (.inr (by rw [← hN]; exact hm)))
      have HN := Lib.hid hN
      clear hN he
      go_enter Try.func41, Try.ntmps41
      go_wp2_with (first
        | (go_at_call 48; refine H39.out.mono ?_; rintro e w' ⟨rfl, rfl⟩)
        | (with_reducible refine (H.out _).mono ?_; rintro e w' ⟨rfl, rfl⟩))
      go_ret3
      exact ⟨by rw [HR.out, ← HN.out]; rfl, rfl⟩
    · have hm' : may N.1 = false := by simpa using hm
      have HR := Lib.hid (numTo_bad (s := s.data.toList) (may := may) (by rw [← hN]; exact he) (by rw [← hN]; exact hm'))
      clear hN he hm
      go_enter Try.func41, Try.ntmps41
      go_wp2_with (first
        | (go_at_call 48; refine H39.out.mono ?_; rintro e w' ⟨rfl, rfl⟩)
        | (with_reducible refine (H.out _).mono ?_; rintro e w' ⟨rfl, rfl⟩))
      go_ret3
      exact ⟨by rw [HR.out]; rfl, rfl⟩
  · have hb : (N.2.2 == 0) = false := by simpa using he
    have HR := Lib.hid (numTo_ok (s := s.data.toList) (may := may) (.inl (by rw [← hN]; exact he)))
    have HN := Lib.hid hN
    clear hN he
    go_enter Try.func41, Try.ntmps41
    go_wp2_with (go_at_call 48; refine H39.out.mono ?_; rintro e w' ⟨rfl, rfl⟩)
    go_ret3
    exact ⟨by rw [HR.out, ← HN.out]; rfl, rfl⟩

theorem enters36 (args : Array Value) (w : World) : (callFunc 42 args).run Try.prog w = .ok (.enter 42 args) w := by kernel_rfl
set_option maxRecDepth 100000 in
theorem look34 (s : ByteArray) (g : Nat) (most : Int) (w : World) (hs : s.size ≤ maxLen) (hc : w.cell? ⟨g, 0, none⟩ = some (.int .u64 most)) :
    Calls Try.prog 40 #[.string s, .pointer (some ⟨g, 0, none⟩)] w fun e w' => e = Tri (numTo s.data.toList (fun n => decide ((n : Int) ≤ most))) ∧ w = w' := by
  have HB := Lib.hid (bounded35 s 42 (.pointer (some ⟨g, 0, none⟩)) (fun n => decide ((n : Int) ≤ most)) w hs enters36 (fun n => may36 n most g w hc))
  go_enter Try.func40, Try.ntmps40
  go_wp2_with (go_at_call 41; refine HB.out.mono ?_; rintro e w' ⟨rfl, rfl⟩)
  go_ret3
  exact ⟨rfl, rfl⟩

/-- Three results of Int's look. -/
abbrev TriI (p : Nat × Nat × Int) : Ending := .returned (.tuple #[.int .i64 (M.zag p.1), .int .i64 p.2.1, .int .i64 p.2.2])

set_option maxRecDepth 100000 in
theorem look38 (s : ByteArray) (w : World) (hs : s.size ≤ maxLen) :
    Calls Try.prog 47 #[.string s] w fun e w' => e = TriI (M.num s.data.toList) ∧ w = w' := by
  have hl := M.num_lt s.data.toList
  have HB := Lib.hid (number39 s w hs)
  have HZ := Lib.hid (zag16 ((M.num s.data.toList).1 : Int) w (by omega) (by omega))
  clear hl
  go_enter Try.func47, Try.ntmps47
  go_wp2_with (first
    | (go_at_call 48; refine HB.out.mono ?_; rintro e w' ⟨rfl, rfl⟩)
    | (go_at_call 49; refine HZ.out.mono ?_; rintro e w' ⟨rfl, rfl⟩))
  go_ret3
  exact ⟨rfl, rfl⟩

/-- What take makes of bytes and a number. -/
def takeR (s : ByteArray) (n : Int) : ByteArray × Int := if n < 0 then (⟨#[]⟩, 1) else if (s.size : Int) < n then (⟨#[]⟩, 2) else (s.extract 0 n.toNat, 0)

theorem takeR_size (s : ByteArray) (n : Int) : (takeR s n).1.size ≤ s.size := by
  unfold takeR
  split
  · exact Nat.zero_le _
  · split
    · exact Nat.zero_le _
    · simp [ByteArray.size_extract]; omega

/-- May a row be so long? -/
def rowMay (most : Int) (n : Nat) : Bool := decide (0 ≤ most) && decide ((n : Int) ≤ most)

/-- What Row's look makes of bytes. -/
def rowR (s : ByteArray) (most : Int) : ByteArray × Int × Int :=
  if (numTo s.data.toList (rowMay most)).2.2 = 0 then
    ((takeR (s.extract (numTo s.data.toList (rowMay most)).2.1 s.size) (numTo s.data.toList (rowMay most)).1).1,
      (numTo s.data.toList (rowMay most)).2.1 + ((takeR (s.extract (numTo s.data.toList (rowMay most)).2.1 s.size) (numTo s.data.toList (rowMay most)).1).1.size : Int),
      (takeR (s.extract (numTo s.data.toList (rowMay most)).2.1 s.size) (numTo s.data.toList (rowMay most)).1).2)
  else (⟨#[]⟩, 0, (numTo s.data.toList (rowMay most)).2.2)

theorem numTo_may (s : List UInt8) (may : Nat → Bool) (h : (numTo s may).2.2 = 0) : may (numTo s may).1 = true ∧ numTo s may = M.num s := by
  by_cases hc : (M.num s).2.2 = 0 ∧ may (M.num s).1 = false
  · rw [numTo_bad hc.1 hc.2] at h; simp at h
  · have e : numTo s may = M.num s := by unfold numTo; rw [if_neg hc]
    rw [e] at h ⊢
    refine ⟨?_, rfl⟩
    by_cases hm : may (M.num s).1 = true
    · exact hm
    · exact absurd ⟨h, by simpa using hm⟩ hc

theorem numTo_le (s : ByteArray) (may : Nat → Bool) : (numTo s.data.toList may).2.1 ≤ s.size := by
  unfold numTo
  split
  · exact Nat.zero_le _
  · have h := M.num_form s.data.toList
    have e : s.data.toList.length = s.size := (Lib.size_eq s).symm
    rw [e] at h
    omega
end Go.Proofs.Ytjbhgifdpdnppaa
