/- The plain mathematics of frames: a row's frame, the next one, all that stand; what is torn is told. Nothing here speaks of the program. -/
import Derived.Test.YtbaajabiimckoaaBackWalk
namespace Go.Proofs.Ytbaajabiimckoaa

/-- The frame of a row. -/
def wrapS (s : ByteArray) : ByteArray := rowB s ++ ⟨#[165]⟩
/-- May a row's number be so great? -/
def rowN (n : Nat) : Bool := decide ((n : Int) ≤ 65536)
/-- The next frame's row, how many bytes it has, or the error. -/
def nextS (s : ByteArray) : ByteArray × Nat × Int :=
  if s.size = 0 then (⟨#[]⟩, 0, 7)
  else if (numTo s.data.toList rowN).2.2 ≠ 0 then (⟨#[]⟩, 0, (numTo s.data.toList rowN).2.2)
  else if (numTo s.data.toList rowN).1 = 0 then (⟨#[]⟩, 0, 3)
  else if s.size < (numTo s.data.toList rowN).2.1 + (numTo s.data.toList rowN).1 + 1 then (⟨#[]⟩, 0, 2)
  else if s.data.toList[(numTo s.data.toList rowN).2.1 + (numTo s.data.toList rowN).1]? ≠ some 165 then (⟨#[]⟩, 0, 3)
  else (s.extract (numTo s.data.toList rowN).2.1 ((numTo s.data.toList rowN).2.1 + (numTo s.data.toList rowN).1), (numTo s.data.toList rowN).2.1 + (numTo s.data.toList rowN).1 + 1, 0)
/-- All frames that stand: rows, and how many bytes each frame has. -/
def scanF : Nat → ByteArray → List (ByteArray × Nat)
  | 0, _ => []
  | f + 1, s => if (nextS s).2.2 = 0 then ((nextS s).1, (nextS s).2.1) :: scanF f (s.extract (nextS s).2.1 s.size) else []
def scanS (s : ByteArray) : List (ByteArray × Nat) := scanF s.size s

theorem wrapS_size (s : ByteArray) : (wrapS s).size = (M.encB s.size).size + s.size + 1 := by
  unfold wrapS rowB
  rw [ByteArray.size_append, ByteArray.size_append]; rfl
theorem nextS_none (s : ByteArray) (h : s.size = 0) : nextS s = (⟨#[]⟩, 0, 7) := if_pos h
theorem nextS_fault {s : ByteArray} {n k : Nat} {er : Int} (h0 : s.size ≠ 0) (h : numTo s.data.toList rowN = (n, k, er)) (he : er ≠ 0) : nextS s = (⟨#[]⟩, 0, er) := by
  unfold nextS; rw [if_neg h0, h]; simp only; rw [if_pos he]
theorem nextS_zero {s : ByteArray} {n k : Nat} (h0 : s.size ≠ 0) (h : numTo s.data.toList rowN = (n, k, 0)) (hn : n = 0) : nextS s = (⟨#[]⟩, 0, 3) := by
  unfold nextS; rw [if_neg h0, h]; simp only; rw [if_neg (by simp), if_pos hn]
theorem nextS_short {s : ByteArray} {n k : Nat} (h0 : s.size ≠ 0) (h : numTo s.data.toList rowN = (n, k, 0)) (hn : n ≠ 0) (hl : s.size < k + n + 1) : nextS s = (⟨#[]⟩, 0, 2) := by
  unfold nextS; rw [if_neg h0, h]; simp only; rw [if_neg (by simp), if_neg hn, if_pos hl]
theorem nextS_last {s : ByteArray} {n k : Nat} (h0 : s.size ≠ 0) (h : numTo s.data.toList rowN = (n, k, 0)) (hn : n ≠ 0) (hl : k + n < s.size) (hc : s[k + n] ≠ 165) : nextS s = (⟨#[]⟩, 0, 3) := by
  have e : s.data.toList[k + n]? = some s[k + n] := by
    have : k + n < s.data.toList.length := by simpa using hl
    rw [List.getElem?_eq_getElem this]; rfl
  unfold nextS; rw [if_neg h0, h]; simp only; rw [if_neg (by simp), if_neg hn, if_neg (by omega), if_pos (by rw [e]; simpa using hc)]
theorem nextS_good {s : ByteArray} {n k : Nat} (h0 : s.size ≠ 0) (h : numTo s.data.toList rowN = (n, k, 0)) (hn : n ≠ 0) (hl : k + n < s.size) (hc : s[k + n] = 165) : nextS s = (s.extract k (k + n), k + n + 1, 0) := by
  have e : s.data.toList[k + n]? = some s[k + n] := by
    have : k + n < s.data.toList.length := by simpa using hl
    rw [List.getElem?_eq_getElem this]; rfl
  unfold nextS; rw [if_neg h0, h]; simp only; rw [if_neg (by simp), if_neg hn, if_neg (by omega), if_neg (by rw [e, hc]; simp)]
/-- A frame that stands is some bytes, and no more than there are. -/
theorem nextS_ok (s : ByteArray) (h : (nextS s).2.2 = 0) : 0 < (nextS s).2.1 ∧ (nextS s).2.1 ≤ s.size := by
  unfold nextS at h ⊢
  split at h
  · simp at h
  · rename_i h0
    rw [if_neg h0]
    split at h
    · rename_i h1; exact absurd h h1
    · rename_i h1
      rw [if_neg h1]
      split at h
      · simp at h
      · rename_i h2
        rw [if_neg h2]
        split at h
        · simp at h
        · rename_i h3
          rw [if_neg h3]
          split at h
          · simp at h
          · rename_i h4
            rw [if_neg h4]
            show 0 < _ + _ + 1 ∧ _ + _ + 1 ≤ s.size
            omega
theorem nextS_bad (s : ByteArray) (h : (nextS s).2.2 ≠ 0) : (nextS s).1 = ⟨#[]⟩ ∧ (nextS s).2.1 = 0 := by
  unfold nextS at h ⊢
  split
  · exact ⟨rfl, rfl⟩
  · split
    · exact ⟨rfl, rfl⟩
    · split
      · exact ⟨rfl, rfl⟩
      · split
        · exact ⟨rfl, rfl⟩
        · split
          · exact ⟨rfl, rfl⟩
          · rename_i h0 h1 h2 h3 h4
            rw [if_neg h0, if_neg h1, if_neg h2, if_neg h3, if_neg h4] at h
            exact absurd rfl h
theorem scanF_more (f : Nat) : ∀ (g : Nat) (s : ByteArray), s.size ≤ f → s.size ≤ g → scanF f s = scanF g s := by
  induction f with
  | zero =>
    intro g s hf hg
    have h0 : s.size = 0 := by omega
    cases g with
    | zero => rfl
    | succ g => unfold scanF; rw [nextS_none s h0]; rfl
  | succ f ih =>
    intro g s hf hg
    cases g with
    | zero =>
      have h0 : s.size = 0 := by omega
      unfold scanF; rw [nextS_none s h0]; rfl
    | succ g =>
      unfold scanF
      by_cases h : (nextS s).2.2 = 0
      · rw [if_pos h, if_pos h]
        obtain ⟨h1, h2⟩ := nextS_ok s h
        have hz : (s.extract (nextS s).2.1 s.size).size = s.size - (nextS s).2.1 := by simp [ByteArray.size_extract]
        rw [ih g _ (by omega) (by omega)]
      · rw [if_neg h, if_neg h]
/-- One frame more. -/
theorem scanS_next (s : ByteArray) : scanS s = if (nextS s).2.2 = 0 then ((nextS s).1, (nextS s).2.1) :: scanS (s.extract (nextS s).2.1 s.size) else [] := by
  unfold scanS
  by_cases h : (nextS s).2.2 = 0
  · obtain ⟨h1, h2⟩ := nextS_ok s h
    have hz : (s.extract (nextS s).2.1 s.size).size = s.size - (nextS s).2.1 := by simp [ByteArray.size_extract]
    rw [if_pos h]
    obtain ⟨n, hn⟩ : ∃ n, s.size = n + 1 := ⟨s.size - 1, by omega⟩
    rw [hn, scanF, if_pos h, hn, ← hn, scanF_more n (s.extract (nextS s).2.1 s.size).size _ (by omega) (Nat.le_refl _)]
  · rw [if_neg h]
    cases hs : s.size with
    | zero => rfl
    | succ n => rw [scanF, if_neg h]
theorem scanS_bad (s : ByteArray) (h : (nextS s).2.2 ≠ 0) : scanS s = [] := by rw [scanS_next, if_neg h]

theorem wrap_list (s : ByteArray) : (wrapS s).data.toList = M.enc s.size ++ (s.data.toList ++ [165]) := by
  unfold wrapS rowB
  rw [app_toList, app_toList, encB_list, List.append_assoc]
/-- THE FRAME OF A ROW IS THE NEXT ONE, with whatever behind it. -/
theorem nextS_wrap (s R : ByteArray) (h1 : 1 ≤ s.size) (h2 : s.size ≤ 65536) : nextS (wrapS s ++ R) = (s, (wrapS s).size, 0) := by
  have e1 : wrapS s ++ R = M.encB s.size ++ (s ++ (⟨#[165]⟩ ++ R)) := by unfold wrapS rowB; simp only [ByteArray.append_assoc]
  have hn : M.num (wrapS s ++ R).data.toList = (s.size, (M.encB s.size).size, 0) := by rw [e1]; exact num_app _ _ (by omega)
  have hto : numTo (wrapS s ++ R).data.toList rowN = (s.size, (M.encB s.size).size, 0) := by
    rw [numTo_ok (.inr (by rw [hn]; simp [rowN]; omega)), hn]
  have hz : (wrapS s ++ R).size = (M.encB s.size).size + s.size + 1 + R.size := by rw [ByteArray.size_append, wrapS_size]
  have hlast : (wrapS s ++ R).data.toList[(M.encB s.size).size + s.size]? = some 165 := by
    rw [app_toList, wrap_list, ← encB_list, List.append_assoc, List.append_assoc]
    have l1 : (M.encB s.size).data.toList.length = (M.encB s.size).size := (Lib.size_eq _).symm
    have l2 : s.data.toList.length = s.size := (Lib.size_eq _).symm
    rw [List.getElem?_append_right (by omega), l1, Nat.add_sub_cancel_left, List.getElem?_append_right (by omega), l2, Nat.sub_self]
    rfl
  have hrow : (wrapS s ++ R).extract (M.encB s.size).size ((M.encB s.size).size + s.size) = s := by
    apply ByteArray.ext
    apply Array.toList_inj.1
    rw [Lib.extract_data, app_toList, wrap_list, ← encB_list, List.append_assoc]
    have l1 : (M.encB s.size).data.toList.length = (M.encB s.size).size := (Lib.size_eq _).symm
    have l2 : s.data.toList.length = s.size := (Lib.size_eq _).symm
    rw [List.drop_append_of_le_length (by omega), List.drop_of_length_le (by omega), List.nil_append, Nat.add_sub_cancel_left, List.append_assoc, ← l2, List.take_left]
  unfold nextS
  rw [if_neg (by omega), hto]
  simp only
  rw [if_neg (by simp), if_neg (by omega), if_neg (by omega), if_neg (by rw [hlast]; simp), hrow, wrapS_size]

/-- Of a number's bytes, not all are there: what is read goes on behind them. -/
theorem dig_take (f m : Nat) : ∀ (j k n : Nat) (r : List UInt8), f + k = 9 → j < (M.encF f m).length → ∃ n', M.dig ((M.encF f m).take j ++ r) k n = M.dig r (k + j) n' := by
  induction f generalizing m with
  | zero =>
    intro j k n r _ hj
    have : j = 0 := by simp [M.encF] at hj; exact hj
    subst this
    exact ⟨n, by simp⟩
  | succ f ih =>
    intro j k n r hk hj
    cases j with
    | zero => exact ⟨n, by simp⟩
    | succ j =>
      unfold M.encF at hj ⊢
      by_cases h : m < 128
      · rw [if_pos h] at hj; simp at hj
      · rw [if_neg h] at hj ⊢
        simp only [List.length_cons, Nat.add_lt_add_iff_right] at hj
        simp only [List.take_succ_cons, List.cons_append, M.dig, M.toNat_hi]
        rw [if_neg (by omega), if_neg (by omega)]
        obtain ⟨n', hn'⟩ := ih (m / 128) j (k + 1) (n + (m % 128 + 128) % 128 * 128 ^ k) r (by omega) hj
        exact ⟨n', by rw [hn']; congr 1; omega⟩
/-- A number's bytes that are cut are a fault; with a nought in the place of one that isn't the first, too; with a nought first they are 0. -/
theorem num_cut (n j : Nat) (h : j < (M.enc n).length) : M.num ((M.enc n).take j) = (0, 0, 2) := by
  obtain ⟨n', hn⟩ := dig_take 9 n j 0 0 [] rfl h
  unfold M.num M.enc
  rw [List.append_nil] at hn
  rw [hn]; rfl
theorem num_torn (n j : Nat) (r : List UInt8) (h : j < (M.enc n).length) (h0 : 0 < j) : M.num ((M.enc n).take j ++ 0 :: r) = (0, 0, 3) := by
  obtain ⟨n', hn⟩ := dig_take 9 n j 0 0 (0 :: r) rfl h
  unfold M.num M.enc
  rw [hn, M.dig, if_pos (.inr ⟨by omega, rfl⟩)]
theorem num_nought (r : List UInt8) : M.num (0 :: r) = (0, 1, 0) := by
  unfold M.num M.dig
  simp
end Go.Proofs.Ytbaajabiimckoaa
