/- Names of files, letter by letter: what a beginning tells of the whole; plain. -/
import Derived.Test.YtgdfnngfifjdmaaDoorSfKind
namespace Go.Proofs.YtgdfnngfifjdmaaDoor
open Go.RowKit Base Base2

theorem kindS_not {s : ByteArray} (h0 : s ≠ headsB) (h1 : ∀ n : Nat, n ≤ 1099511627776 → s ≠ nameB 115 (n : Int) ∧ s ≠ nameB 99 (n : Int)) : kindS s = (0, 0, false) := by
  rcases kindS_is s with h | ⟨h, _⟩ | ⟨n, hn, ⟨h, _⟩ | ⟨h, _⟩⟩
  · exact h
  · exact absurd h h0
  · exact absurd h (h1 n hn).1
  · exact absurd h (h1 n hn).2
/-- Whatever is said of each name's letters and isn't so of s: s is no name. -/
theorem kindS_by {s : ByteArray} (h0 : s ≠ headsB) (h1 : ∀ (c : UInt8) (n : Nat), c = 115 ∨ c = 99 → n ≤ 1099511627776 → s.data.toList ≠ c :: decL n) : kindS s = (0, 0, false) :=
  kindS_not h0 fun n hn => ⟨fun e => h1 115 n (.inl rfl) hn (by rw [e]; exact nameB_list 115 n hn), fun e => h1 99 n (.inr rfl) hn (by rw [e]; exact nameB_list 99 n hn)⟩
theorem decL_ne (n : Nat) : decL n ≠ [] := by
  by_cases h : n < 10
  · rw [decL_small h]; simp
  · rw [decL_more h]; simp
theorem decL_zero' : decL 0 = [48] := by rw [decL_small (by omega)]; rfl
theorem decL_head : ∀ n : Nat, 1 ≤ n → ∀ l, decL n ≠ 48 :: l := by
  intro n
  induction n using Nat.strongRecOn with
  | _ n ih =>
    intro h1 l
    by_cases h : n < 10
    · rw [decL_small h]
      intro e
      have e1 : (UInt8.ofNat (48 + n)) = 48 := (List.cons.inj e).1
      have e2 := congrArg UInt8.toNat e1
      rw [digit_toNat n h] at e2
      have : (48 : UInt8).toNat = 48 := rfl
      omega
    · rw [decL_more h]
      rcases hd : decL (n / 10) with _ | ⟨a, t⟩
      · exact absurd hd (decL_ne _)
      · intro e
        rw [List.cons_append] at e
        obtain ⟨rfl, _⟩ := List.cons.inj e
        exact ih (n / 10) (by omega) (by omega) t hd
theorem valL_ge : ∀ (l : List UInt8) (acc n : Nat), valL acc l = some n → acc ≤ n
  | [], acc, n, h => by simp [valL] at h; omega
  | c :: l, acc, n, h => by
    rw [valL_cons] at h
    by_cases hc : c.toNat < 48 ∨ 57 < c.toNat
    · rw [if_pos hc] at h; cases h
    · rw [if_neg hc] at h
      have := valL_ge l _ n h
      omega
theorem dig_eq {b : UInt8} {d : Nat} (h : b.toNat = 48 + d) : b = UInt8.ofNat (48 + d) := by
  apply UInt8.toNat.inj
  rw [h, UInt8.toNat_ofNat']
  have := b.toNat_lt
  omega
theorem decL_snoc {n d : Nat} (h : 1 ≤ n) (hd : d < 10) : decL (10 * n + d) = decL n ++ [UInt8.ofNat (48 + d)] := by
  rw [decL_more (show ¬ 10 * n + d < 10 by omega), show (10 * n + d) / 10 = n by omega, show (10 * n + d) % 10 = d by omega]
theorem take_snoc (s : ByteArray) (i : Nat) (h : i < s.size) : s.data.toList.take (i + 1) = s.data.toList.take i ++ [s[i]] := by
  rw [List.take_add_one, ← List.head?_drop, dropL s i h]; rfl
theorem take_all (s : ByteArray) : s.data.toList.take s.size = s.data.toList := by
  rw [Lib.size_eq, List.take_length]
theorem split_at (s : ByteArray) (i : Nat) (h : i < s.size) : s.data.toList = s.data.toList.take i ++ s[i] :: s.data.toList.drop (i + 1) := by
  rw [← dropL s i h, List.take_append_drop]
theorem decL_dig : ∀ (n : Nat), ∀ b ∈ decL n, 48 ≤ b.toNat ∧ b.toNat ≤ 57 := by
  intro n
  induction n using Nat.strongRecOn with
  | _ n ih =>
    intro b hb
    by_cases h : n < 10
    · rw [decL_small h] at hb
      obtain rfl := List.mem_singleton.1 hb
      rw [digit_toNat n h]; omega
    · rw [decL_more h] at hb
      rcases List.mem_append.1 hb with hb | hb
      · exact ih (n / 10) (by omega) b hb
      · obtain rfl := List.mem_singleton.1 hb
        rw [digit_toNat _ (by omega)]; omega
theorem kind_first {s : ByteArray} (h0 : s ≠ headsB) (h : 0 < s.size) (ha : s[0] ≠ 115) (hc : s[0] ≠ 99) : kindS s = (0, 0, false) :=
  kindS_no h0 (.inr (.inr (by rw [first_at s h]; exact ⟨ha, hc⟩)))
theorem kind_short {s : ByteArray} (h0 : s ≠ headsB) (h : s.size < 2) : kindS s = (0, 0, false) := kindS_no h0 (.inl h)
theorem kind_digit {s : ByteArray} (h0 : s ≠ headsB) {i : Nat} (h1 : 1 ≤ i) (h : i < s.size) (hd : s[i].toNat < 48 ∨ 57 < s[i].toNat) : kindS s = (0, 0, false) :=
  kindS_by h0 fun c n _ _ e => by
    have e2 := dropL s i h
    rw [e] at e2
    obtain ⟨j, rfl⟩ : ∃ j, i = j + 1 := ⟨i - 1, by omega⟩
    rw [List.drop_succ_cons] at e2
    have hm : s[j + 1] ∈ decL n := List.mem_of_mem_drop (i := j) (by rw [e2]; exact List.mem_cons_self ..)
    have := decL_dig n _ hm
    omega
theorem kind_zero {s : ByteArray} (h0 : s ≠ headsB) {i : Nat} (h : i < s.size) {c : UInt8} (ht : s.data.toList.take i = c :: decL 0) : kindS s = (0, 0, false) :=
  kindS_by h0 fun c' n _ _ e => by
    have e2 := split_at s i h
    rw [ht, e, decL_zero'] at e2
    have e3 := (List.cons.inj e2).2
    rcases Nat.eq_zero_or_pos n with rfl | hn
    · rw [decL_zero'] at e3; simp at e3
    · exact decL_head n hn _ e3
theorem kind_big {s : ByteArray} (h0 : s ≠ headsB) {i m : Nat} {c : UInt8} (ht : s.data.toList.take i = c :: decL m) (hm : 1099511627776 < m) : kindS s = (0, 0, false) :=
  kindS_by h0 fun c' n _ hn e => by
    have e2 := (List.take_append_drop i s.data.toList).symm
    rw [ht, e] at e2
    rw [List.cons_append] at e2
    have e3 := congrArg (valL 0) (List.cons.inj e2).2
    rw [valL_dec, valL_app, valL_dec] at e3
    have := valL_ge _ _ _ e3.symm
    omega
theorem kind_end {s : ByteArray} {c : UInt8} {m : Nat} (hm : m ≤ 1099511627776) (ht : s.data.toList = c :: decL m) : (c = 115 → kindS s = (1, (m : Int), true)) ∧ (c = 99 → kindS s = (2, (m : Int), true)) := by
  have e : s = nameB c (m : Int) := by
    apply ByteArray.ext; apply Array.ext'
    rw [ht, nameB_list c m hm]
  exact ⟨fun hc => by rw [e, hc]; exact kindS_seg m hm, fun hc => by rw [e, hc]; exact kindS_col m hm⟩
/-- What is known behind some letters: the kind so far, the number so far (-1: no digit). -/
def ScanAt (s : ByteArray) (i : Nat) (k n : Int) : Prop :=
  (i = 0 ∧ k = 0 ∧ n = -1) ∨ ∃ c : UInt8, ((c = 115 ∧ k = 1) ∨ (c = 99 ∧ k = 2)) ∧ ((i = 1 ∧ n = -1 ∧ s.data.toList.take i = [c]) ∨ ∃ m : Nat, m ≤ 1099511627776 ∧ n = (m : Int) ∧ 2 ≤ i ∧ s.data.toList.take i = c :: decL m)
theorem ScanAt.first {s : ByteArray} (h : 0 < s.size) {c : UInt8} {k : Int} (hc : s[0] = c) (hk : (c = 115 ∧ k = 1) ∨ (c = 99 ∧ k = 2)) : ScanAt s 1 k (-1) :=
  .inr ⟨c, hk, .inl ⟨rfl, rfl, by rw [show 1 = 0 + 1 from rfl, take_snoc s 0 h, hc]; rfl⟩⟩
theorem ScanAt.dig {s : ByteArray} {i d : Nat} {c : UInt8} {k : Int} (hk : (c = 115 ∧ k = 1) ∨ (c = 99 ∧ k = 2)) (h : i < s.size) (hi : i = 1) (ht : s.data.toList.take i = [c]) (hd : s[i].toNat = 48 + d) (hd2 : d < 10) : ScanAt s (i + 1) k (d : Int) :=
  .inr ⟨c, hk, .inr ⟨d, by omega, rfl, by omega, by rw [take_snoc s i h, ht, dig_eq hd, decL_small hd2]; rfl⟩⟩
theorem take_more {s : ByteArray} {i d m : Nat} {c : UInt8} (h : i < s.size) (ht : s.data.toList.take i = c :: decL m) (hm : 1 ≤ m) (hd : s[i].toNat = 48 + d) (hd2 : d < 10) : s.data.toList.take (i + 1) = c :: decL (10 * m + d) := by
  rw [take_snoc s i h, ht, dig_eq hd, decL_snoc hm hd2]; rfl
theorem ScanAt.more {s : ByteArray} {i d m : Nat} {c : UInt8} {k : Int} (hk : (c = 115 ∧ k = 1) ∨ (c = 99 ∧ k = 2)) (h : i < s.size) (hi : 2 ≤ i) (ht : s.data.toList.take i = c :: decL m) (hm : 1 ≤ m) (hd : s[i].toNat = 48 + d) (hd2 : d < 10) (hb : 10 * m + d ≤ 1099511627776) : ScanAt s (i + 1) k ((10 * m + d : Nat) : Int) :=
  .inr ⟨c, hk, .inr ⟨_, hb, rfl, by omega, take_more h ht hm hd hd2⟩⟩
end Go.Proofs.YtgdfnngfifjdmaaDoor
