/- The plain mathematics of events as bytes: numbers one behind the other, written and read. Nothing here speaks of the program. -/
import Derived.Test.YtnakmlnjfjgghaaDoorBackWalk
namespace Go.Proofs.YtnakmlnjfjgghaaDoor

theorem empty_append (R : ByteArray) : (⟨#[]⟩ : ByteArray) ++ R = R := by apply ByteArray.ext; rw [ByteArray.data_append]; simp
/-- Numbers one behind the other, as bytes. -/
def encL (l : List Int) : List UInt8 := l.flatMap (fun v => M.enc (M.zig v).toNat)
def encS (l : List Int) : ByteArray := ⟨(encL l).toArray⟩
def In64L (l : List Int) : Prop := ∀ x ∈ l, -9223372036854775808 ≤ x ∧ x ≤ 9223372036854775807

theorem encL_nil : encL [] = [] := rfl
theorem encL_cons (v : Int) (l : List Int) : encL (v :: l) = M.enc (M.zig v).toNat ++ encL l := by simp [encL]
theorem encL_app (a b : List Int) : encL (a ++ b) = encL a ++ encL b := by simp [encL]
theorem encL_len (l : List Int) : (encL l).length ≤ 10 * l.length := by
  induction l with
  | nil => simp [encL]
  | cons v l ih => rw [encL_cons, List.length_append, List.length_cons]; have := (M.enc_len (M.zig v).toNat).2; omega
theorem encS_cons (v : Int) (l : List Int) : encS (v :: l) = M.encB (M.zig v).toNat ++ encS l := by
  apply ByteArray.ext
  apply Array.toList_inj.1
  rw [app_toList, encB_list]
  simp [encS, encL_cons]
theorem encS_app (a b : List Int) : encS (a ++ b) = encS a ++ encS b := by
  apply ByteArray.ext
  apply Array.toList_inj.1
  rw [app_toList]
  simp [encS, encL_app]
theorem encS_nil : encS [] = ⟨#[]⟩ := rfl
theorem encS_size (l : List Int) : (encS l).size ≤ 10 * l.length := by
  have := encL_len l
  simpa [encS, ByteArray.size] using this
theorem encL_snoc (l : List Int) (k : Nat) (h : k < l.length) : encL (l.take (k + 1)) = encL (l.take k) ++ M.enc (M.zig l[k]).toNat := by
  rw [List.take_add_one, List.getElem?_eq_getElem h, Option.toList_some, encL_app, encL_cons, encL_nil, List.append_nil]

/-- n numbers, read from the bytes s under the fault e: the numbers, what is left, the fault. -/
def readN : Nat → ByteArray → Int → List Int × ByteArray × Int
  | 0, s, e => ([], s, e)
  | n + 1, s, e =>
    let q := AfterX s e (M.num s.data.toList).2.1 (M.num s.data.toList).2.2
    let r := readN n q.1 q.2
    (orZ e (M.zag (M.num s.data.toList).1) 0 :: r.1, r.2)
/-- The fault behind the last number: what is left is one. -/
def endF (s : ByteArray) (e : Int) : Int := if 0 < s.size then orZ e 3 e else e
/-- What of any bytes is n numbers, and nothing behind; or the fault. -/
def getN (n : Nat) (s : ByteArray) : List Int × Int :=
  if endF (readN n s 0).2.1 (readN n s 0).2.2 = 0 then ((readN n s 0).1, 0) else (List.replicate n 0, endF (readN n s 0).2.1 (readN n s 0).2.2)

theorem readN_len (n : Nat) : ∀ s e, (readN n s e).1.length = n := by
  induction n with
  | zero => intro s e; rfl
  | succ n ih => intro s e; simp [readN, ih]
theorem readN_size (n : Nat) : ∀ s e, (readN n s e).2.1.size ≤ s.size := by
  induction n with
  | zero => intro s e; exact Nat.le_refl _
  | succ n ih =>
    intro s e
    have h1 := ih (AfterX s e (M.num s.data.toList).2.1 (M.num s.data.toList).2.2).1 (AfterX s e (M.num s.data.toList).2.1 (M.num s.data.toList).2.2).2
    have h2 : (AfterX s e (M.num s.data.toList).2.1 (M.num s.data.toList).2.2).1.size ≤ s.size := by
      unfold AfterX
      split
      · split
        · simp [ByteArray.size_extract]
        · exact Nat.le_refl _
      · exact Nat.le_refl _
    exact Nat.le_trans h1 h2
/-- The last one of n + 1. -/
theorem readN_snoc (n : Nat) : ∀ s e, readN (n + 1) s e =
    ((readN n s e).1 ++ [orZ (readN n s e).2.2 (M.zag (M.num (readN n s e).2.1.data.toList).1) 0],
      (AfterX (readN n s e).2.1 (readN n s e).2.2 (M.num (readN n s e).2.1.data.toList).2.1 (M.num (readN n s e).2.1.data.toList).2.2)) := by
  induction n with
  | zero => intro s e; rfl
  | succ n ih =>
    intro s e
    rw [readN, ih]
    rfl
theorem getN_len (n : Nat) (s : ByteArray) : (getN n s).1.length = n := by
  unfold getN
  split
  · exact readN_len n s 0
  · simp
theorem zag_in (l : ByteArray) : -9223372036854775808 ≤ M.zag (M.num l.data.toList).1 ∧ M.zag (M.num l.data.toList).1 ≤ 9223372036854775807 := by
  have := M.num_lt l.data.toList
  exact M.zag_bd _ (by omega) (by omega)
theorem readN_in (n : Nat) : ∀ s e, In64L (readN n s e).1 := by
  induction n with
  | zero => intro s e x hx; simp [readN] at hx
  | succ n ih =>
    intro s e x hx
    rw [readN] at hx
    simp only [List.mem_cons] at hx
    rcases hx with rfl | hx
    · by_cases he : e = 0
      · subst he; rw [orZ_ok]; exact zag_in s
      · rw [orZ_no _ _ _ he]; omega
    · exact ih _ _ x hx
theorem getN_in (n : Nat) (s : ByteArray) : In64L (getN n s).1 := by
  unfold getN
  split
  · exact readN_in n s 0
  · intro x hx; have := List.eq_of_mem_replicate hx; omega

/-- WHAT IS WRITTEN IS READ AS IT WAS. -/
theorem readN_enc (l : List Int) (h : In64L l) : ∀ R : ByteArray, readN l.length (encS l ++ R) 0 = (l, R, 0) := by
  induction l with
  | nil => intro R; show ([], encS [] ++ R, 0) = _; rw [encS_nil, empty_append]
  | cons v l ih =>
    intro R
    have hv := h v (List.mem_cons_self ..)
    obtain ⟨z1, z2⟩ := M.zig_bd v hv.1 hv.2
    have hn : M.num (encS (v :: l) ++ R).data.toList = ((M.zig v).toNat, (M.encB (M.zig v).toNat).size, 0) := by
      rw [encS_cons, ByteArray.append_assoc]; exact num_app _ _ (by omega)
    rw [List.length_cons, readN, hn]
    simp only [afterX_ok, orZ_ok]
    have e1 : (encS (v :: l) ++ R).extract (M.encB (M.zig v).toNat).size (encS (v :: l) ++ R).size = encS l ++ R := by
      rw [encS_cons, ByteArray.append_assoc]; exact ext_app _ _
    rw [e1, ih (fun x hx => h x (List.mem_cons_of_mem _ hx)) R, Int.toNat_of_nonneg z1, M.zag_zig]
theorem getN_enc (l : List Int) (h : In64L l) : getN l.length (encS l) = (l, 0) := by
  have := readN_enc l h ⟨#[]⟩
  have e : encS l ++ ⟨#[]⟩ = encS l := by apply ByteArray.ext; simp
  rw [e] at this
  unfold getN
  rw [this]
  rfl

/-- WHAT IS GOT IS PUT AS IT WAS. -/
theorem readN_one (n : Nat) : ∀ s e, (readN n s e).2.2 = 0 → e = 0 ∧ encS (readN n s e).1 ++ (readN n s e).2.1 = s := by
  induction n with
  | zero => intro s e h; exact ⟨h, by show encS [] ++ s = s; rw [encS_nil]; apply ByteArray.ext; simp⟩
  | succ n ih =>
    intro s e h
    rw [readN] at h ⊢
    simp only at h ⊢
    obtain ⟨h1, h2⟩ := ih _ _ h
    have he : e = 0 := by
      apply Decidable.byContradiction
      intro hne
      rw [AfterX_stop _ _ _ _ hne] at h1
      exact hne h1
    subst he
    have her : (M.num s.data.toList).2.2 = 0 := by
      apply Decidable.byContradiction
      intro hne
      rw [afterX_no _ _ _ hne] at h1
      exact hne h1
    refine ⟨rfl, ?_⟩
    rw [orZ_ok, encS_cons, ByteArray.append_assoc, h2, her, afterX_ok]
    have hlt := M.num_lt s.data.toList
    rw [M.zig_zag _ (by omega), Int.toNat_natCast]
    apply ByteArray.ext
    apply Array.toList_inj.1
    rw [app_toList, encB_list, M.num_one _ her, Lib.extract_data]
    have : s.data.toList.length = s.size := (Lib.size_eq s).symm
    rw [List.take_of_length_le (l := s.data.toList.drop _) (by rw [List.length_drop]; omega)]
    exact List.take_append_drop _ _
theorem getN_one (n : Nat) (s : ByteArray) (h : (getN n s).2 = 0) : encS (getN n s).1 = s := by
  unfold getN at h ⊢
  split at h
  · rename_i h0
    rw [if_pos h0]
    unfold endF at h0
    by_cases hz : 0 < (readN n s 0).2.1.size
    · rw [if_pos hz] at h0
      exfalso
      by_cases he : (readN n s 0).2.2 = 0
      · rw [he, orZ_ok] at h0; omega
      · rw [orZ_no _ _ _ he] at h0; exact he h0
    · rw [if_neg hz] at h0
      obtain ⟨_, h2⟩ := readN_one n s 0 h0
      have e : (readN n s 0).2.1 = ⟨#[]⟩ := by
        apply ByteArray.ext
        apply Array.toList_inj.1
        apply List.eq_nil_of_length_eq_zero
        have := Lib.size_eq (readN n s 0).2.1
        omega
      rw [e] at h2
      have e2 : encS (readN n s 0).1 ++ ⟨#[]⟩ = encS (readN n s 0).1 := by apply ByteArray.ext; simp
      rwa [e2] at h2
  · rename_i h0; exact absurd h h0
end Go.Proofs.YtnakmlnjfjgghaaDoor
