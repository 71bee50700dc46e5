/- Plain mathematics of clashes: what is hashed for a root, chains, the clash of two rows and of two chains, over any digest. -/
import Derived.Test.YtalgailclcefdaaDoorTreeMath
import Derived.Test.YtalgailclcefdaaDoorMath
namespace Go.Proofs.YtalgailclcefdaaDoor

/-- What is hashed for the root of some leaves. -/
def hashedS (h : ByteArray → ByteArray) (l : List ByteArray) : ByteArray :=
  if l.length = 0 then ⟨#[]⟩ else if l.length = 1 then (⟨#[0]⟩ : ByteArray) ++ l.getD 0 ⟨#[]⟩
  else ((⟨#[1]⟩ : ByteArray) ++ rootS h (l.take (spl l.length))) ++ rootS h (l.drop (spl l.length))
theorem root_hashed (h : ByteArray → ByteArray) (l : List ByteArray) : rootS h l = h (hashedS h l) := by
  unfold hashedS
  by_cases e0 : l.length = 0
  · rw [if_pos e0, rootS_nil h e0]
  · by_cases e1 : l.length = 1
    · rw [if_neg e0, if_pos e1, rootS_one h e1]; rfl
    · rw [if_neg e0, if_neg e1, rootS_two h (by omega)]; rfl
/-- The clash of two rows of leaves (that are as many, and aren't alike). -/
def findS (h : ByteArray → ByteArray) (a b : List ByteArray) : ByteArray × ByteArray :=
  if hashedS h a ≠ hashedS h b then (hashedS h a, hashedS h b)
  else if _h : a.length < 2 then (hashedS h a, hashedS h b)
  else if a.take (spl a.length) ≠ b.take (spl a.length) then findS h (a.take (spl a.length)) (b.take (spl a.length))
  else findS h (a.drop (spl a.length)) (b.drop (spl a.length))
termination_by a.length
decreasing_by
  · have := spl_lt (c := a.length) (by omega); simp; omega
  · have := spl_pos (c := a.length) (by omega); simp; omega
theorem findS_now (h : ByteArray → ByteArray) {a b : List ByteArray} (e : hashedS h a ≠ hashedS h b) : findS h a b = (hashedS h a, hashedS h b) := by rw [findS, if_pos e]
theorem findS_left (h : ByteArray → ByteArray) {a b : List ByteArray} (e : hashedS h a = hashedS h b) (hl : 2 ≤ a.length) (ht : a.take (spl a.length) ≠ b.take (spl a.length)) :
    findS h a b = findS h (a.take (spl a.length)) (b.take (spl a.length)) := by rw [findS, if_neg (by simpa using e), dif_neg (by omega), if_pos ht]
theorem findS_right (h : ByteArray → ByteArray) {a b : List ByteArray} (e : hashedS h a = hashedS h b) (hl : 2 ≤ a.length) (ht : a.take (spl a.length) = b.take (spl a.length)) :
    findS h a b = findS h (a.drop (spl a.length)) (b.drop (spl a.length)) := by rw [findS, if_neg (by simpa using e), dif_neg (by omega), if_neg (by simpa using ht)]

theorem bytes_ext {a b : ByteArray} (h : a.data.toList = b.data.toList) : a = b := ByteArray.ext (Array.ext' h)
theorem add_data (a b : ByteArray) : (a ++ b).data.toList = a.data.toList ++ b.data.toList := by simp
theorem size_data (a : ByteArray) : a.data.toList.length = a.size := by simp
/-- Like texts of like beginnings. -/
theorem add_inj {a b c d : ByteArray} (hs : a.size = c.size) (h : a ++ b = c ++ d) : a = c ∧ b = d := by
  have e := congrArg (fun s : ByteArray => s.data.toList) h
  simp only [add_data] at e
  have := List.append_inj e (by rw [size_data, size_data]; exact hs)
  exact ⟨bytes_ext this.1, bytes_ext this.2⟩
theorem one_leaf {a : List ByteArray} (h : a.length = 1) : a = [a.getD 0 ⟨#[]⟩] := by
  obtain ⟨t, rfl⟩ := List.length_eq_one_iff.1 h; rfl
/-- What is hashed alike has like parts. -/
theorem hashed_inj (h : ByteArray → ByteArray) (n : Nat) (hn : ∀ s, (h s).size = n) {a b : List ByteArray} (hl : a.length = b.length) (e : hashedS h a = hashedS h b) :
    (a.length < 2 → a = b) ∧ (2 ≤ a.length → rootS h (a.take (spl a.length)) = rootS h (b.take (spl a.length)) ∧ rootS h (a.drop (spl a.length)) = rootS h (b.drop (spl a.length))) := by
  unfold hashedS at e
  rw [← hl] at e
  by_cases e0 : a.length = 0
  · refine ⟨fun _ => ?_, fun h2 => by omega⟩
    exact (List.eq_nil_of_length_eq_zero e0).trans (List.eq_nil_of_length_eq_zero (show b.length = 0 by omega)).symm
  · by_cases e1 : a.length = 1
    · refine ⟨fun _ => ?_, fun h2 => by omega⟩
      rw [if_neg e0, if_pos e1, if_neg e0, if_pos e1] at e
      exact (one_leaf e1).trans ((congrArg (fun t => [t]) (add_inj rfl e).2).trans (one_leaf (show b.length = 1 by omega)).symm)
    · refine ⟨fun h2 => by omega, fun h2 => ?_⟩
      rw [if_neg e0, if_neg e1, if_neg e0, if_neg e1] at e
      have hs : ∀ l, ((⟨#[1]⟩ : ByteArray) ++ rootS h l).size = 1 + n := fun l => by rw [ByteArray.size_append, rootS_size h n hn]; rfl
      obtain ⟨f1, f2⟩ := add_inj (by rw [hs, hs]) e
      exact ⟨(add_inj rfl f1).2, f2⟩
/-- THE CLASH OF TWO ROWS CLASHES. -/
theorem find_true (h : ByteArray → ByteArray) (n : Nat) (hn : ∀ s, (h s).size = n) (a : List ByteArray) : ∀ b, a.length = b.length → rootS h a = rootS h b → a ≠ b →
    (findS h a b).1 ≠ (findS h a b).2 ∧ h (findS h a b).1 = h (findS h a b).2 := by
  obtain ⟨m, hm⟩ : ∃ m, a.length = m := ⟨_, rfl⟩
  induction m using Nat.strongRecOn generalizing a with
  | ind m ih =>
    intro b hl hr hab
    by_cases e : hashedS h a = hashedS h b
    · obtain ⟨h1, h2⟩ := hashed_inj h n hn hl e
      have hl2 : 2 ≤ a.length := by
        rcases Nat.lt_or_ge a.length 2 with hlt | hge
        · exact absurd (h1 hlt) hab
        · exact hge
      obtain ⟨r1, r2⟩ := h2 hl2
      have p1 := spl_pos hl2
      have p2 := spl_lt hl2
      by_cases ht : a.take (spl a.length) = b.take (spl a.length)
      · rw [findS_right h e hl2 ht]
        refine ih (a.length - spl a.length) (by omega) (a.drop (spl a.length)) (by simp) (b.drop (spl a.length)) (by simp; omega) r2 (fun hd => hab ?_)
        rw [← List.take_append_drop (spl a.length) a, ht, hd, List.take_append_drop]
      · rw [findS_left h e hl2 ht]
        exact ih (spl a.length) (by omega) (a.take (spl a.length)) (by simp; omega) (b.take (spl a.length)) (by simp; omega) r1 ht
    · rw [findS_now h e]
      exact ⟨e, (root_hashed h a).symm.trans (hr.trans (root_hashed h b))⟩

/-- A row's bytes. -/
def rowBy (s : ByteArray) : ByteArray := M.encB s.size ++ s
theorem encB_data (n : Nat) : (M.encB n).data.toList = M.enc n := by simp [M.encB]
/-- What is hashed last for a chain, whose hash so far and whose last text these are. -/
def lastS (x t : ByteArray) : ByteArray := rowBy x ++ rowBy t
/-- The hash of a chain. -/
def chainS (h : ByteArray → ByteArray) (l : List ByteArray) : ByteArray := l.foldl (fun x t => h (lastS x t)) (h ⟨#[]⟩)
theorem chain_nil (h : ByteArray → ByteArray) : chainS h [] = h ⟨#[]⟩ := rfl
theorem chain_snoc (h : ByteArray → ByteArray) (l : List ByteArray) (t : ByteArray) : chainS h (l ++ [t]) = h (lastS (chainS h l) t) := by simp [chainS]
theorem chain_size (h : ByteArray → ByteArray) (n : Nat) (hn : ∀ s, (h s).size = n) (l : List ByteArray) : (chainS h l).size = n := by
  rcases List.eq_nil_or_concat l with rfl | ⟨l', t, rfl⟩
  · exact hn _
  · rw [List.concat_eq_append, chain_snoc]; exact hn _
/-- A row's bytes are read back, whatever stands behind. -/
theorem row_inj {s t : ByteArray} {x y : List UInt8} (hs : s.size < 18446744073709551616) (ht : t.size < 18446744073709551616) (h : (rowBy s).data.toList ++ x = (rowBy t).data.toList ++ y) : s = t ∧ x = y := by
  unfold rowBy at h
  rw [add_data, add_data, encB_data, encB_data, List.append_assoc, List.append_assoc] at h
  have e1 := M.num_enc s.size (s.data.toList ++ x) hs
  have e2 := M.num_enc t.size (t.data.toList ++ y) ht
  rw [h, e2] at e1
  have hz : s.size = t.size := (congrArg (·.1) e1).symm
  rw [hz] at h
  have h2 := List.append_cancel_left h
  have := List.append_inj h2 (by rw [size_data, size_data]; exact hz)
  exact ⟨bytes_ext this.1, this.2⟩
theorem last_inj {x y s t : ByteArray} (hx : x.size < 18446744073709551616) (hy : y.size < 18446744073709551616) (hs : s.size < 18446744073709551616) (ht : t.size < 18446744073709551616) (h : lastS x s = lastS y t) : x = y ∧ s = t := by
  have e := congrArg (fun s : ByteArray => s.data.toList) h
  simp only [lastS, add_data (rowBy _) (rowBy _)] at e
  obtain ⟨h1, h2⟩ := row_inj hx hy e
  obtain ⟨h3, _⟩ := row_inj (x := []) (y := []) hs ht (by rw [List.append_nil, List.append_nil]; exact h2)
  exact ⟨h1, h3⟩
/-- The clash of two chains (their last texts first), that are as many and aren't alike. -/
def chainF (h : ByteArray → ByteArray) : List ByteArray → List ByteArray → ByteArray × ByteArray
  | s :: a, t :: b => if lastS (chainS h a.reverse) s ≠ lastS (chainS h b.reverse) t then (lastS (chainS h a.reverse) s, lastS (chainS h b.reverse) t) else chainF h a b
  | _, _ => (⟨#[]⟩, ⟨#[]⟩)
/-- THE CLASH OF TWO CHAINS CLASHES. -/
theorem chain_true (h : ByteArray → ByteArray) (n : Nat) (hn : ∀ s, (h s).size = n) (hn2 : n < 18446744073709551616) (a : List ByteArray) : ∀ b, a.length = b.length → (∀ s ∈ a, s.size < 18446744073709551616) → (∀ s ∈ b, s.size < 18446744073709551616) → chainS h a.reverse = chainS h b.reverse → a ≠ b →
    (chainF h a b).1 ≠ (chainF h a b).2 ∧ h (chainF h a b).1 = h (chainF h a b).2 := by
  induction a with
  | nil => intro b hl _ _ _ hab; exact absurd (List.eq_nil_of_length_eq_zero hl.symm).symm hab
  | cons s a ih =>
    intro b hl hs ht hc hab
    match b, hl with
    | t :: b, hl =>
      rw [List.reverse_cons, List.reverse_cons, chain_snoc, chain_snoc] at hc
      unfold chainF
      by_cases e : lastS (chainS h a.reverse) s = lastS (chainS h b.reverse) t
      · rw [if_neg (by simpa using e)]
        obtain ⟨h1, h2⟩ := last_inj (by rw [chain_size h n hn]; exact hn2) (by rw [chain_size h n hn]; exact hn2) (hs s (by simp)) (ht t (by simp)) e
        exact ih b (by simpa using hl) (fun u hu => hs u (by simp [hu])) (fun u hu => ht u (by simp [hu])) h1 (fun hab2 => hab (by rw [h2, hab2]))
      · rw [if_pos e]
        exact ⟨e, hc⟩
end Go.Proofs.YtalgailclcefdaaDoor
