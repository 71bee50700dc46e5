/- Plain mathematics of trees: the split, roots, proofs, the way up, over any digest. -/
import Derived.Test.YtipaicfmodgcoaaDoorRows
import Derived.Laws.Strings
namespace Go.Proofs.YtipaicfmodgcoaaDoor

/-- The greatest power of 2 below c; 0. -/
def spl (c : Nat) : Nat := if c < 2 then 0 else 2 ^ Nat.log2 (c - 1)
theorem spl_pos {c : Nat} (h : 2 ≤ c) : 1 ≤ spl c := by
  unfold spl; rw [if_neg (by omega)]; exact Nat.one_le_two_pow
theorem spl_lt {c : Nat} (h : 2 ≤ c) : spl c < c := by
  unfold spl; rw [if_neg (by omega)]
  have := Nat.log2_self_le (n := c - 1) (by omega)
  omega
theorem spl_small {c : Nat} (h : c < 2) : spl c = 0 := by unfold spl; rw [if_pos h]
theorem spl_two {c : Nat} (h : 2 ≤ c) : c ≤ 2 * spl c := by
  unfold spl; rw [if_neg (by omega)]
  have := Nat.lt_log2_self (n := c - 1)
  rw [Nat.pow_succ] at this
  omega
theorem spl_is {c a : Nat} (h : 2 ≤ c) (h1 : 2 ^ a < c) (h2 : c ≤ 2 * 2 ^ a) : spl c = 2 ^ a := by
  unfold spl; rw [if_neg (by omega)]
  congr 1
  rw [Nat.log2_eq_iff (by omega), Nat.pow_succ]
  omega

def leafS (h : ByteArray → ByteArray) (s : ByteArray) : ByteArray := h ((⟨#[0]⟩ : ByteArray) ++ s)
def nodeS (h : ByteArray → ByteArray) (a b : ByteArray) : ByteArray := h (((⟨#[1]⟩ : ByteArray) ++ a) ++ b)
/-- The root of some leaves. -/
def rootS (h : ByteArray → ByteArray) (l : List ByteArray) : ByteArray :=
  if _h0 : l.length = 0 then h ⟨#[]⟩
  else if _h1 : l.length = 1 then leafS h (l.getD 0 ⟨#[]⟩)
  else nodeS h (rootS h (l.take (spl l.length))) (rootS h (l.drop (spl l.length)))
termination_by l.length
decreasing_by
  · have := spl_lt (c := l.length) (by omega); simp; omega
  · have := spl_pos (c := l.length) (by omega); simp; omega
theorem rootS_nil (h : ByteArray → ByteArray) {l : List ByteArray} (e : l.length = 0) : rootS h l = h ⟨#[]⟩ := by rw [rootS, dif_pos e]
theorem rootS_one (h : ByteArray → ByteArray) {l : List ByteArray} (e : l.length = 1) : rootS h l = leafS h (l.getD 0 ⟨#[]⟩) := by rw [rootS, dif_neg (by omega), dif_pos e]
theorem rootS_two (h : ByteArray → ByteArray) {l : List ByteArray} (e : 2 ≤ l.length) : rootS h l = nodeS h (rootS h (l.take (spl l.length))) (rootS h (l.drop (spl l.length))) := by rw [rootS, dif_neg (by omega), dif_neg (by omega)]
theorem rootS_size (h : ByteArray → ByteArray) (n : Nat) (hn : ∀ s, (h s).size = n) (l : List ByteArray) : (rootS h l).size = n := by
  rw [rootS]; split
  · exact hn _
  · split <;> exact hn _

/-- The proof of a leaf. -/
def proofS (h : ByteArray → ByteArray) (l : List ByteArray) (k : Nat) : List ByteArray :=
  if _h0 : l.length < 2 then []
  else if k < spl l.length then proofS h (l.take (spl l.length)) k ++ [rootS h (l.drop (spl l.length))]
  else proofS h (l.drop (spl l.length)) (k - spl l.length) ++ [rootS h (l.take (spl l.length))]
termination_by l.length
decreasing_by
  · have := spl_lt (c := l.length) (by omega); simp; omega
  · have := spl_pos (c := l.length) (by omega); simp; omega
theorem proofS_nil (h : ByteArray → ByteArray) {l : List ByteArray} (k : Nat) (e : l.length < 2) : proofS h l k = [] := by rw [proofS, dif_pos e]
theorem proofS_left (h : ByteArray → ByteArray) {l : List ByteArray} {k : Nat} (e : 2 ≤ l.length) (hk : k < spl l.length) : proofS h l k = proofS h (l.take (spl l.length)) k ++ [rootS h (l.drop (spl l.length))] := by
  rw [proofS, dif_neg (by omega), if_pos hk]
theorem proofS_right (h : ByteArray → ByteArray) {l : List ByteArray} {k : Nat} (e : 2 ≤ l.length) (hk : ¬ k < spl l.length) : proofS h l k = proofS h (l.drop (spl l.length)) (k - spl l.length) ++ [rootS h (l.take (spl l.length))] := by
  rw [proofS, dif_neg (by omega), if_neg hk]

/-- Of each split on the way down: is the leaf on the second side? -/
def turnsS (k c : Nat) : List Bool :=
  if _h0 : c < 2 then []
  else if k < spl c then false :: turnsS k (spl c) else true :: turnsS (k - spl c) (c - spl c)
termination_by c
decreasing_by
  · exact spl_lt (by omega)
  · have := spl_pos (c := c) (by omega); omega
theorem turnsS_nil {k c : Nat} (e : c < 2) : turnsS k c = [] := by rw [turnsS, dif_pos e]
theorem turnsS_left {k c : Nat} (e : 2 ≤ c) (hk : k < spl c) : turnsS k c = false :: turnsS k (spl c) := by rw [turnsS, dif_neg (by omega), if_pos hk]
theorem turnsS_right {k c : Nat} (e : 2 ≤ c) (hk : ¬ k < spl c) : turnsS k c = true :: turnsS (k - spl c) (c - spl c) := by rw [turnsS, dif_neg (by omega), if_neg hk]
theorem turnsS_len (k c : Nat) : (turnsS k c).length ≤ c := by
  induction c using Nat.strongRecOn generalizing k with
  | ind c ih =>
    by_cases h : c < 2
    · rw [turnsS_nil h]; simp
    · have h1 := spl_lt (c := c) (by omega); have h2 := spl_pos (c := c) (by omega)
      by_cases hk : k < spl c
      · rw [turnsS_left (by omega) hk]; have := ih _ h1 k; simp; omega
      · rw [turnsS_right (by omega) hk]; have := ih (c - spl c) (by omega) (k - spl c); simp; omega

/-- One step up. -/
def stepU (h : ByteArray → ByteArray) (t : Bool) (q x : ByteArray) : ByteArray := if t then nodeS h q x else nodeS h x q
/-- The way up, its last steps first: what comes out of x. -/
def upT (h : ByteArray → ByteArray) (x : ByteArray) : List Bool → List ByteArray → ByteArray
  | t :: T, q :: r => stepU h t q (upT h x T r)
  | _, _ => x
/-- What comes out of a hash and a proof (its last hash first), and is it one? -/
def comesS (h : ByteArray → ByteArray) (n : Nat) (x : ByteArray) : Nat → Nat → List ByteArray → ByteArray × Bool
  | _, c, [] => if c = 1 then (x, true) else (⟨#[]⟩, false)
  | k, c, q :: r => if c = 1 then (x, false) else if q.size ≠ n then (⟨#[]⟩, false)
    else if k < spl c then (nodeS h (comesS h n x k (spl c) r).1 q, (comesS h n x k (spl c) r).2) else (nodeS h q (comesS h n x (k - spl c) (c - spl c) r).1, (comesS h n x (k - spl c) (c - spl c) r).2)
/-- Are two texts alike? -/
def eqB (a b : ByteArray) : Bool := a.toList == b.toList
theorem eqB_iff (a b : ByteArray) : eqB a b = true ↔ a = b := by
  unfold eqB
  rw [beq_iff_eq, Go.ByteArray.toList_eq a, Go.ByteArray.toList_eq b]
  exact ⟨fun h => ByteArray.ext (Array.ext' h), fun h => by rw [h]⟩
theorem eqB_self (a : ByteArray) : eqB a a = true := (eqB_iff a a).2 rfl
theorem eqB_ne {a b : ByteArray} (h : a ≠ b) : eqB a b = false := by
  cases e : eqB a b
  · rfl
  · exact absurd ((eqB_iff a b).1 e) h
/-- Does the proof (its first hash first) show it? -/
def checkS (h : ByteArray → ByteArray) (n : Nat) (x : ByteArray) (k c : Nat) (p : List ByteArray) (root : ByteArray) : Bool :=
  decide (p.length = (turnsS k c).length) && p.all (fun q => q.size == n) && eqB (upT h x (turnsS k c) p.reverse) root

theorem comes_is (h : ByteArray → ByteArray) (n : Nat) (x : ByteArray) (r : List ByteArray) : ∀ k c, 1 ≤ c →
    (comesS h n x k c r).2 = (decide (r.length = (turnsS k c).length) && r.all (fun q => q.size == n)) ∧ ((comesS h n x k c r).2 = true → (comesS h n x k c r).1 = upT h x (turnsS k c) r) := by
  induction r with
  | nil =>
    intro k c hc
    by_cases h1 : c = 1
    · subst h1; rw [turnsS_nil (by omega)]; simp [comesS, upT]
    · by_cases hk : k < spl c
      · rw [turnsS_left (by omega) hk]; simp [comesS, h1]
      · rw [turnsS_right (by omega) hk]; simp [comesS, h1]
  | cons q r ih =>
    intro k c hc
    by_cases h1 : c = 1
    · subst h1; rw [turnsS_nil (by omega)]; simp [comesS]
    · have h2 := spl_pos (c := c) (by omega); have h3 := spl_lt (c := c) (by omega)
      by_cases hq : q.size = n
      · by_cases hk : k < spl c
        · have := ih k (spl c) h2
          rw [turnsS_left (by omega) hk]
          simp only [comesS, h1, hq, hk, if_true, if_false, upT, stepU, List.length_cons, List.all_cons, ne_eq, not_true_eq_false]
          refine ⟨by rw [this.1]; simp, fun e => ?_⟩
          rw [this.2 e]; simp
        · have := ih (k - spl c) (c - spl c) (by omega)
          rw [turnsS_right (by omega) hk]
          simp only [comesS, h1, hq, hk, if_true, if_false, upT, stepU, List.length_cons, List.all_cons, ne_eq, not_true_eq_false]
          refine ⟨by rw [this.1]; simp, fun e => ?_⟩
          rw [this.2 e]
      · simp [comesS, h1, hq]
theorem check_comes (h : ByteArray → ByteArray) (n : Nat) (x : ByteArray) (k c : Nat) (p : List ByteArray) (root : ByteArray) (hc : 1 ≤ c) :
    checkS h n x k c p root = ((comesS h n x k c p.reverse).2 && eqB (comesS h n x k c p.reverse).1 root) := by
  have hi := comes_is h n x p.reverse k c hc
  unfold checkS
  have e : (comesS h n x k c p.reverse).2 = (decide (p.length = (turnsS k c).length) && p.all (fun q => q.size == n)) := by rw [hi.1]; simp
  rw [← e]
  cases hh : (comesS h n x k c p.reverse).2
  · rfl
  · rw [hi.2 hh]

/-- THE PROOF OF A LEAF SHOWS IT. -/
theorem proof_shows (h : ByteArray → ByteArray) (n : Nat) (hn : ∀ s, (h s).size = n) (l : List ByteArray) : ∀ k, k < l.length →
    (proofS h l k).length = (turnsS k l.length).length ∧ (∀ q ∈ proofS h l k, q.size = n) ∧ upT h (leafS h (l.getD k ⟨#[]⟩)) (turnsS k l.length) (proofS h l k).reverse = rootS h l := by
  obtain ⟨m, hm⟩ : ∃ m, l.length = m := ⟨_, rfl⟩
  induction m using Nat.strongRecOn generalizing l with
  | ind m ih =>
    intro k hk
    by_cases h1 : l.length < 2
    · have : k = 0 := by omega
      subst this
      rw [proofS_nil h _ h1, turnsS_nil h1, rootS_one h (by omega)]
      simp [upT]
    · have h2 := spl_pos (c := l.length) (by omega); have h3 := spl_lt (c := l.length) (by omega)
      by_cases hs : k < spl l.length
      · have := ih (spl l.length) (by omega) (l.take (spl l.length)) (by simp; omega) k (by simp; omega)
        rw [List.length_take, Nat.min_eq_left (by omega)] at this
        rw [proofS_left h (by omega) hs, turnsS_left (by omega) hs, rootS_two h (l := l) (by omega)]
        refine ⟨by simp [this.1], fun q hq => ?_, ?_⟩
        · rcases List.mem_append.1 hq with hq | hq
          · exact this.2.1 q hq
          · simp at hq; subst hq; exact rootS_size h n hn _
        · rw [List.reverse_append]
          show nodeS h _ _ = _
          congr 1
          rw [← this.2.2]
          congr 2
          simp [List.getD_eq_getElem?_getD, hs]
      · have := ih (l.length - spl l.length) (by omega) (l.drop (spl l.length)) (by simp) (k - spl l.length) (by simp; omega)
        rw [List.length_drop] at this
        rw [proofS_right h (by omega) hs, turnsS_right (by omega) hs, rootS_two h (l := l) (by omega)]
        refine ⟨by simp [this.1], fun q hq => ?_, ?_⟩
        · rcases List.mem_append.1 hq with hq | hq
          · exact this.2.1 q hq
          · simp at hq; subst hq; exact rootS_size h n hn _
        · rw [List.reverse_append]
          show nodeS h _ _ = _
          congr 1
          rw [← this.2.2]
          congr 2
          simp [List.getD_eq_getElem?_getD, List.getElem?_drop, show spl l.length + (k - spl l.length) = k by omega]
theorem check_shows (h : ByteArray → ByteArray) (n : Nat) (hn : ∀ s, (h s).size = n) (l : List ByteArray) (k : Nat) (hk : k < l.length) (root : ByteArray) :
    checkS h n (leafS h (l.getD k ⟨#[]⟩)) k l.length (proofS h l k) root = eqB (rootS h l) root := by
  obtain ⟨h1, h2, h3⟩ := proof_shows h n hn l k hk
  unfold checkS
  rw [h3, decide_eq_true h1, show (proofS h l k).all (fun q => q.size == n) = true from List.all_eq_true.2 fun q hq => by simp [h2 q hq]]
  simp
theorem check_len (h : ByteArray → ByteArray) (n : Nat) (x : ByteArray) (k c : Nat) (p : List ByteArray) (root : ByteArray) (hl : p.length ≠ (turnsS k c).length) : checkS h n x k c p root = false := by
  unfold checkS; rw [decide_eq_false hl]; simp
/-- The way up, step by step: behind the first i hashes. -/
theorem up_step (h : ByteArray → ByteArray) (x : ByteArray) (T : List Bool) (p : List ByteArray) (hl : p.length = T.length) (i : Nat) (hi : i < p.length) :
    upT h x (T.drop (T.length - (i + 1))) ((p.take (i + 1)).reverse) = stepU h (T.getD (T.length - 1 - i) false) (p.getD i ⟨#[]⟩) (upT h x (T.drop (T.length - i)) ((p.take i).reverse)) := by
  have e1 : T.drop (T.length - (i + 1)) = T.getD (T.length - 1 - i) false :: T.drop (T.length - i) := by
    rw [List.drop_eq_getElem_cons (by omega)]
    congr 1
    · rw [List.getD_eq_getElem?_getD, List.getElem?_eq_getElem (by omega)]
      simp only [Option.getD_some]
      congr 1; omega
    · congr 1; omega
  have e2 : (p.take (i + 1)).reverse = p.getD i ⟨#[]⟩ :: (p.take i).reverse := by
    rw [List.take_succ_eq_append_getElem hi, List.reverse_append]
    simp [List.getD_eq_getElem?_getD, List.getElem?_eq_getElem hi]
  rw [e1, e2]; rfl
end Go.Proofs.YtipaicfmodgcoaaDoor
