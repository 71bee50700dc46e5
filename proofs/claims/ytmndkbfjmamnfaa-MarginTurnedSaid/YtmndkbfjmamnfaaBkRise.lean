/- What is set in lists that rise rises; plain. -/
import Derived.Test.YtmndkbfjmamnfaaBkMath
namespace Go.Proofs.Ytmndkbfjmamnfaa

/-- Behind a thing all rise, from it on. -/
def riseF (lt : Item → Item → Bool) (x : Item) : List Item → Bool
  | [] => true
  | y :: r => lt x y && riseF lt y r
theorem riseL_cons (lt : Item → Item → Bool) (x : Item) : ∀ r, riseL lt (x :: r) = riseF lt x r
  | [] => rfl
  | y :: r => by show (lt x y && riseL lt (y :: r)) = (lt x y && riseF lt y r); rw [riseL_cons lt y r]
/-- An order: what the sets lean on. -/
structure Ord3 (lt ge eq : Item → Item → Bool) : Prop where
  -- 'ge x y': y is at or behind x; 'eq x y': y has x's keys
  behind : ∀ x y, ge x y = true → eq x y = false → lt x y = true
  ahead : ∀ x y, ge x y = false → lt y x = true
  eqge : ∀ x y, eq x y = true → ge x y = true
  eqlt : ∀ x y z, eq x y = true → lt y z = true → lt x z = true
  lteq : ∀ x y z, eq x y = true → lt z y = true → lt z x = true
  tr : ∀ x y z, lt x y = true → lt y z = true → lt x z = true
theorem setF_step (ge eq : Item → Bool) (x y : Item) (l : List Item) (st : List Item × Bool) : (y :: l).foldl (setF ge eq x) st = l.foldl (setF ge eq x) (setF ge eq x st y) := rfl
/-- Behind the place nothing more is put in: all that hasn't its keys stays. -/
theorem setF_done {ge eq : Item → Bool} {x : Item} : ∀ (l : List Item) (o : List Item), l.foldl (setF ge eq x) (o, true) = (o ++ l.filter (fun y => !eq y), true)
  | [], o => by simp
  | y :: l, o => by
    rw [setF_step]
    have e : setF ge eq x (o, true) y = (o ++ (if eq y then [] else [y]), true) := by simp [setF]
    rw [e, setF_done l]
    cases h : eq y <;> simp [h]
theorem filter_rise {lt : Item → Item → Bool} (ht : ∀ x y z, lt x y = true → lt y z = true → lt x z = true) (p : Item → Bool) : ∀ (l : List Item) (a : Item), riseF lt a l = true → riseF lt a (l.filter p) = true
  | [], _, _ => rfl
  | y :: l, a, h => by
    rw [riseF, Bool.and_eq_true] at h
    rw [List.filter_cons]
    split
    · rw [riseF, h.1, Bool.true_and]; exact filter_rise ht p l y h.2
    · refine filter_rise ht p l a ?_
      cases l with
      | nil => rfl
      | cons z l => have h2 := h.2; rw [riseF, Bool.and_eq_true] at h2 ⊢; exact ⟨ht _ _ _ h.1 h2.1, h2.2⟩
/-- What is set behind a thing that lies ahead of it. -/
theorem set_riseF {lt ge eq : Item → Item → Bool} (H : Ord3 lt ge eq) (x : Item) : ∀ (l : List Item) (a : Item) (o : List Item) (d : Bool), riseF lt a l = true → lt a x = true → ∃ r, (let st := l.foldl (setF (ge x) (eq x) x) (o, d); if st.2 then st.1 else st.1 ++ [x]) = o ++ r ∧ riseF lt a r = true
  | l, a, o, true, h, _ => ⟨l.filter (fun y => !eq x y), by rw [setF_done]; rfl, filter_rise H.tr _ l a h⟩
  | [], a, o, false, _, hx => ⟨[x], rfl, by simp [riseF, hx]⟩
  | y :: l, a, o, false, h, hx => by
    rw [riseF, Bool.and_eq_true] at h
    rw [setF_step]
    cases hg : ge x y with
    | true =>
      cases he : eq x y with
      | true =>
        refine ⟨x :: l.filter (fun y => !eq x y), ?_, ?_⟩
        · have e : setF (ge x) (eq x) x (o, false) y = (o ++ [x], true) := by simp [setF, hg, he]
          rw [e, setF_done]; simp
        · rw [riseF, hx, Bool.true_and]
          refine filter_rise H.tr _ l x ?_
          cases l with
          | nil => rfl
          | cons z l => have h2 := h.2; rw [riseF, Bool.and_eq_true] at h2 ⊢; exact ⟨H.eqlt _ _ _ he h2.1, h2.2⟩
      | false =>
        refine ⟨x :: y :: l.filter (fun y => !eq x y), ?_, ?_⟩
        · have e : setF (ge x) (eq x) x (o, false) y = (o ++ [x] ++ [y], true) := by simp [setF, hg, he]
          rw [e, setF_done]; simp
        · rw [riseF, hx, Bool.true_and, riseF, H.behind x y hg he, Bool.true_and]
          exact filter_rise H.tr _ l y h.2
    | false =>
      have he : eq x y = false := by cases hq : eq x y with
        | false => rfl
        | true => rw [H.eqge x y hq] at hg; cases hg
      have e : setF (ge x) (eq x) x (o, false) y = (o ++ [y], false) := by simp [setF, hg, he]
      rw [e]
      obtain ⟨r, h1, h2⟩ := set_riseF H x l y (o ++ [y]) false h.2 (H.ahead x y hg)
      exact ⟨y :: r, by rw [h1]; simp, by rw [riseF, h.1, h2]; rfl⟩
theorem setL_rise {lt ge eq : Item → Item → Bool} (H : Ord3 lt ge eq) (x : Item) (d : Bool) (l : List Item) (h : riseL lt l = true) : riseL lt (setL (ge x) (eq x) x d l) = true := by
  unfold setL setS
  cases l with
  | nil => cases d <;> rfl
  | cons y l =>
    rw [riseL_cons] at h
    rw [setF_step]
    cases d with
    | true =>
      have e : setF (ge x) (eq x) x ([], true) y = (if eq x y then [] else [y], true) := by simp [setF]
      rw [e, setF_done]
      have hf := filter_rise H.tr (fun y => !eq x y) l y h
      cases hq : eq x y
      · simpa [riseL_cons] using hf
      · simp only [if_true, List.nil_append]
        generalize l.filter (fun y => !eq x y) = m at hf ⊢
        cases m with
        | nil => rfl
        | cons z m => rw [riseL_cons]; rw [riseF, Bool.and_eq_true] at hf; exact hf.2
    | false =>
      cases hg : ge x y with
      | true =>
        cases he : eq x y with
        | true =>
          have e : setF (ge x) (eq x) x ([], false) y = ([x], true) := by simp [setF, hg, he]
          rw [e, setF_done]
          show riseL lt (x :: l.filter (fun y => !eq x y)) = true
          rw [riseL_cons]
          refine filter_rise H.tr _ l x ?_
          cases l with
          | nil => rfl
          | cons z l => have h2 := h; rw [riseF, Bool.and_eq_true] at h2 ⊢; exact ⟨H.eqlt _ _ _ he h2.1, h2.2⟩
        | false =>
          have e : setF (ge x) (eq x) x ([], false) y = ([x, y], true) := by simp [setF, hg, he]
          rw [e, setF_done]
          show riseL lt (x :: y :: l.filter (fun y => !eq x y)) = true
          rw [riseL_cons, riseF, H.behind x y hg he, Bool.true_and]
          exact filter_rise H.tr _ l y h
      | false =>
        have he : eq x y = false := by cases hq : eq x y with
          | false => rfl
          | true => rw [H.eqge x y hq] at hg; cases hg
        have e : setF (ge x) (eq x) x ([], false) y = ([y], false) := by simp [setF, hg, he]
        rw [e]
        obtain ⟨r, h1, h2⟩ := set_riseF H x l y [y] false h (H.ahead x y hg)
        have h1' : (if (l.foldl (setF (ge x) (eq x) x) ([y], false)).2 = true then (l.foldl (setF (ge x) (eq x) x) ([y], false)).1 else (l.foldl (setF (ge x) (eq x) x) ([y], false)).1 ++ [x]) = [y] ++ r := h1
        rw [h1']
        show riseL lt (y :: r) = true
        rw [riseL_cons]; exact h2
theorem ord1 : Ord3 lt1 ge1 eq1 where
  behind x y := by simp only [ge1, eq1, lt1, decide_eq_true_eq, decide_eq_false_iff_not]; omega
  ahead x y := by simp only [ge1, lt1, decide_eq_true_eq, decide_eq_false_iff_not]; omega
  eqge x y := by simp only [ge1, eq1, decide_eq_true_eq]; omega
  eqlt x y z := by simp only [lt1, eq1, decide_eq_true_eq]; omega
  lteq x y z := by simp only [lt1, eq1, decide_eq_true_eq]; omega
  tr x y z := by simp only [lt1, decide_eq_true_eq]; omega
theorem ord2 : Ord3 lt2 ge2 eq2 where
  behind x y := by simp only [ge2, eq2, lt2, Bool.or_eq_true, Bool.and_eq_true, Bool.and_eq_false_iff, decide_eq_true_eq, decide_eq_false_iff_not]; omega
  ahead x y := by simp only [ge2, lt2, Bool.or_eq_true, Bool.and_eq_true, Bool.or_eq_false_iff, Bool.and_eq_false_iff, decide_eq_true_eq, decide_eq_false_iff_not]; omega
  eqge x y := by simp only [ge2, eq2, Bool.or_eq_true, Bool.and_eq_true, decide_eq_true_eq]; omega
  eqlt x y z := by simp only [lt2, eq2, Bool.or_eq_true, Bool.and_eq_true, decide_eq_true_eq]; omega
  lteq x y z := by simp only [lt2, eq2, Bool.or_eq_true, Bool.and_eq_true, decide_eq_true_eq]; omega
  tr x y z := by simp only [lt2, Bool.or_eq_true, Bool.and_eq_true, decide_eq_true_eq]; omega
end Go.Proofs.Ytmndkbfjmamnfaa
