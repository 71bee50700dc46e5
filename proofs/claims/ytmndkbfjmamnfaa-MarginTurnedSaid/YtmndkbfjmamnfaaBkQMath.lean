/- Where a key belongs in a list that rises; plain. -/
import Derived.Test.YtmndkbfjmamnfaaBkMath
namespace Go.Proofs.Ytmndkbfjmamnfaa
open Go.RowKit Base Base2

/-- How two numbers stand. -/
def cmpI (a b : Int) : Int := if a < b then -1 else if b < a then 1 else 0
theorem cmpI_neg {a b : Int} : cmpI a b < 0 ↔ a < b := by unfold cmpI; split <;> (try split) <;> omega
theorem cmpI_nonneg {a b : Int} : 0 ≤ cmpI a b ↔ b ≤ a := by unfold cmpI; split <;> (try split) <;> omega
theorem cmpI_pos {a b : Int} : 0 < cmpI a b ↔ b < a := by unfold cmpI; split <;> (try split) <;> omega
theorem cmpI_zero {a b : Int} : cmpI a b = 0 ↔ a = b := by unfold cmpI; split <;> (try split) <;> omega
theorem cmpI_cases (a b : Int) : cmpI a b = -1 ∨ cmpI a b = 0 ∨ cmpI a b = 1 := by unfold cmpI; split <;> (try split) <;> omega
/-- By one number, by two. -/
def c1 (id : Int) (x : Item) : Int := cmpI (key 0 x) id
def c2 (id s : Int) (x : Item) : Int := if cmpI (key 0 x) id = 0 then cmpI (key 1 x) s else cmpI (key 0 x) id
theorem c2_neg {id s : Int} {x : Item} : c2 id s x < 0 ↔ key 0 x < id ∨ (key 0 x = id ∧ key 1 x < s) := by
  have h1 := @cmpI_neg (key 0 x) id
  have h2 := @cmpI_zero (key 0 x) id
  have h3 := @cmpI_neg (key 1 x) s
  unfold c2
  split <;> omega
theorem c2_zero {id s : Int} {x : Item} : c2 id s x = 0 ↔ key 0 x = id ∧ key 1 x = s := by
  have h2 := @cmpI_zero (key 0 x) id
  have h3 := @cmpI_zero (key 1 x) s
  unfold c2
  split <;> omega
theorem c2_cases (id s : Int) (x : Item) : c2 id s x = -1 ∨ c2 id s x = 0 ∨ c2 id s x = 1 := by
  unfold c2
  split <;> exact cmpI_cases _ _
def MonoC (lt : Item → Item → Bool) (c : Item → Int) : Prop := ∀ x y, lt x y = true → 0 ≤ c x → 0 < c y
theorem mono1 (id : Int) : MonoC lt1 (c1 id) := by
  intro x y h h0
  simp only [lt1, decide_eq_true_eq] at h
  unfold c1 at *
  rw [cmpI_nonneg] at h0
  rw [cmpI_pos]
  omega
theorem mono2 (id s : Int) : MonoC lt2 (c2 id s) := by
  intro x y h h0
  simp only [lt2, Bool.or_eq_true, Bool.and_eq_true, decide_eq_true_eq] at h
  have h1 := @c2_neg id s x
  have h2 := @c2_neg id s y
  have h3 := @c2_zero id s y
  omega
/-- How many stand ahead of the place. -/
def posL (c : Item → Int) (l : List Item) : Nat := (l.takeWhile (fun x => decide (c x < 0))).length
theorem posL_le (c : Item → Int) (l : List Item) : posL c l ≤ l.length := List.Sublist.length_le (List.takeWhile_sublist _)
theorem posL_lt {c : Item → Int} {x : Item} {l : List Item} (h : c x < 0) : posL c (x :: l) = posL c l + 1 := by simp [posL, h]
theorem posL_ge {c : Item → Int} {x : Item} {l : List Item} (h : 0 ≤ c x) : posL c (x :: l) = 0 := by simp [posL, h]
theorem riseL_tail {lt : Item → Item → Bool} {x : Item} {l : List Item} (h : riseL lt (x :: l) = true) : riseL lt l = true := by
  cases l with
  | nil => rfl
  | cons y r => rw [riseL_two, Bool.and_eq_true] at h; exact h.2
theorem later {lt : Item → Item → Bool} {c : Item → Int} (hm : MonoC lt c) : ∀ {l : List Item} {x : Item}, riseL lt (x :: l) = true → 0 ≤ c x → ∀ y ∈ l, 0 < c y
  | [], _, _, _, _, hy => by cases hy
  | z :: r, x, h, h0, y, hy => by
    rw [riseL_two, Bool.and_eq_true] at h
    have hz := hm x z h.1 h0
    rcases List.mem_cons.1 hy with rfl | hy
    · exact hz
    · exact later hm h.2 (by omega) y hy
theorem pos_iff {lt : Item → Item → Bool} {c : Item → Int} (hm : MonoC lt c) : ∀ {l : List Item}, riseL lt l = true → ∀ {i : Nat} {x : Item}, l[i]? = some x → (c x < 0 ↔ i < posL c l)
  | [], _, i, x, h => by simp at h
  | y :: l, hr, i, x, h => by
    by_cases hc : c y < 0
    · rw [posL_lt hc]
      cases i with
      | zero => simp at h; subst h; omega
      | succ i => have := pos_iff hm (riseL_tail hr) (i := i) (x := x) (by simpa using h); omega
    · rw [posL_ge (by omega)]
      cases i with
      | zero => simp at h; subst h; omega
      | succ i => have := later hm hr (by omega) x (List.mem_of_getElem? (i := i) (by simpa using h)); omega
def foundL (c : Item → Int) (l : List Item) : Bool := match l[posL c l]? with | some x => c x == 0 | none => false
theorem foundL_some {c : Item → Int} {l : List Item} {x : Item} (h : l[posL c l]? = some x) : foundL c l = (c x == 0) := by unfold foundL; rw [h]
theorem foundL_none {c : Item → Int} {l : List Item} (h : l[posL c l]? = none) : foundL c l = false := by unfold foundL; rw [h]
theorem foundL_lt {c : Item → Int} {l : List Item} (h : foundL c l = true) : posL c l < l.length := by
  cases hx : l[posL c l]? with
  | none => rw [foundL_none hx] at h; cases h
  | some x => exact (List.getElem?_eq_some_iff.1 hx).1
theorem find_pos {lt : Item → Item → Bool} {c : Item → Int} {p : Item → Bool} (hm : MonoC lt c) (hp : ∀ x, p x = (c x == 0)) : ∀ {l : List Item}, riseL lt l = true → findL p l = if foundL c l then l[posL c l]? else none
  | [], _ => rfl
  | y :: l, hr => by
    by_cases hc : c y < 0
    · have ih := find_pos hm hp (riseL_tail hr)
      have e : foundL c (y :: l) = foundL c l := by unfold foundL; rw [posL_lt hc, List.getElem?_cons_succ]
      have e2 : findL p (y :: l) = findL p l := by unfold findL; rw [List.find?_cons, hp, beq_eq_false_iff_ne.2 (by omega)]
      rw [e, e2, ih, posL_lt hc, List.getElem?_cons_succ]
    · have e0 : posL c (y :: l) = 0 := posL_ge (by omega)
      by_cases hz : c y = 0
      · have e : foundL c (y :: l) = true := by unfold foundL; rw [e0]; simp [hz]
        rw [e, e0, if_pos rfl]
        unfold findL
        rw [List.find?_cons, hp, beq_iff_eq.2 hz]; rfl
      · have e : foundL c (y :: l) = false := by unfold foundL; rw [e0]; simp [hz]
        rw [e, if_neg (by simp)]
        refine find_no (fun z hz2 => ?_)
        rw [hp]
        rcases List.mem_cons.1 hz2 with rfl | h
        · exact beq_eq_false_iff_ne.2 hz
        · have := later hm hr (by omega) z h; exact beq_eq_false_iff_ne.2 (by omega)
def finS (x : Item) (st : List Item × Bool) : List Item := if st.2 then st.1 else st.1 ++ [x]
/-- What stands behind the place: without the thing that is there. -/
def behindL (c : Item → Int) (l : List Item) : List Item := l.drop (if foundL c l then posL c l + 1 else posL c l)
theorem set_done {ge eq : Item → Bool} {x : Item} : ∀ (l o : List Item), (∀ y ∈ l, eq y = false) → l.foldl (setF ge eq x) (o, true) = (o ++ l, true)
  | [], o, _ => by simp
  | y :: l, o, h => by
    rw [List.foldl_cons]
    have e : setF ge eq x (o, true) y = (o ++ [y], true) := by unfold setF; simp [h y (List.mem_cons_self ..)]
    rw [e, set_done l _ (fun z hz => h z (List.mem_cons_of_mem _ hz))]
    simp
theorem set_pos {lt : Item → Item → Bool} {c : Item → Int} {ge eq : Item → Bool} {x : Item} (hm : MonoC lt c) (hg : ∀ y, ge y = decide (0 ≤ c y)) (he : ∀ y, eq y = (c y == 0)) : ∀ (l o : List Item) (d : Bool), riseL lt l = true →
    finS x (l.foldl (setF ge eq x) (o, d)) = o ++ (l.take (posL c l) ++ ((if d then [] else [x]) ++ behindL c l))
  | [], o, d, _ => by cases d <;> simp [finS, posL, behindL]
  | y :: l, o, d, hr => by
    rw [List.foldl_cons]
    by_cases hc : c y < 0
    · have g1 : ge y = false := by rw [hg, decide_eq_false_iff_not]; omega
      have g2 : eq y = false := by rw [he, beq_eq_false_iff_ne]; omega
      have e : setF ge eq x (o, d) y = (o ++ [y], d) := by unfold setF; simp [g1, g2]
      have ef : foundL c (y :: l) = foundL c l := by unfold foundL; rw [posL_lt hc, List.getElem?_cons_succ]
      have eb : behindL c (y :: l) = behindL c l := by unfold behindL; rw [ef, posL_lt hc]; cases foundL c l <;> simp
      rw [e, set_pos hm hg he l _ d (riseL_tail hr), posL_lt hc, eb]
      simp
    · have e0 : posL c (y :: l) = 0 := posL_ge (by omega)
      have g1 : ge y = true := by rw [hg, decide_eq_true_eq]; omega
      have e : setF ge eq x (o, d) y = (o ++ (if d then [] else [x]) ++ (if eq y then [] else [y]), true) := by unfold setF; cases d <;> simp [g1]
      have ef : foundL c (y :: l) = eq y := by unfold foundL; rw [e0, he]; rfl
      have eb : behindL c (y :: l) = (if eq y then [] else [y]) ++ l := by unfold behindL; rw [ef, e0]; cases eq y <;> simp
      rw [e, set_done _ _ (fun z hz => by have := later hm hr (by omega) z hz; rw [he, beq_eq_false_iff_ne]; omega), e0, eb]
      simp [finS]
theorem setL_pos {lt : Item → Item → Bool} {c : Item → Int} {ge eq : Item → Bool} {x : Item} (hm : MonoC lt c) (hg : ∀ y, ge y = decide (0 ≤ c y)) (he : ∀ y, eq y = (c y == 0)) (d : Bool) {l : List Item} (hr : riseL lt l = true) :
    setL ge eq x d l = l.take (posL c l) ++ ((if d then [] else [x]) ++ behindL c l) := by
  have h := set_pos (x := x) hm hg he l [] d hr
  rw [List.nil_append] at h
  rw [← h]
  rfl
theorem is1_c (id : Int) (x : Item) : is1 id x = (c1 id x == 0) := by
  have := @cmpI_zero (key 0 x) id
  unfold is1 c1
  rw [Bool.eq_iff_iff, beq_iff_eq, beq_iff_eq]; exact this.symm
theorem is2_c (id s : Int) (x : Item) : is2 id s x = (c2 id s x == 0) := by
  have := @c2_zero id s x
  unfold is2
  rw [Bool.eq_iff_iff, Bool.and_eq_true, beq_iff_eq, beq_iff_eq, beq_iff_eq]; exact this.symm
theorem ge1_c (x y : Item) : ge1 x y = decide (0 ≤ c1 (key 0 x) y) := by
  have := @cmpI_nonneg (key 0 y) (key 0 x)
  unfold ge1 c1
  rw [Bool.eq_iff_iff, decide_eq_true_eq, decide_eq_true_eq]; exact this.symm
theorem eq1_c (x y : Item) : eq1 x y = (c1 (key 0 x) y == 0) := by
  have := @cmpI_zero (key 0 y) (key 0 x)
  unfold eq1 c1
  rw [Bool.eq_iff_iff, decide_eq_true_eq, beq_iff_eq]; exact this.symm
theorem ge2_c (x y : Item) : ge2 x y = decide (0 ≤ c2 (key 0 x) (key 1 x) y) := by
  have := @c2_neg (key 0 x) (key 1 x) y
  unfold ge2
  rw [Bool.eq_iff_iff, Bool.or_eq_true, Bool.and_eq_true, decide_eq_true_eq, decide_eq_true_eq, decide_eq_true_eq, decide_eq_true_eq]; omega
theorem eq2_c (x y : Item) : eq2 x y = (c2 (key 0 x) (key 1 x) y == 0) := by
  have := @c2_zero (key 0 x) (key 1 x) y
  unfold eq2
  rw [Bool.eq_iff_iff, Bool.and_eq_true, beq_iff_eq, decide_eq_true_eq, decide_eq_true_eq]; exact this.symm
end Go.Proofs.Ytmndkbfjmamnfaa
