/- Two lists that rise, side by side by their keys; plain. -/
import Derived.Test.YtellifcjamedkaaDpCmp
namespace Go.Proofs.Ytellifcjamedkaa
open Go.RowKit Base Base2

abbrev K3 := Int × Int × Int
def cmp3 (k q : K3) : Int := cmpK k.1 k.2.1 k.2.2 q.1 q.2.1 q.2.2
def less3 (k q : K3) : Bool := lessD k.1 k.2.1 k.2.2 q.1 q.2.1 q.2.2
theorem cmp3_neg {k q : K3} : cmp3 k q < 0 ↔ less3 k q = true := cmpK_neg
theorem cmp3_zero {k q : K3} : cmp3 k q = 0 ↔ k = q := by
  unfold cmp3
  rw [cmpK_zero]
  obtain ⟨a, b, c⟩ := k
  obtain ⟨d, e, f⟩ := q
  simp only [Prod.mk.injEq]
theorem less3_iff {k q : K3} : less3 k q = true ↔ k.1 < q.1 ∨ (k.1 = q.1 ∧ (k.2.1 < q.2.1 ∨ (k.2.1 = q.2.1 ∧ k.2.2 < q.2.2))) := lessD_iff
theorem less3_trans {a b c : K3} (h : less3 a b = true) (k : less3 b c = true) : less3 a c = true := by rw [less3_iff] at *; omega
theorem less3_irr {a : K3} : less3 a a = false := by cases h : less3 a a with | false => rfl | true => rw [less3_iff] at h; omega
theorem less3_eq {a b : K3} (h : less3 a b = false) (k : less3 b a = false) : a = b := by
  have h1 : ¬ less3 a b = true := by simp [h]
  have h2 : ¬ less3 b a = true := by simp [k]
  rw [less3_iff] at h1 h2
  obtain ⟨a1, a2, a3⟩ := a
  obtain ⟨b1, b2, b3⟩ := b
  dsimp only at h1 h2
  have e1 : a1 = b1 := by omega
  have e2 : a2 = b2 := by omega
  have e3 : a3 = b3 := by omega
  rw [e1, e2, e3]
def RiseK (l : List K3) : Prop := l.Pairwise (fun x y => less3 x y = true)
/-- Where a key belongs. -/
def posK (q : K3) (l : List K3) : Nat := (l.takeWhile (fun k => less3 k q)).length
def foundK (q : K3) (l : List K3) : Bool := match l[posK q l]? with | some k => cmp3 k q == 0 | none => false
theorem posK_le (q : K3) (l : List K3) : posK q l ≤ l.length := List.Sublist.length_le (List.takeWhile_sublist _)
theorem posK_lt {q k : K3} {l : List K3} (h : less3 k q = true) : posK q (k :: l) = posK q l + 1 := by simp [posK, h]
theorem posK_ge {q k : K3} {l : List K3} (h : less3 k q = false) : posK q (k :: l) = 0 := by simp [posK, h]
theorem posK_iff {q : K3} : ∀ {l : List K3}, RiseK l → ∀ {i : Nat} {k : K3}, l[i]? = some k → (cmp3 k q < 0 ↔ i < posK q l)
  | [], _, i, k, h => by simp at h
  | x :: l, hr, i, k, h => by
    have hp := List.pairwise_cons.1 hr
    rw [cmp3_neg]
    cases hx : less3 x q with
    | true =>
      rw [posK_lt hx]
      cases i with
      | zero => simp at h; subst h; simp [hx]
      | succ i =>
        have := posK_iff (q := q) hp.2 (i := i) (k := k) (by simpa using h)
        rw [cmp3_neg] at this
        rw [this]; omega
    | false =>
      rw [posK_ge hx]
      refine ⟨fun hk => ?_, fun h => absurd h (Nat.not_lt_zero _)⟩
      cases i with
      | zero => simp at h; subst h; rw [hx] at hk; cases hk
      | succ i =>
        have hm : k ∈ l := List.mem_of_getElem? (by simpa using h)
        rw [less3_trans (hp.1 k hm) hk] at hx; cases hx
theorem foundK_some {q k : K3} {l : List K3} (h : l[posK q l]? = some k) : foundK q l = (cmp3 k q == 0) := by unfold foundK; rw [h]
theorem foundK_none {q : K3} {l : List K3} (h : l[posK q l]? = none) : foundK q l = false := by unfold foundK; rw [h]
theorem foundK_lt {q : K3} {l : List K3} (h : foundK q l = true) : posK q l < l.length := by
  unfold foundK at h
  cases hg : l[posK q l]? with
  | none => rw [hg] at h; cases h
  | some k => exact (List.getElem?_eq_some_iff.1 hg).1
theorem foundK_cons_lt {q k : K3} {l : List K3} (h : less3 k q = true) : foundK q (k :: l) = foundK q l := by
  unfold foundK
  rw [posK_lt h, List.getElem?_cons_succ]
theorem foundK_cons_ge {q k : K3} {l : List K3} (h : less3 k q = false) : foundK q (k :: l) = (cmp3 k q == 0) := foundK_some (by rw [posK_ge h]; rfl)
section
variable {A B : Type} (f : A → K3) (g : B → K3)
/-- What has a key in one, in the other or in both. -/
def besideS : List A → List B → List (Option A × Option B)
  | [], ys => ys.map fun y => (none, some y)
  | x :: xs, ys =>
    (ys.take (posK (f x) (ys.map g))).map (fun y => (none, some y)) ++
      (some x, if foundK (f x) (ys.map g) then ys[posK (f x) (ys.map g)]? else none) :: besideS xs (ys.drop (if foundK (f x) (ys.map g) then posK (f x) (ys.map g) + 1 else posK (f x) (ys.map g)))
theorem beside_nil (x : A) (xs : List A) : besideS f g (x :: xs) [] = (some x, none) :: besideS f g xs [] := by
  have e : foundK (f x) ([].map g) = false := foundK_none (by simp)
  rw [besideS, e]
  simp
theorem beside_ins (x : A) (xs : List A) (y : B) (ys : List B) (h : less3 (g y) (f x) = true) : besideS f g (x :: xs) (y :: ys) = (none, some y) :: besideS f g (x :: xs) ys := by
  have e : posK (f x) ((y :: ys).map g) = posK (f x) (ys.map g) + 1 := by rw [List.map_cons, posK_lt h]
  have e2 : foundK (f x) ((y :: ys).map g) = foundK (f x) (ys.map g) := by rw [List.map_cons, foundK_cons_lt h]
  rw [besideS, besideS, e, e2, List.take_succ_cons, List.map_cons, List.cons_append, List.getElem?_cons_succ]
  cases foundK (f x) (ys.map g) <;> simp
theorem beside_del (x : A) (xs : List A) (y : B) (ys : List B) (h : less3 (g y) (f x) = false) (h2 : less3 (f x) (g y) = true) : besideS f g (x :: xs) (y :: ys) = (some x, none) :: besideS f g xs (y :: ys) := by
  have e : posK (f x) ((y :: ys).map g) = 0 := by rw [List.map_cons, posK_ge h]
  have e2 : foundK (f x) ((y :: ys).map g) = false := by
    rw [List.map_cons, foundK_cons_ge h, beq_eq_false_iff_ne]
    intro hz
    rw [cmp3_zero] at hz
    rw [hz, less3_irr] at h2; cases h2
  rw [besideS, e, e2]
  simp
theorem beside_both (x : A) (xs : List A) (y : B) (ys : List B) (h : less3 (g y) (f x) = false) (h2 : less3 (f x) (g y) = false) : besideS f g (x :: xs) (y :: ys) = (some x, some y) :: besideS f g xs ys := by
  have e : posK (f x) ((y :: ys).map g) = 0 := by rw [List.map_cons, posK_ge h]
  have e2 : foundK (f x) ((y :: ys).map g) = true := by
    rw [List.map_cons, foundK_cons_ge h, beq_iff_eq, cmp3_zero]
    exact less3_eq h h2
  rw [besideS, e, e2]
  simp
theorem beside_len : ∀ (xs : List A) (ys : List B), (besideS f g xs ys).length ≤ xs.length + ys.length
  | [], ys => by simp [besideS]
  | x :: xs, [] => by rw [beside_nil]; have := beside_len xs ([] : List B); simp at this ⊢; omega
  | x :: xs, y :: ys => by
    cases h : less3 (g y) (f x) with
    | true => rw [beside_ins f g x xs y ys h]; have := beside_len (x :: xs) ys; simp at this ⊢; omega
    | false =>
      cases h2 : less3 (f x) (g y) with
      | true => rw [beside_del f g x xs y ys h h2]; have := beside_len xs (y :: ys); simp at this ⊢; omega
      | false => rw [beside_both f g x xs y ys h h2]; have := beside_len xs ys; simp at this ⊢; omega
  termination_by xs ys => xs.length + ys.length
end
def keyT (r : RowT) : K3 := (r.l, r.a, r.b)
def keyC (c : ChT) : K3 := (c.l, c.a, c.b)
/-- What a pair of rows comes to. -/
def chOf : Option RowT × Option RowT → List ChT
  | (some x, some y) => if x.v = y.v then [] else [chgC x y]
  | (some x, none) => [delC x]
  | (none, some y) => [insC y]
  | (none, none) => []
theorem beside_merge : ∀ (xs ys : List RowT), (besideS keyT keyT xs ys).flatMap chOf = mergeD xs ys
  | [], [] => by rw [mergeD]; rfl
  | [], y :: ys => by
    rw [merge_nc, ← beside_merge [] ys]
    simp [besideS, chOf]
  | x :: xs, [] => by
    rw [merge_cn, ← beside_merge xs [], beside_nil]
    simp [chOf]
  | x :: xs, y :: ys => by
    rw [merge_cc]
    cases h2 : ltR x y with
    | true =>
      have h : less3 (keyT y) (keyT x) = false := by
        cases h : less3 (keyT y) (keyT x) with
        | false => rfl
        | true => have := less3_trans h (show less3 (keyT x) (keyT y) = true from h2); rw [less3_irr] at this; cases this
      rw [beside_del keyT keyT x xs y ys h h2, if_pos rfl, ← beside_merge xs (y :: ys)]
      simp [chOf]
    | false =>
      rw [if_neg (by simp)]
      cases h : ltR y x with
      | true => rw [beside_ins keyT keyT x xs y ys h, if_pos rfl, ← beside_merge (x :: xs) ys]; simp [chOf]
      | false =>
        rw [beside_both keyT keyT x xs y ys h h2, if_neg (by simp)]
        by_cases hv : x.v = y.v
        · rw [if_pos hv, ← beside_merge xs ys]; simp [chOf, hv]
        · rw [if_neg hv, ← beside_merge xs ys]; simp [chOf, hv]
  termination_by xs ys => xs.length + ys.length
end Go.Proofs.Ytellifcjamedkaa
