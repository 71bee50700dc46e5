/- Changes that are set into a book; plain. -/
import Derived.Test.YtellifcjamedkaaDfMath
namespace Go.Proofs.Ytellifcjamedkaa
open Go.RowKit Base Base2

def padV (v : List Int) : List Int := if v = [] then [0, 0, 0, 0, 0] else v
/-- A change's values set into a book. -/
def setChT (b : BookT) (c : ChT) : BookT :=
  if c.l = 1 then
    if c.now = [] then { b with hs := b.hs.filter (fun y => key 0 y != c.a) }
    else setHolderT { b with hs := b.hs.filter (fun y => key 0 y != c.a) } [c.a, key 0 c.now, key 1 c.now, key 2 c.now]
  else if c.l = 2 then
    setStakeT (if c.now ≠ [] ∧ key 0 c.now = 0 then { setStakeT b [c.a, c.b, 0] with co := -1 } else setStakeT b [c.a, c.b, 0]) [c.a, c.b, key 0 (padV c.now)]
  else if c.l = 3 then
    setOpenT (if c.now ≠ [] ∧ key 3 c.now = 0 then { b with co := -1 } else b) [c.a, key 0 (padV c.now), key 1 (padV c.now), key 2 (padV c.now), key 3 (padV c.now), key 4 (padV c.now)]
  else if c.l = 4 then
    if c.now = [] then { b with rs := b.rs.filter (fun y => key 0 y != c.a) }
    else setRateT { b with rs := b.rs.filter (fun y => key 0 y != c.a) } [c.a, key 0 c.now]
  else if c.l = 5 then
    if 0 ≤ b.co then { b with co := key 0 (padV c.now) } else b
  else b
def Sorted (lt : Item → Item → Bool) (l : List Item) : Prop := l.Pairwise (fun x y => lt x y = true)
theorem rise_sorted {lt : Item → Item → Bool} (ht : ∀ x y z, lt x y = true → lt y z = true → lt x z = true) : ∀ {l : List Item}, riseL lt l = true → Sorted lt l
  | [], _ => List.Pairwise.nil
  | [x], _ => List.pairwise_singleton _ _
  | x :: y :: r, h => by
    rw [riseL_two, Bool.and_eq_true] at h
    have ih := rise_sorted ht h.2
    have hp := List.pairwise_cons.1 ih
    refine List.pairwise_cons.2 ⟨fun z hz => ?_, ih⟩
    exact (List.mem_cons.1 hz).elim (fun e => by rw [e]; exact h.1) (fun hz => ht _ _ _ h.1 (hp.1 z hz))
theorem sorted_rise {lt : Item → Item → Bool} : ∀ {l : List Item}, Sorted lt l → riseL lt l = true
  | [], _ => rfl
  | [x], _ => rfl
  | x :: y :: r, h => by
    have hp := List.pairwise_cons.1 h
    rw [riseL_two, hp.1 y (List.mem_cons_self ..), sorted_rise hp.2]; rfl
/-- The place, behind all that are ahead. -/
theorem pos_at {c : Item → Int} : ∀ (D R : List Item), (∀ d ∈ D, c d < 0) → (∀ x ∈ R.head?, 0 ≤ c x) → posL c (D ++ R) = D.length
  | [], [], _, _ => rfl
  | [], x :: R, _, h => by rw [List.nil_append, posL_ge (h x rfl)]; rfl
  | d :: D, R, h, h2 => by
    rw [List.cons_append, posL_lt (h d (List.mem_cons_self ..)), pos_at D R (fun z hz => h z (List.mem_cons_of_mem _ hz)) h2]; rfl
theorem set_new {lt : Item → Item → Bool} {c : Item → Int} {ge eq : Item → Bool} {x : Item} (hm : MonoC lt c) (hg : ∀ y, ge y = decide (0 ≤ c y)) (he : ∀ y, eq y = (c y == 0)) (d : Bool) {D R : List Item} (hr : riseL lt (D ++ R) = true) (hD : ∀ z ∈ D, c z < 0) (hR : ∀ z ∈ R.head?, 0 < c z) : setL ge eq x d (D ++ R) = D ++ ((if d then [] else [x]) ++ R) := by
  have hp := pos_at D R hD (fun z hz => by have := hR z hz; omega)
  rw [setL_pos hm hg he d hr, hp, List.take_left]
  have hf : foundL c (D ++ R) = false := by
    unfold foundL
    rw [hp, List.getElem?_append_right (Nat.le_refl _), Nat.sub_self]
    cases R with
    | nil => rfl
    | cons y R => have := hR y rfl; simp; omega
  unfold behindL
  rw [hf, hp]
  simp
theorem set_old {lt : Item → Item → Bool} {c : Item → Int} {ge eq : Item → Bool} {x y : Item} (hm : MonoC lt c) (hg : ∀ y, ge y = decide (0 ≤ c y)) (he : ∀ y, eq y = (c y == 0)) (d : Bool) {D R : List Item} (hr : riseL lt (D ++ y :: R) = true) (hD : ∀ z ∈ D, c z < 0) (hy : c y = 0) : setL ge eq x d (D ++ y :: R) = D ++ ((if d then [] else [x]) ++ R) := by
  have hp := pos_at D (y :: R) hD (fun z hz => by simp at hz; subst hz; omega)
  rw [setL_pos hm hg he d hr, hp, List.take_left]
  have hf : foundL c (D ++ y :: R) = true := by
    unfold foundL
    rw [hp, List.getElem?_append_right (Nat.le_refl _), Nat.sub_self]
    simp [hy]
  unfold behindL
  rw [hf, hp]
  have e : (D ++ y :: R).drop (D.length + 1) = R := by
    rw [show D ++ y :: R = (D ++ [y]) ++ R by simp, show D.length + 1 = (D ++ [y]).length by simp, List.drop_left]
  simp [e]
/-- The changes of one list, set one behind the other. -/
theorem fold_list (lt : Item → Item → Bool) (row : Item → RowT) (upd : BookT → List Item → BookT) (P : Item → Prop)
    (hord : ∀ x y, ltR (row x) (row y) = lt x y)
    (hval : ∀ x y, P x → P y → sameKey (row x) (row y) → (row x).v = (row y).v → x = y)
    (hdel : ∀ b D x xs, Sorted lt (D ++ x :: xs) → setChT (upd b (D ++ x :: xs)) (delC (row x)) = upd b (D ++ xs))
    (hins : ∀ b D y R, P y → Sorted lt (D ++ y :: R) → setChT (upd b (D ++ R)) (insC (row y)) = upd b (D ++ y :: R))
    (hchg : ∀ b D x y xs, P y → sameKey (row x) (row y) → Sorted lt (D ++ x :: xs) → setChT (upd b (D ++ x :: xs)) (chgC (row x) (row y)) = upd b (D ++ y :: xs)) :
    ∀ (A B D : List Item) (b : BookT), (∀ x ∈ A, P x) → (∀ y ∈ B, P y) → Sorted lt (D ++ A) → Sorted lt (D ++ B) → (mergeD (A.map row) (B.map row)).foldl setChT (upd b (D ++ A)) = upd b (D ++ B)
  | [], [], D, b, _, _, _, _ => by simp [mergeD]
  | x :: xs, [], D, b, hA, hB, sA, sB => by
    rw [List.map_cons, List.map_nil, mergeD, List.foldl_cons, hdel b D x xs sA]
    have ih := fold_list lt row upd P hord hval hdel hins hchg xs [] D b (fun z hz => hA z (List.mem_cons_of_mem _ hz)) hB (sA.sublist (by simp)) sB
    exact ih
  | [], y :: ys, D, b, hA, hB, sA, sB => by
    rw [List.map_cons, List.map_nil, mergeD, List.foldl_cons]
    have s1 : Sorted lt (D ++ [y]) := sB.sublist (by simp)
    rw [hins b D y [] (hB y (List.mem_cons_self ..)) s1]
    have ih := fold_list lt row upd P hord hval hdel hins hchg [] ys (D ++ [y]) b hA (fun z hz => hB z (List.mem_cons_of_mem _ hz)) (by simpa using s1) (by simpa using sB)
    simpa using ih
  | x :: xs, y :: ys, D, b, hA, hB, sA, sB => by
    have ht : ∀ a b c, lt a b = true → lt b c = true → lt a c = true := fun a b c h1 h2 => by rw [← hord] at *; exact ltR_trans h1 h2
    have pA := List.pairwise_append.1 sA
    have pB := List.pairwise_append.1 sB
    have qA := List.pairwise_cons.1 pA.2.1
    have qB := List.pairwise_cons.1 pB.2.1
    rw [List.map_cons, List.map_cons, mergeD]
    cases e1 : ltR (row x) (row y) with
    | true =>
      simp only [if_true]
      rw [List.foldl_cons, hdel b D x xs sA]
      have ih := fold_list lt row upd P hord hval hdel hins hchg xs (y :: ys) D b (fun z hz => hA z (List.mem_cons_of_mem _ hz)) hB (sA.sublist (by simp)) sB
      exact ih
    | false =>
      cases e2 : ltR (row y) (row x) with
      | true =>
        simp only [if_true, Bool.false_eq_true, if_false]
        have hyx : lt y x = true := by rw [← hord]; exact e2
        have s1 : Sorted lt (D ++ y :: x :: xs) := by
          refine List.pairwise_append.2 ⟨pA.1, List.pairwise_cons.2 ⟨fun z hz => (List.mem_cons.1 hz).elim (fun e => by rw [e]; exact hyx) (fun hz => ht _ _ _ hyx (qA.1 z hz)), pA.2.1⟩, fun d hd z hz => ?_⟩
          exact (List.mem_cons.1 hz).elim (fun e => by rw [e]; exact pB.2.2 d hd y (List.mem_cons_self ..)) (fun hz => pA.2.2 d hd z hz)
        rw [List.foldl_cons, hins b D y (x :: xs) (hB y (List.mem_cons_self ..)) s1]
        have ih := fold_list lt row upd P hord hval hdel hins hchg (x :: xs) ys (D ++ [y]) b hA (fun z hz => hB z (List.mem_cons_of_mem _ hz)) (by simpa using s1) (by simpa using sB)
        simpa using ih
      | false =>
        simp only [Bool.false_eq_true, if_false]
        have hk := ltR_tri e1 e2
        have hyl : ∀ z, lt x z = true → lt y z = true := fun z h => by rw [← hord] at *; exact key_ltR ⟨hk.1.symm, hk.2.1.symm, hk.2.2.symm⟩ h
        have s1 : Sorted lt (D ++ y :: xs) := by
          refine List.pairwise_append.2 ⟨pA.1, List.pairwise_cons.2 ⟨fun z hz => hyl z (qA.1 z hz), qA.2⟩, fun d hd z hz => ?_⟩
          exact (List.mem_cons.1 hz).elim (fun e => by rw [e]; exact pB.2.2 d hd y (List.mem_cons_self ..)) (fun hz => pA.2.2 d hd z (List.mem_cons_of_mem _ hz))
        have ih := fold_list lt row upd P hord hval hdel hins hchg xs ys (D ++ [y]) b (fun z hz => hA z (List.mem_cons_of_mem _ hz)) (fun z hz => hB z (List.mem_cons_of_mem _ hz)) (by simpa using s1) (by simpa using sB)
        by_cases hv : (row x).v = (row y).v
        · rw [if_pos hv]
          obtain rfl := hval x y (hA x (List.mem_cons_self ..)) (hB y (List.mem_cons_self ..)) hk hv
          simpa using ih
        · rw [if_neg hv, List.foldl_cons, hchg b D x y xs (hB y (List.mem_cons_self ..)) hk sA]
          simpa using ih
  termination_by A B => A.length + B.length
theorem merge_cc (x y : RowT) (xs ys : List RowT) : mergeD (x :: xs) (y :: ys) = if ltR x y then delC x :: mergeD xs (y :: ys) else if ltR y x then insC y :: mergeD (x :: xs) ys else if x.v = y.v then mergeD xs ys else chgC x y :: mergeD xs ys := by rw [mergeD]
theorem merge_cn (x : RowT) (xs : List RowT) : mergeD (x :: xs) [] = delC x :: mergeD xs [] := by rw [mergeD]
theorem merge_nc (y : RowT) (ys : List RowT) : mergeD [] (y :: ys) = insC y :: mergeD [] ys := by rw [mergeD]
/-- Lists one behind the other. -/
theorem merge_app : ∀ (X Y : List RowT) (X2 Y2 : List RowT) (n : Int), (∀ x ∈ X, x.l < n) → (∀ y ∈ Y, y.l < n) → (∀ x ∈ X2, n ≤ x.l) → (∀ y ∈ Y2, n ≤ y.l) → mergeD (X ++ X2) (Y ++ Y2) = mergeD X Y ++ mergeD X2 Y2
  | [], [], X2, Y2, n, _, _, _, _ => by simp [mergeD]
  | x :: xs, [], X2, Y2, n, h1, h2, h3, h4 => by
    have ih := merge_app xs [] X2 Y2 n (fun z hz => h1 z (List.mem_cons_of_mem _ hz)) h2 h3 h4
    rw [List.nil_append] at ih ⊢
    cases Y2 with
    | nil =>
      rw [List.cons_append, mergeD, mergeD, ih]; rfl
    | cons y Y2 =>
      have hl : ltR x y = true := ltR_iff.2 (.inl (by have := h1 x (List.mem_cons_self ..); have := h4 y (List.mem_cons_self ..); omega))
      rw [List.cons_append, merge_cc, if_pos hl, ih, merge_cn]; rfl
  | [], y :: ys, X2, Y2, n, h1, h2, h3, h4 => by
    have ih := merge_app [] ys X2 Y2 n h1 (fun z hz => h2 z (List.mem_cons_of_mem _ hz)) h3 h4
    rw [List.nil_append] at ih ⊢
    cases X2 with
    | nil =>
      rw [List.cons_append, mergeD, mergeD, ih]; rfl
    | cons x X2 =>
      have hl : ltR y x = true := ltR_iff.2 (.inl (by have := h2 y (List.mem_cons_self ..); have := h3 x (List.mem_cons_self ..); omega))
      have hn : ¬ ltR x y = true := by rw [ltR_asym hl]; simp
      rw [List.cons_append, merge_cc, if_neg hn, if_pos hl, ih, merge_nc]; rfl
  | x :: xs, y :: ys, X2, Y2, n, h1, h2, h3, h4 => by
    have g1 : ∀ z ∈ xs, z.l < n := fun z hz => h1 z (List.mem_cons_of_mem _ hz)
    have g2 : ∀ z ∈ ys, z.l < n := fun z hz => h2 z (List.mem_cons_of_mem _ hz)
    rw [List.cons_append, List.cons_append, mergeD, mergeD]
    cases e1 : ltR x y with
    | true =>
      have ih := merge_app xs (y :: ys) X2 Y2 n g1 h2 h3 h4
      simp only [if_true]
      rw [← List.cons_append, ih]; rfl
    | false =>
      cases e2 : ltR y x with
      | true =>
        have ih := merge_app (x :: xs) ys X2 Y2 n h1 g2 h3 h4
        simp only [if_true, Bool.false_eq_true, if_false]
        rw [← List.cons_append, ih]; rfl
      | false =>
        have ih := merge_app xs ys X2 Y2 n g1 g2 h3 h4
        simp only [Bool.false_eq_true, if_false]
        by_cases hv : x.v = y.v
        · rw [if_pos hv, if_pos hv, ih]
        · rw [if_neg hv, if_neg hv, ih]; rfl
  termination_by X Y => X.length + Y.length
end Go.Proofs.Ytellifcjamedkaa
