/- Changes of books: the diff, the patch; plain. Changes that are set into a book; plain. A book and its diff; plain. A book patched by its diff is the other one; plain. -/
import Derived.Test.YtellifcjamedkaaGreatMBm
namespace Go.Proofs.YtellifcjamedkaaGreat
open Go.RowKit Base Base2
/-- A thing as a row: its list, its key, its values. -/
structure RowT where
  l : Int
  a : Int
  b : Int
  v : List Int
structure ChT where
  l : Int
  a : Int
  b : Int
  was : List Int
  now : List Int
def rwH (x : Item) : RowT := ⟨1, key 0 x, 0, [key 1 x, key 2 x, key 3 x]⟩
def rwS (x : Item) : RowT := ⟨2, key 0 x, key 1 x, [key 2 x]⟩
def rwO (x : Item) : RowT := ⟨3, key 0 x, 0, [key 1 x, key 2 x, key 3 x, key 4 x, key 5 x]⟩
def rwR (x : Item) : RowT := ⟨4, key 0 x, 0, [key 1 x]⟩
def rwC (n : Int) : RowT := ⟨5, 0, 0, [n]⟩
def rowsD (b : BookT) : List RowT := b.hs.map rwH ++ (b.ss.map rwS ++ (b.os.map rwO ++ (b.rs.map rwR ++ [rwC b.co])))
def lessD (l a b m c d : Int) : Bool := decide (l < m) || (decide (l = m) && (decide (a < c) || (decide (a = c) && decide (b < d))))
def ltR (x y : RowT) : Bool := lessD x.l x.a x.b y.l y.a y.b
theorem lessD_iff {l a b m c d : Int} : lessD l a b m c d = true ↔ l < m ∨ (l = m ∧ (a < c ∨ (a = c ∧ b < d))) := by
  unfold lessD
  simp only [Bool.or_eq_true, Bool.and_eq_true, decide_eq_true_eq]
theorem lessD_no {l a b m c d : Int} : lessD l a b m c d = false ↔ ¬ (l < m ∨ (l = m ∧ (a < c ∨ (a = c ∧ b < d)))) := by
  rw [← lessD_iff]; simp
def sameKey (x y : RowT) : Prop := x.l = y.l ∧ x.a = y.a ∧ x.b = y.b
theorem ltR_iff {x y : RowT} : ltR x y = true ↔ x.l < y.l ∨ (x.l = y.l ∧ (x.a < y.a ∨ (x.a = y.a ∧ x.b < y.b))) := lessD_iff
theorem ltR_tri {x y : RowT} (h1 : ltR x y = false) (h2 : ltR y x = false) : sameKey x y := by
  unfold ltR at h1 h2
  rw [lessD_no] at h1 h2
  unfold sameKey
  omega
theorem ltR_trans {x y z : RowT} (h1 : ltR x y = true) (h2 : ltR y z = true) : ltR x z = true := by
  rw [ltR_iff] at *
  omega
theorem key_ltR {x y z : RowT} (h1 : sameKey x y) (h2 : ltR y z = true) : ltR x z = true := by
  unfold sameKey at h1
  rw [ltR_iff] at *
  omega
theorem ltR_asym {x y : RowT} (h : ltR x y = true) : ltR y x = false := by
  rw [ltR_iff] at h
  unfold ltR
  rw [lessD_no]
  omega
def delC (x : RowT) : ChT := ⟨x.l, x.a, x.b, x.v, []⟩
def insC (y : RowT) : ChT := ⟨y.l, y.a, y.b, [], y.v⟩
def chgC (x y : RowT) : ChT := ⟨x.l, x.a, x.b, x.v, y.v⟩
/-- What two rows of rows are unlike by. -/
def mergeD : List RowT → List RowT → List ChT
  | [], [] => []
  | x :: xs, [] => delC x :: mergeD xs []
  | [], y :: ys => insC y :: mergeD [] ys
  | x :: xs, y :: ys =>
    if ltR x y then delC x :: mergeD xs (y :: ys)
    else if ltR y x then insC y :: mergeD (x :: xs) ys
    else if x.v = y.v then mergeD xs ys else chgC x y :: mergeD xs ys
  termination_by a b => a.length + b.length
def diffT (a b : BookT) : List ChT := mergeD (rowsD a) (rowsD b)
def turnC (c : ChT) : ChT := ⟨c.l, c.a, c.b, c.now, c.was⟩
def turnT (l : List ChT) : List ChT := l.map turnC
/-- Rows that rise. -/
def RiseR (l : List RowT) : Prop := l.Pairwise (fun x y => ltR x y = true)
def keyR (c : ChT) (x : RowT) : Prop := c.l = x.l ∧ c.a = x.a ∧ c.b = x.b
end Go.Proofs.YtellifcjamedkaaGreat
namespace Go.Proofs.YtellifcjamedkaaGreat
open Go.RowKit Base Base2
def padV (v : List Int) : List Int := if v = [] then [0, 0, 0, 0, 0] else v
/-- A change's values set into a book. -/
def setChT (b : BookT) (c : ChT) : BookT :=
  if c.l = 1 then
    if c.now = [] then { b with hs := b.hs.filter (fun y => key 0 y != c.a) }
    else setHolderT { b with hs := b.hs.filter (fun y => key 0 y != c.a) } [c.a, key 0 c.now, key 1 c.now, key 2 c.now]
  else if c.l = 2 then
    setStakeT (if c.now ≠ [] ∧ key 0 c.now = 0 then { setStakeT b [c.a, c.b, 0] with co := -1 } else setStakeT b [c.a, c.b, 0]) [c.a, c.b, key 0 (padV c.now)]
  else if c.l = 3 then
    setOpenT (if c.now ≠ [] ∧ key 3 c.now = 0 then { b with co := -1 } else b) [c.a, key 0 (padV c.now), key 1 (padV c.now), key 2 (padV c.now), key 3 (padV c.now), key 4 (padV c.now)]
  else if c.l = 4 then
    if c.now = [] then { b with rs := b.rs.filter (fun y => key 0 y != c.a) }
    else setRateT { b with rs := b.rs.filter (fun y => key 0 y != c.a) } [c.a, key 0 c.now]
  else if c.l = 5 then
    if 0 ≤ b.co then { b with co := key 0 (padV c.now) } else b
  else b
def Sorted (lt : Item → Item → Bool) (l : List Item) : Prop := l.Pairwise (fun x y => lt x y = true)
theorem rise_sorted {lt : Item → Item → Bool} (ht : ∀ x y z, lt x y = true → lt y z = true → lt x z = true) : ∀ {l : List Item}, riseL lt l = true → Sorted lt l
  | [], _ => List.Pairwise.nil
  | [x], _ => List.pairwise_singleton _ _
  | x :: y :: r, h => by
    rw [riseL_two, Bool.and_eq_true] at h
    have ih := rise_sorted ht h.2
    have hp := List.pairwise_cons.1 ih
    refine List.pairwise_cons.2 ⟨fun z hz => ?_, ih⟩
    exact (List.mem_cons.1 hz).elim (fun e => by rw [e]; exact h.1) (fun hz => ht _ _ _ h.1 (hp.1 z hz))
theorem sorted_rise {lt : Item → Item → Bool} : ∀ {l : List Item}, Sorted lt l → riseL lt l = true
  | [], _ => rfl
  | [x], _ => rfl
  | x :: y :: r, h => by
    have hp := List.pairwise_cons.1 h
    rw [riseL_two, hp.1 y (List.mem_cons_self ..), sorted_rise hp.2]; rfl
/-- The place, behind all that are ahead. -/
theorem pos_at {c : Item → Int} : ∀ (D R : List Item), (∀ d ∈ D, c d < 0) → (∀ x ∈ R.head?, 0 ≤ c x) → posL c (D ++ R) = D.length
  | [], [], _, _ => rfl
  | [], x :: R, _, h => by rw [List.nil_append, posL_ge (h x rfl)]; rfl
  | d :: D, R, h, h2 => by
    rw [List.cons_append, posL_lt (h d (List.mem_cons_self ..)), pos_at D R (fun z hz => h z (List.mem_cons_of_mem _ hz)) h2]; rfl
theorem set_new {lt : Item → Item → Bool} {c : Item → Int} {ge eq : Item → Bool} {x : Item} (hm : MonoC lt c) (hg : ∀ y, ge y = decide (0 ≤ c y)) (he : ∀ y, eq y = (c y == 0)) (d : Bool) {D R : List Item} (hr : riseL lt (D ++ R) = true) (hD : ∀ z ∈ D, c z < 0) (hR : ∀ z ∈ R.head?, 0 < c z) : setL ge eq x d (D ++ R) = D ++ ((if d then [] else [x]) ++ R) := by
  have hp := pos_at D R hD (fun z hz => by have := hR z hz; omega)
  rw [setL_pos hm hg he d hr, hp, List.take_left]
  have hf : foundL c (D ++ R) = false := by
    unfold foundL
    rw [hp, List.getElem?_append_right (Nat.le_refl _), Nat.sub_self]
    cases R with
    | nil => rfl
    | cons y R => have := hR y rfl; simp; omega
  unfold behindL
  rw [hf, hp]
  simp
theorem set_old {lt : Item → Item → Bool} {c : Item → Int} {ge eq : Item → Bool} {x y : Item} (hm : MonoC lt c) (hg : ∀ y, ge y = decide (0 ≤ c y)) (he : ∀ y, eq y = (c y == 0)) (d : Bool) {D R : List Item} (hr : riseL lt (D ++ y :: R) = true) (hD : ∀ z ∈ D, c z < 0) (hy : c y = 0) : setL ge eq x d (D ++ y :: R) = D ++ ((if d then [] else [x]) ++ R) := by
  have hp := pos_at D (y :: R) hD (fun z hz => by simp at hz; subst hz; omega)
  rw [setL_pos hm hg he d hr, hp, List.take_left]
  have hf : foundL c (D ++ y :: R) = true := by
    unfold foundL
    rw [hp, List.getElem?_append_right (Nat.le_refl _), Nat.sub_self]
    simp [hy]
  unfold behindL
  rw [hf, hp]
  have e : (D ++ y :: R).drop (D.length + 1) = R := by
    rw [show D ++ y :: R = (D ++ [y]) ++ R by simp, show D.length + 1 = (D ++ [y]).length by simp, List.drop_left]
  simp [e]
/-- The changes of one list, set one behind the other. -/
theorem fold_list (lt : Item → Item → Bool) (row : Item → RowT) (upd : BookT → List Item → BookT) (P : Item → Prop)
    (hord : ∀ x y, ltR (row x) (row y) = lt x y)
    (hval : ∀ x y, P x → P y → sameKey (row x) (row y) → (row x).v = (row y).v → x = y)
    (hdel : ∀ b D x xs, Sorted lt (D ++ x :: xs) → setChT (upd b (D ++ x :: xs)) (delC (row x)) = upd b (D ++ xs))
    (hins : ∀ b D y R, P y → Sorted lt (D ++ y :: R) → setChT (upd b (D ++ R)) (insC (row y)) = upd b (D ++ y :: R))
    (hchg : ∀ b D x y xs, P y → sameKey (row x) (row y) → Sorted lt (D ++ x :: xs) → setChT (upd b (D ++ x :: xs)) (chgC (row x) (row y)) = upd b (D ++ y :: xs)) :
    ∀ (A B D : List Item) (b : BookT), (∀ x ∈ A, P x) → (∀ y ∈ B, P y) → Sorted lt (D ++ A) → Sorted lt (D ++ B) → (mergeD (A.map row) (B.map row)).foldl setChT (upd b (D ++ A)) = upd b (D ++ B)
  | [], [], D, b, _, _, _, _ => by simp [mergeD]
  | x :: xs, [], D, b, hA, hB, sA, sB => by
    rw [List.map_cons, List.map_nil, mergeD, List.foldl_cons, hdel b D x xs sA]
    have ih := fold_list lt row upd P hord hval hdel hins hchg xs [] D b (fun z hz => hA z (List.mem_cons_of_mem _ hz)) hB (sA.sublist (by simp)) sB
    exact ih
  | [], y :: ys, D, b, hA, hB, sA, sB => by
    rw [List.map_cons, List.map_nil, mergeD, List.foldl_cons]
    have s1 : Sorted lt (D ++ [y]) := sB.sublist (by simp)
    rw [hins b D y [] (hB y (List.mem_cons_self ..)) s1]
    have ih := fold_list lt row upd P hord hval hdel hins hchg [] ys (D ++ [y]) b hA (fun z hz => hB z (List.mem_cons_of_mem _ hz)) (by simpa using s1) (by simpa using sB)
    simpa using ih
  | x :: xs, y :: ys, D, b, hA, hB, sA, sB => by
    have ht : ∀ a b c, lt a b = true → lt b c = true → lt a c = true := fun a b c h1 h2 => by rw [← hord] at *; exact ltR_trans h1 h2
    have pA := List.pairwise_append.1 sA
    have pB := List.pairwise_append.1 sB
    have qA := List.pairwise_cons.1 pA.2.1
    have qB := List.pairwise_cons.1 pB.2.1
    rw [List.map_cons, List.map_cons, mergeD]
    cases e1 : ltR (row x) (row y) with
    | true =>
      simp only [if_true]
      rw [List.foldl_cons, hdel b D x xs sA]
      have ih := fold_list lt row upd P hord hval hdel hins hchg xs (y :: ys) D b (fun z hz => hA z (List.mem_cons_of_mem _ hz)) hB (sA.sublist (by simp)) sB
      exact ih
    | false =>
      cases e2 : ltR (row y) (row x) with
      | true =>
        simp only [if_true, Bool.false_eq_true, if_false]
        have hyx : lt y x = true := by rw [← hord]; exact e2
        have s1 : Sorted lt (D ++ y :: x :: xs) := by
          refine List.pairwise_append.2 ⟨pA.1, List.pairwise_cons.2 ⟨fun z hz => (List.mem_cons.1 hz).elim (fun e => by rw [e]; exact hyx) (fun hz => ht _ _ _ hyx (qA.1 z hz)), pA.2.1⟩, fun d hd z hz => ?_⟩
          exact (List.mem_cons.1 hz).elim (fun e => by rw [e]; exact pB.2.2 d hd y (List.mem_cons_self ..)) (fun hz => pA.2.2 d hd z hz)
        rw [List.foldl_cons, hins b D y (x :: xs) (hB y (List.mem_cons_self ..)) s1]
        have ih := fold_list lt row upd P hord hval hdel hins hchg (x :: xs) ys (D ++ [y]) b hA (fun z hz => hB z (List.mem_cons_of_mem _ hz)) (by simpa using s1) (by simpa using sB)
        simpa using ih
      | false =>
        simp only [Bool.false_eq_true, if_false]
        have hk := ltR_tri e1 e2
        have hyl : ∀ z, lt x z = true → lt y z = true := fun z h => by rw [← hord] at *; exact key_ltR ⟨hk.1.symm, hk.2.1.symm, hk.2.2.symm⟩ h
        have s1 : Sorted lt (D ++ y :: xs) := by
          refine List.pairwise_append.2 ⟨pA.1, List.pairwise_cons.2 ⟨fun z hz => hyl z (qA.1 z hz), qA.2⟩, fun d hd z hz => ?_⟩
          exact (List.mem_cons.1 hz).elim (fun e => by rw [e]; exact pB.2.2 d hd y (List.mem_cons_self ..)) (fun hz => pA.2.2 d hd z (List.mem_cons_of_mem _ hz))
        have ih := fold_list lt row upd P hord hval hdel hins hchg xs ys (D ++ [y]) b (fun z hz => hA z (List.mem_cons_of_mem _ hz)) (fun z hz => hB z (List.mem_cons_of_mem _ hz)) (by simpa using s1) (by simpa using sB)
        by_cases hv : (row x).v = (row y).v
        · rw [if_pos hv]
          obtain rfl := hval x y (hA x (List.mem_cons_self ..)) (hB y (List.mem_cons_self ..)) hk hv
          simpa using ih
        · rw [if_neg hv, List.foldl_cons, hchg b D x y xs (hB y (List.mem_cons_self ..)) hk sA]
          simpa using ih
  termination_by A B => A.length + B.length
theorem merge_cc (x y : RowT) (xs ys : List RowT) : mergeD (x :: xs) (y :: ys) = if ltR x y then delC x :: mergeD xs (y :: ys) else if ltR y x then insC y :: mergeD (x :: xs) ys else if x.v = y.v then mergeD xs ys else chgC x y :: mergeD xs ys := by rw [mergeD]
theorem merge_cn (x : RowT) (xs : List RowT) : mergeD (x :: xs) [] = delC x :: mergeD xs [] := by rw [mergeD]
theorem merge_nc (y : RowT) (ys : List RowT) : mergeD [] (y :: ys) = insC y :: mergeD [] ys := by rw [mergeD]
/-- Lists one behind the other. -/
theorem merge_app : ∀ (X Y : List RowT) (X2 Y2 : List RowT) (n : Int), (∀ x ∈ X, x.l < n) → (∀ y ∈ Y, y.l < n) → (∀ x ∈ X2, n ≤ x.l) → (∀ y ∈ Y2, n ≤ y.l) → mergeD (X ++ X2) (Y ++ Y2) = mergeD X Y ++ mergeD X2 Y2
  | [], [], X2, Y2, n, _, _, _, _ => by simp [mergeD]
  | x :: xs, [], X2, Y2, n, h1, h2, h3, h4 => by
    have ih := merge_app xs [] X2 Y2 n (fun z hz => h1 z (List.mem_cons_of_mem _ hz)) h2 h3 h4
    rw [List.nil_append] at ih ⊢
    cases Y2 with
    | nil =>
      rw [List.cons_append, mergeD, mergeD, ih]; rfl
    | cons y Y2 =>
      have hl : ltR x y = true := ltR_iff.2 (.inl (by have := h1 x (List.mem_cons_self ..); have := h4 y (List.mem_cons_self ..); omega))
      rw [List.cons_append, merge_cc, if_pos hl, ih, merge_cn]; rfl
  | [], y :: ys, X2, Y2, n, h1, h2, h3, h4 => by
    have ih := merge_app [] ys X2 Y2 n h1 (fun z hz => h2 z (List.mem_cons_of_mem _ hz)) h3 h4
    rw [List.nil_append] at ih ⊢
    cases X2 with
    | nil =>
      rw [List.cons_append, mergeD, mergeD, ih]; rfl
    | cons x X2 =>
      have hl : ltR y x = true := ltR_iff.2 (.inl (by have := h2 y (List.mem_cons_self ..); have := h3 x (List.mem_cons_self ..); omega))
      have hn : ¬ ltR x y = true := by rw [ltR_asym hl]; simp
      rw [List.cons_append, merge_cc, if_neg hn, if_pos hl, ih, merge_nc]; rfl
  | x :: xs, y :: ys, X2, Y2, n, h1, h2, h3, h4 => by
    have g1 : ∀ z ∈ xs, z.l < n := fun z hz => h1 z (List.mem_cons_of_mem _ hz)
    have g2 : ∀ z ∈ ys, z.l < n := fun z hz => h2 z (List.mem_cons_of_mem _ hz)
    rw [List.cons_append, List.cons_append, mergeD, mergeD]
    cases e1 : ltR x y with
    | true =>
      have ih := merge_app xs (y :: ys) X2 Y2 n g1 h2 h3 h4
      simp only [if_true]
      rw [← List.cons_append, ih]; rfl
    | false =>
      cases e2 : ltR y x with
      | true =>
        have ih := merge_app (x :: xs) ys X2 Y2 n h1 g2 h3 h4
        simp only [if_true, Bool.false_eq_true, if_false]
        rw [← List.cons_append, ih]; rfl
      | false =>
        have ih := merge_app xs ys X2 Y2 n g1 g2 h3 h4
        simp only [Bool.false_eq_true, if_false]
        by_cases hv : x.v = y.v
        · rw [if_pos hv, if_pos hv, ih]
        · rw [if_neg hv, if_neg hv, ih]; rfl
  termination_by X Y => X.length + Y.length
end Go.Proofs.YtellifcjamedkaaGreat
namespace Go.Proofs.YtellifcjamedkaaGreat
open Go.RowKit Base Base2
theorem sorted_parts {lt : Item → Item → Bool} {D R : List Item} {y : Item} (h : Sorted lt (D ++ y :: R)) : (∀ d ∈ D, lt d y = true) ∧ (∀ r ∈ R, lt y r = true) ∧ Sorted lt (D ++ R) := by
  have p := List.pairwise_append.1 h
  have q := List.pairwise_cons.1 p.2.1
  exact ⟨fun d hd => p.2.2 d hd y (List.mem_cons_self ..), q.1, h.sublist (by simp)⟩
theorem head_of {α : Type} {P : α → Prop} {R : List α} (h : ∀ r ∈ R, P r) : ∀ r ∈ R.head?, P r := fun r hr => h r (List.mem_of_mem_head? hr)
theorem c1_lt {id : Int} {z : Item} (h : key 0 z < id) : c1 id z < 0 := cmpI_neg.2 h
theorem c1_gt {id : Int} {z : Item} (h : id < key 0 z) : 0 < c1 id z := cmpI_pos.2 h
theorem lt1_iff {x y : Item} : lt1 x y = true ↔ key 0 x < key 0 y := by unfold lt1; simp
theorem lt2_iff {x y : Item} : lt2 x y = true ↔ key 0 x < key 0 y ∨ (key 0 x = key 0 y ∧ key 1 x < key 1 y) := by unfold lt2; simp
theorem c2_pos {id s : Int} {x : Item} : 0 < c2 id s x ↔ id < key 0 x ∨ (key 0 x = id ∧ s < key 1 x) := by
  have h1 := @c2_neg id s x
  have h2 := @c2_zero id s x
  omega
/-- By one number: what is not there, what is. -/
theorem new1 {x y : Item} (d : Bool) {D R : List Item} (hs : Sorted lt1 (D ++ y :: R)) (hk : key 0 x = key 0 y) : setL (ge1 x) (eq1 x) x d (D ++ R) = D ++ ((if d then [] else [x]) ++ R) := by
  obtain ⟨h1, h2, h3⟩ := sorted_parts hs
  exact set_new (mono1 (key 0 x)) (fun z => ge1_c x z) (fun z => eq1_c x z) d (sorted_rise h3) (fun z hz => c1_lt (by rw [hk]; exact lt1_iff.1 (h1 z hz))) (head_of fun z hz => c1_gt (by rw [hk]; exact lt1_iff.1 (h2 z hz)))
theorem old1 {x y : Item} (d : Bool) {D R : List Item} (hs : Sorted lt1 (D ++ y :: R)) (hk : key 0 x = key 0 y) : setL (ge1 x) (eq1 x) x d (D ++ y :: R) = D ++ ((if d then [] else [x]) ++ R) := by
  obtain ⟨h1, h2, h3⟩ := sorted_parts hs
  exact set_old (mono1 (key 0 x)) (fun z => ge1_c x z) (fun z => eq1_c x z) d (sorted_rise hs) (fun z hz => c1_lt (by rw [hk]; exact lt1_iff.1 (h1 z hz))) (cmpI_zero.2 hk.symm)
theorem new2 {x y : Item} (d : Bool) {D R : List Item} (hs : Sorted lt2 (D ++ y :: R)) (hk : key 0 x = key 0 y) (hk2 : key 1 x = key 1 y) : setL (ge2 x) (eq2 x) x d (D ++ R) = D ++ ((if d then [] else [x]) ++ R) := by
  obtain ⟨h1, h2, h3⟩ := sorted_parts hs
  exact set_new (mono2 (key 0 x) (key 1 x)) (fun z => ge2_c x z) (fun z => eq2_c x z) d (sorted_rise h3) (fun z hz => c2_neg.2 (by rw [hk, hk2]; exact lt2_iff.1 (h1 z hz))) (head_of fun z hz => c2_pos.2 (by have := lt2_iff.1 (h2 z hz); omega))
theorem old2 {x y : Item} (d : Bool) {D R : List Item} (hs : Sorted lt2 (D ++ y :: R)) (hk : key 0 x = key 0 y) (hk2 : key 1 x = key 1 y) : setL (ge2 x) (eq2 x) x d (D ++ y :: R) = D ++ ((if d then [] else [x]) ++ R) := by
  obtain ⟨h1, h2, h3⟩ := sorted_parts hs
  exact set_old (mono2 (key 0 x) (key 1 x)) (fun z => ge2_c x z) (fun z => eq2_c x z) d (sorted_rise hs) (fun z hz => c2_neg.2 (by rw [hk, hk2]; exact lt2_iff.1 (h1 z hz))) (c2_zero.2 ⟨hk.symm, hk2.symm⟩)
theorem filter_old {a : Int} {y : Item} {D R : List Item} (hs : Sorted lt1 (D ++ y :: R)) (hk : a = key 0 y) : (D ++ y :: R).filter (fun z => key 0 z != a) = D ++ R := by
  obtain ⟨h1, h2, _⟩ := sorted_parts hs
  have e1 : D.filter (fun z => key 0 z != a) = D := List.filter_eq_self.2 fun z hz => by have := lt1_iff.1 (h1 z hz); simp; omega
  have e2 : R.filter (fun z => key 0 z != a) = R := List.filter_eq_self.2 fun z hz => by have := lt1_iff.1 (h2 z hz); simp; omega
  rw [List.filter_append, List.filter_cons, e1, e2]
  simp [hk]
theorem filter_new {a : Int} {y : Item} {D R : List Item} (hs : Sorted lt1 (D ++ y :: R)) (hk : a = key 0 y) : (D ++ R).filter (fun z => key 0 z != a) = D ++ R := by
  obtain ⟨h1, h2, _⟩ := sorted_parts hs
  exact List.filter_eq_self.2 fun z hz => by
    rcases List.mem_append.1 hz with hz | hz
    · have := lt1_iff.1 (h1 z hz); simp; omega
    · have := lt1_iff.1 (h2 z hz); simp; omega
theorem val4 {y : Item} (h : y.length = 4) : y = [key 0 y, key 1 y, key 2 y, key 3 y] := by
  obtain ⟨a, b, c, d, rfl⟩ : ∃ a b c d, y = [a, b, c, d] := by match y, h with | [a, b, c, d], _ => exact ⟨a, b, c, d, rfl⟩
  rfl
theorem val3 {y : Item} (h : y.length = 3) : y = [key 0 y, key 1 y, key 2 y] := by
  obtain ⟨a, b, c, rfl⟩ : ∃ a b c, y = [a, b, c] := by match y, h with | [a, b, c], _ => exact ⟨a, b, c, rfl⟩
  rfl
theorem val2 {y : Item} (h : y.length = 2) : y = [key 0 y, key 1 y] := by
  obtain ⟨a, b, rfl⟩ : ∃ a b, y = [a, b] := by match y, h with | [a, b], _ => exact ⟨a, b, rfl⟩
  rfl
theorem val6 {y : Item} (h : y.length = 6) : y = [key 0 y, key 1 y, key 2 y, key 3 y, key 4 y, key 5 y] := by
  obtain ⟨a, b, c, d, e, f, rfl⟩ : ∃ a b c d e f, y = [a, b, c, d, e, f] := by match y, h with | [a, b, c, d, e, f], _ => exact ⟨a, b, c, d, e, f, rfl⟩
  rfl
theorem fold_hs (A B : List Item) (b : BookT) (hA : ∀ x ∈ A, x.length = 4) (hB : ∀ y ∈ B, y.length = 4) (sA : Sorted lt1 A) (sB : Sorted lt1 B) : (mergeD (A.map rwH) (B.map rwH)).foldl setChT { b with hs := A } = { b with hs := B } := by
  have h := fold_list lt1 rwH (fun b L => { b with hs := L }) (fun x => x.length = 4) (fun x y => ?_) (fun x y hx hy hk hv => ?_) (fun b D x xs hs => ?_) (fun b D y R hy hs => ?_) (fun b D x y xs hy hk hs => ?_) A B [] b hA hB sA sB
  · exact h
  · unfold ltR rwH lt1
    dsimp only
    rw [Bool.eq_iff_iff, lessD_iff, decide_eq_true_eq]; omega
  · rw [val4 hx, val4 hy]
    have h1 : key 0 x = key 0 y := hk.2.1
    unfold rwH at hv
    simp only [List.cons.injEq, and_true] at hv
    rw [h1, hv.1, hv.2.1, hv.2.2]
  · show setChT _ ⟨1, key 0 x, 0, _, []⟩ = _
    unfold setChT
    dsimp only
    rw [if_pos rfl, if_pos rfl]
    rw [filter_old hs rfl]
  · show setChT _ ⟨1, key 0 y, 0, [], [key 1 y, key 2 y, key 3 y]⟩ = _
    unfold setChT
    dsimp only
    rw [if_pos rfl, if_neg (by simp)]
    rw [filter_new hs rfl]
    show setHolderT _ [key 0 y, key 1 y, key 2 y, key 3 y] = _
    rw [← val4 hy]
    unfold setHolderT
    dsimp only
    rw [new1 false hs rfl]
    rfl
  · have hk0 : key 0 x = key 0 y := hk.2.1
    show setChT _ ⟨1, key 0 x, 0, _, [key 1 y, key 2 y, key 3 y]⟩ = _
    unfold setChT
    dsimp only
    rw [if_pos rfl, if_neg (by simp)]
    rw [filter_old hs rfl]
    show setHolderT _ [key 0 x, key 1 y, key 2 y, key 3 y] = _
    rw [hk0, ← val4 hy]
    unfold setHolderT
    dsimp only
    rw [new1 false hs hk0.symm]
    rfl
theorem fold_rs (A B : List Item) (b : BookT) (hA : ∀ x ∈ A, x.length = 2) (hB : ∀ y ∈ B, y.length = 2) (sA : Sorted lt1 A) (sB : Sorted lt1 B) : (mergeD (A.map rwR) (B.map rwR)).foldl setChT { b with rs := A } = { b with rs := B } := by
  have h := fold_list lt1 rwR (fun b L => { b with rs := L }) (fun x => x.length = 2) (fun x y => ?_) (fun x y hx hy hk hv => ?_) (fun b D x xs hs => ?_) (fun b D y R hy hs => ?_) (fun b D x y xs hy hk hs => ?_) A B [] b hA hB sA sB
  · exact h
  · unfold ltR rwR lt1
    dsimp only
    rw [Bool.eq_iff_iff, lessD_iff, decide_eq_true_eq]; omega
  · rw [val2 hx, val2 hy]
    have h1 : key 0 x = key 0 y := hk.2.1
    unfold rwR at hv
    simp only [List.cons.injEq, and_true] at hv
    rw [h1, hv]
  · show setChT _ ⟨4, key 0 x, 0, _, []⟩ = _
    unfold setChT
    dsimp only
    rw [if_neg (by decide), if_neg (by decide), if_neg (by decide), if_pos rfl, if_pos rfl]
    rw [filter_old hs rfl]
  · show setChT _ ⟨4, key 0 y, 0, [], [key 1 y]⟩ = _
    unfold setChT
    dsimp only
    rw [if_neg (by decide), if_neg (by decide), if_neg (by decide), if_pos rfl, if_neg (by simp)]
    rw [filter_new hs rfl]
    show setRateT _ [key 0 y, key 1 y] = _
    rw [← val2 hy]
    unfold setRateT
    dsimp only
    rw [new1 false hs rfl]
    rfl
  · have hk0 : key 0 x = key 0 y := hk.2.1
    show setChT _ ⟨4, key 0 x, 0, _, [key 1 y]⟩ = _
    unfold setChT
    dsimp only
    rw [if_neg (by decide), if_neg (by decide), if_neg (by decide), if_pos rfl, if_neg (by simp)]
    rw [filter_old hs rfl]
    show setRateT _ [key 0 x, key 1 y] = _
    rw [hk0, ← val2 hy]
    unfold setRateT
    dsimp only
    rw [new1 false hs hk0.symm]
    rfl
theorem fold_os (A B : List Item) (b : BookT) (hA : ∀ x ∈ A, x.length = 6 ∧ key 4 x ≠ 0) (hB : ∀ y ∈ B, y.length = 6 ∧ key 4 y ≠ 0) (sA : Sorted lt1 A) (sB : Sorted lt1 B) : (mergeD (A.map rwO) (B.map rwO)).foldl setChT { b with os := A } = { b with os := B } := by
  have h := fold_list lt1 rwO (fun b L => { b with os := L }) (fun x => x.length = 6 ∧ key 4 x ≠ 0) (fun x y => ?_) (fun x y hx hy hk hv => ?_) (fun b D x xs hs => ?_) (fun b D y R hy hs => ?_) (fun b D x y xs hy hk hs => ?_) A B [] b hA hB sA sB
  · exact h
  · unfold ltR rwO lt1
    dsimp only
    rw [Bool.eq_iff_iff, lessD_iff, decide_eq_true_eq]; omega
  · rw [val6 hx.1, val6 hy.1]
    have h1 : key 0 x = key 0 y := hk.2.1
    unfold rwO at hv
    simp only [List.cons.injEq, and_true] at hv
    obtain ⟨v1, v2, v3, v4, v5⟩ := hv
    rw [h1, v1, v2, v3, v4, v5]
  · show setChT _ ⟨3, key 0 x, 0, _, []⟩ = _
    unfold setChT
    dsimp only
    rw [if_neg (by decide), if_neg (by decide), if_pos rfl, if_neg (by simp)]
    show setOpenT _ [key 0 x, 0, 0, 0, 0, 0] = _
    unfold setOpenT
    dsimp only
    rw [show (key 4 [key 0 x, 0, 0, 0, 0, 0] == 0) = true from rfl, old1 (x := [key 0 x, 0, 0, 0, 0, 0]) (y := x) true hs rfl]
    rfl
  · show setChT _ ⟨3, key 0 y, 0, [], [key 1 y, key 2 y, key 3 y, key 4 y, key 5 y]⟩ = _
    unfold setChT
    dsimp only
    rw [if_neg (by decide), if_neg (by decide), if_pos rfl, if_neg (by intro h; exact hy.2 h.2)]
    show setOpenT _ [key 0 y, key 1 y, key 2 y, key 3 y, key 4 y, key 5 y] = _
    rw [← val6 hy.1]
    unfold setOpenT
    dsimp only
    rw [show (key 4 y == 0) = false by simpa using hy.2, new1 false hs rfl]
    rfl
  · have hk0 : key 0 x = key 0 y := hk.2.1
    show setChT _ ⟨3, key 0 x, 0, _, [key 1 y, key 2 y, key 3 y, key 4 y, key 5 y]⟩ = _
    unfold setChT
    dsimp only
    rw [if_neg (by decide), if_neg (by decide), if_pos rfl, if_neg (by intro h; exact hy.2 h.2)]
    show setOpenT _ [key 0 x, key 1 y, key 2 y, key 3 y, key 4 y, key 5 y] = _
    rw [hk0, ← val6 hy.1]
    unfold setOpenT
    dsimp only
    rw [show (key 4 y == 0) = false by simpa using hy.2, old1 false hs hk0.symm]
    rfl
theorem fold_ss (A B : List Item) (b : BookT) (hA : ∀ x ∈ A, x.length = 3 ∧ key 2 x ≠ 0) (hB : ∀ y ∈ B, y.length = 3 ∧ key 2 y ≠ 0) (sA : Sorted lt2 A) (sB : Sorted lt2 B) : (mergeD (A.map rwS) (B.map rwS)).foldl setChT { b with ss := A } = { b with ss := B } := by
  have h := fold_list lt2 rwS (fun b L => { b with ss := L }) (fun x => x.length = 3 ∧ key 2 x ≠ 0) (fun x y => ?_) (fun x y hx hy hk hv => ?_) (fun b D x xs hs => ?_) (fun b D y R hy hs => ?_) (fun b D x y xs hy hk hs => ?_) A B [] b hA hB sA sB
  · exact h
  · unfold ltR rwS
    dsimp only
    rw [Bool.eq_iff_iff, lessD_iff, lt2_iff]; omega
  · rw [val3 hx.1, val3 hy.1]
    have h1 : key 0 x = key 0 y := hk.2.1
    have h2 : key 1 x = key 1 y := hk.2.2
    unfold rwS at hv
    simp only [List.cons.injEq, and_true] at hv
    rw [h1, h2, hv]
  · show setChT _ ⟨2, key 0 x, key 1 x, _, []⟩ = _
    unfold setChT
    dsimp only
    rw [if_neg (by decide), if_pos rfl, if_neg (by simp)]
    show setStakeT (setStakeT _ [key 0 x, key 1 x, 0]) [key 0 x, key 1 x, 0] = _
    unfold setStakeT
    dsimp only
    rw [show (key 2 [key 0 x, key 1 x, 0] == 0) = true from rfl, old2 (x := [key 0 x, key 1 x, 0]) (y := x) true hs rfl rfl]
    show { b with ss := setL _ _ _ true (D ++ xs) } = _
    rw [new2 (x := [key 0 x, key 1 x, 0]) (y := x) true hs rfl rfl]
    rfl
  · show setChT _ ⟨2, key 0 y, key 1 y, [], [key 2 y]⟩ = _
    unfold setChT
    dsimp only
    rw [if_neg (by decide), if_pos rfl, if_neg (by intro h; exact hy.2 h.2)]
    show setStakeT (setStakeT _ [key 0 y, key 1 y, 0]) [key 0 y, key 1 y, key 2 y] = _
    rw [← val3 hy.1]
    unfold setStakeT
    dsimp only
    rw [show (key 2 [key 0 y, key 1 y, 0] == 0) = true from rfl, show (key 2 y == 0) = false by simpa using hy.2, new2 (x := [key 0 y, key 1 y, 0]) (y := y) true hs rfl rfl]
    show { b with ss := setL _ _ _ false (D ++ R) } = _
    rw [new2 false hs rfl rfl]
    rfl
  · have hk0 : key 0 x = key 0 y := hk.2.1
    have hk1 : key 1 x = key 1 y := hk.2.2
    show setChT _ ⟨2, key 0 x, key 1 x, _, [key 2 y]⟩ = _
    unfold setChT
    dsimp only
    rw [if_neg (by decide), if_pos rfl, if_neg (by intro h; exact hy.2 h.2)]
    show setStakeT (setStakeT _ [key 0 x, key 1 x, 0]) [key 0 x, key 1 x, key 2 y] = _
    rw [hk0, hk1, ← val3 hy.1]
    unfold setStakeT
    dsimp only
    rw [show (key 2 [key 0 y, key 1 y, 0] == 0) = true from rfl, show (key 2 y == 0) = false by simpa using hy.2, old2 (x := [key 0 y, key 1 y, 0]) (y := x) true hs hk0.symm hk1.symm]
    show { b with ss := setL _ _ _ false (D ++ xs) } = _
    rw [new2 false hs hk0.symm hk1.symm]
    rfl
end Go.Proofs.YtellifcjamedkaaGreat
namespace Go.Proofs.YtellifcjamedkaaGreat
open Go.RowKit Base Base2
/-- What a book that may be has. -/
structure MayB (b : BookT) : Prop where
  hs : Sorted lt1 b.hs
  ss : Sorted lt2 b.ss
  os : Sorted lt1 b.os
  rs : Sorted lt1 b.rs
  lh : ∀ x ∈ b.hs, x.length = 4
  ls : ∀ x ∈ b.ss, x.length = 3 ∧ key 2 x ≠ 0
  lo : ∀ x ∈ b.os, x.length = 6 ∧ key 4 x ≠ 0
  sd : ∀ x ∈ b.os, key 3 x = 0 ∨ key 3 x = 1
  lr : ∀ x ∈ b.rs, x.length = 2
  co : 0 ≤ b.co
theorem mayB {m : Nat} {b : BookT} (h : mayT b = true) (hk : BookOk m b) : MayB b := by
  unfold mayT riseT sizesT at h
  simp only [Bool.and_eq_true, decide_eq_true_eq] at h
  obtain ⟨⟨⟨⟨⟨⟨⟨⟨r1, r2⟩, r3⟩, r4⟩, ⟨⟨⟨_, _⟩, _⟩, z4⟩, _⟩, a1⟩, a2⟩, a3⟩, a4⟩ := h
  refine ⟨rise_sorted ord1.tr r1, rise_sorted ord2.tr r4, rise_sorted ord1.tr r2, rise_sorted ord1.tr r3, fun x hx => (hk.hs.2 x hx).1, fun x hx => ⟨(hk.ss.2 x hx).1, ?_⟩, fun x hx => ⟨(hk.os.2 x hx).1, ?_⟩, fun x hx => ?_, fun x hx => (hk.rs.2 x hx).1, z4⟩
  · have h := List.all_eq_true.1 a3 x hx
    unfold stakeT at h
    simp only [Bool.and_eq_true, bne_iff_ne] at h
    exact h.1
  · have h := List.all_eq_true.1 a4 x hx
    unfold openT at h
    simp only [Bool.and_eq_true, decide_eq_true_eq] at h
    omega
  · have h := List.all_eq_true.1 a4 x hx
    unfold openT at h
    simp only [Bool.and_eq_true, decide_eq_true_eq, Bool.or_eq_true, beq_iff_eq] at h
    exact h.1.2
theorem merge_cnt (x y : Int) : mergeD [rwC x] [rwC y] = if x = y then [] else [chgC (rwC x) (rwC y)] := by
  have h1 : ltR (rwC x) (rwC y) = false := rfl
  have h2 : ltR (rwC y) (rwC x) = false := rfl
  rw [merge_cc, h1, h2]
  simp only [Bool.false_eq_true, if_false]
  by_cases h : x = y
  · rw [if_pos (by show [x] = [y]; rw [h]), if_pos h, mergeD]
  · rw [if_neg (by show ¬ [x] = [y]; simpa using h), if_neg h, mergeD]
theorem diff_parts (a b : BookT) : diffT a b = mergeD (a.hs.map rwH) (b.hs.map rwH) ++ (mergeD (a.ss.map rwS) (b.ss.map rwS) ++ (mergeD (a.os.map rwO) (b.os.map rwO) ++ (mergeD (a.rs.map rwR) (b.rs.map rwR) ++ mergeD [rwC a.co] [rwC b.co]))) := by
  have hl : ∀ {f : Item → RowT} {n : Int} {l : List Item}, (∀ x, (f x).l = n) → ∀ r ∈ l.map f, r.l = n := fun h r hr => by obtain ⟨x, _, rfl⟩ := List.mem_map.1 hr; exact h x
  have mm : ∀ {P : RowT → Prop} {A B : List RowT}, (∀ r ∈ A, P r) → (∀ r ∈ B, P r) → ∀ r ∈ A ++ B, P r := fun h1 h2 r hr => (List.mem_append.1 hr).elim (h1 r) (h2 r)
  have c5 : ∀ {n m : Int}, m ≤ 5 → ∀ r ∈ [rwC n], m ≤ r.l := fun h r hr => by obtain rfl := List.mem_singleton.1 hr; exact h
  have e1 : ∀ l : List Item, ∀ r ∈ l.map rwH, r.l = 1 := fun l => hl (fun _ => rfl)
  have e2 : ∀ l : List Item, ∀ r ∈ l.map rwS, r.l = 2 := fun l => hl (fun _ => rfl)
  have e3 : ∀ l : List Item, ∀ r ∈ l.map rwO, r.l = 3 := fun l => hl (fun _ => rfl)
  have e4 : ∀ l : List Item, ∀ r ∈ l.map rwR, r.l = 4 := fun l => hl (fun _ => rfl)
  have t4 : ∀ b : BookT, ∀ r ∈ b.rs.map rwR ++ [rwC b.co], 4 ≤ r.l := fun b => mm (fun r hr => by rw [e4 _ r hr]; decide) (c5 (by decide))
  have t3 : ∀ b : BookT, ∀ r ∈ b.os.map rwO ++ (b.rs.map rwR ++ [rwC b.co]), 3 ≤ r.l := fun b => mm (fun r hr => by rw [e3 _ r hr]; decide) (fun r hr => by have := t4 b r hr; omega)
  have t2 : ∀ b : BookT, ∀ r ∈ b.ss.map rwS ++ (b.os.map rwO ++ (b.rs.map rwR ++ [rwC b.co])), 2 ≤ r.l := fun b => mm (fun r hr => by rw [e2 _ r hr]; decide) (fun r hr => by have := t3 b r hr; omega)
  unfold diffT rowsD
  rw [merge_app _ _ _ _ 2 (fun r hr => by rw [e1 _ r hr]; decide) (fun r hr => by rw [e1 _ r hr]; decide) (t2 a) (t2 b),
    merge_app _ _ _ _ 3 (fun r hr => by rw [e2 _ r hr]; decide) (fun r hr => by rw [e2 _ r hr]; decide) (t3 a) (t3 b),
    merge_app _ _ _ _ 4 (fun r hr => by rw [e3 _ r hr]; decide) (fun r hr => by rw [e3 _ r hr]; decide) (t4 a) (t4 b),
    merge_app _ _ _ _ 5 (fun r hr => by rw [e4 _ r hr]; decide) (fun r hr => by rw [e4 _ r hr]; decide) (c5 (by decide)) (c5 (by decide))]
theorem map_rise {lt : Item → Item → Bool} {row : Item → RowT} (hord : ∀ x y, ltR (row x) (row y) = lt x y) {l : List Item} (h : Sorted lt l) : RiseR (l.map row) := by
  unfold RiseR
  rw [List.pairwise_map]
  exact h.imp (fun h => by rw [hord]; exact h)
theorem ordH (x y : Item) : ltR (rwH x) (rwH y) = lt1 x y := by
  unfold ltR rwH lt1
  dsimp only
  rw [Bool.eq_iff_iff, lessD_iff, decide_eq_true_eq]; omega
theorem ordO (x y : Item) : ltR (rwO x) (rwO y) = lt1 x y := by
  unfold ltR rwO lt1
  dsimp only
  rw [Bool.eq_iff_iff, lessD_iff, decide_eq_true_eq]; omega
theorem ordR (x y : Item) : ltR (rwR x) (rwR y) = lt1 x y := by
  unfold ltR rwR lt1
  dsimp only
  rw [Bool.eq_iff_iff, lessD_iff, decide_eq_true_eq]; omega
theorem ordS (x y : Item) : ltR (rwS x) (rwS y) = lt2 x y := by
  unfold ltR rwS
  dsimp only
  rw [Bool.eq_iff_iff, lessD_iff, lt2_iff]; omega
/-- A row of a book. -/
def allT (l : Int) : Nat := if l = 1 then 3 else if l = 3 then 5 else 1
structure RowOk (r : RowT) : Prop where
  l1 : 1 ≤ r.l
  l5 : r.l ≤ 5
  v : r.v.length = allT r.l
  sd : r.l = 3 → key 2 r.v = 0 ∨ key 2 r.v = 1
  b : r.l ≠ 2 → r.b = 0
  a : r.l = 5 → r.a = 0
theorem rows_book {b : BookT} (h : MayB b) : RiseR (rowsD b) ∧ (∀ r ∈ rowsD b, RowOk r) ∧ (∃ r ∈ rowsD b, r.l = 5) := by
  have mm : ∀ {P : RowT → Prop} {A B : List RowT}, (∀ r ∈ A, P r) → (∀ r ∈ B, P r) → ∀ r ∈ A ++ B, P r := fun h1 h2 r hr => (List.mem_append.1 hr).elim (h1 r) (h2 r)
  have p1 : ∀ r ∈ b.hs.map rwH, RowOk r ∧ r.l = 1 := fun r hr => by
    obtain ⟨x, _, rfl⟩ := List.mem_map.1 hr
    exact ⟨⟨(show (1 : Int) ≤ 1 by decide), (show (1 : Int) ≤ 5 by decide), rfl, fun h => absurd (show (1 : Int) = 3 from h) (by decide), fun _ => rfl, fun h => absurd (show (1 : Int) = 5 from h) (by decide)⟩, rfl⟩
  have p2 : ∀ r ∈ b.ss.map rwS, RowOk r ∧ r.l = 2 := fun r hr => by
    obtain ⟨x, _, rfl⟩ := List.mem_map.1 hr
    exact ⟨⟨(show (1 : Int) ≤ 2 by decide), (show (2 : Int) ≤ 5 by decide), rfl, fun h => absurd (show (2 : Int) = 3 from h) (by decide), fun h => absurd rfl h, fun h => absurd (show (2 : Int) = 5 from h) (by decide)⟩, rfl⟩
  have p3 : ∀ r ∈ b.os.map rwO, RowOk r ∧ r.l = 3 := fun r hr => by
    obtain ⟨x, hx, rfl⟩ := List.mem_map.1 hr
    exact ⟨⟨(show (1 : Int) ≤ 3 by decide), (show (3 : Int) ≤ 5 by decide), rfl, fun _ => h.sd x hx, fun _ => rfl, fun h => absurd (show (3 : Int) = 5 from h) (by decide)⟩, rfl⟩
  have p4 : ∀ r ∈ b.rs.map rwR, RowOk r ∧ r.l = 4 := fun r hr => by
    obtain ⟨x, _, rfl⟩ := List.mem_map.1 hr
    exact ⟨⟨(show (1 : Int) ≤ 4 by decide), (show (4 : Int) ≤ 5 by decide), rfl, fun h => absurd (show (4 : Int) = 3 from h) (by decide), fun _ => rfl, fun h => absurd (show (4 : Int) = 5 from h) (by decide)⟩, rfl⟩
  have p5 : ∀ r ∈ [rwC b.co], RowOk r ∧ r.l = 5 := fun r hr => by
    obtain rfl := List.mem_singleton.1 hr
    exact ⟨⟨(show (1 : Int) ≤ 5 by decide), (show (5 : Int) ≤ 5 by decide), rfl, fun h => absurd (show (5 : Int) = 3 from h) (by decide), fun _ => rfl, fun _ => rfl⟩, rfl⟩
  have app : ∀ {A B : List RowT} {n : Int}, RiseR A → RiseR B → (∀ r ∈ A, r.l = n) → (∀ r ∈ B, n < r.l) → RiseR (A ++ B) := fun h1 h2 h3 h4 => List.pairwise_append.2 ⟨h1, h2, fun x hx y hy => ltR_iff.2 (.inl (by rw [h3 x hx]; exact h4 y hy))⟩
  have r5 : RiseR [rwC b.co] := List.pairwise_singleton _ _
  have q4 : ∀ r ∈ b.rs.map rwR ++ [rwC b.co], 3 < r.l := mm (fun r hr => by rw [(p4 r hr).2]; decide) (fun r hr => by rw [(p5 r hr).2]; decide)
  have q3 : ∀ r ∈ b.os.map rwO ++ (b.rs.map rwR ++ [rwC b.co]), 2 < r.l := mm (fun r hr => by rw [(p3 r hr).2]; decide) (fun r hr => by have := q4 r hr; omega)
  have q2 : ∀ r ∈ b.ss.map rwS ++ (b.os.map rwO ++ (b.rs.map rwR ++ [rwC b.co])), 1 < r.l := mm (fun r hr => by rw [(p2 r hr).2]; decide) (fun r hr => by have := q3 r hr; omega)
  have r4 := app (map_rise ordR h.rs) r5 (fun r hr => (p4 r hr).2) (fun r hr => by rw [(p5 r hr).2]; decide)
  have r3 := app (map_rise ordO h.os) r4 (fun r hr => (p3 r hr).2) q4
  have r2 := app (map_rise ordS h.ss) r3 (fun r hr => (p2 r hr).2) q3
  refine ⟨app (map_rise ordH h.hs) r2 (fun r hr => (p1 r hr).2) q2, ?_, rwC b.co, ?_, rfl⟩
  · exact mm (fun r hr => (p1 r hr).1) (mm (fun r hr => (p2 r hr).1) (mm (fun r hr => (p3 r hr).1) (mm (fun r hr => (p4 r hr).1) (fun r hr => (p5 r hr).1))))
  · unfold rowsD; simp
/-- What a key has. -/
def isKey (c : ChT) (r : RowT) : Bool := (r.l == c.l) && (r.a == c.a) && (r.b == c.b)
def valueT (rows : List RowT) (c : ChT) : List Int := match rows.find? (isKey c) with | some r => r.v | none => []
theorem isKey_iff {c : ChT} {r : RowT} : isKey c r = true ↔ keyR c r := by
  unfold isKey keyR
  simp only [Bool.and_eq_true, beq_iff_eq]
  exact ⟨fun h => ⟨h.1.1.symm, h.1.2.symm, h.2.symm⟩, fun h => ⟨⟨h.1.symm, h.2.1.symm⟩, h.2.2.symm⟩⟩
theorem value_none {c : ChT} {rows : List RowT} (h : ∀ r ∈ rows, ¬ keyR c r) : valueT rows c = [] := by
  unfold valueT
  rw [List.find?_eq_none.2 (fun r hr => by rw [isKey_iff]; exact h r hr)]
/-- Changes that may be. -/
def valuesT (l : Int) (v : List Int) : Bool := if v = [] then l != 5 else (v.length == allT l) && (l != 3 || key 2 v == 0 || key 2 v == 1)
def mayOne (c : ChT) : Bool := decide (1 ≤ c.l) && decide (c.l ≤ 5) && valuesT c.l c.was && valuesT c.l c.now && (c.was != c.now) && (c.l == 2 || c.b == 0) && (c.l != 5 || c.a == 0)
def ltC (x y : ChT) : Bool := lessD x.l x.a x.b y.l y.a y.b
def riseC : List ChT → Bool
  | x :: y :: r => ltC x y && riseC (y :: r)
  | _ => true
def mayCh (l : List ChT) : Bool := l.all mayOne && riseC l
/-- A book, patched. -/
def patchGo (rows : List RowT) : BookT → List ChT → Option BookT
  | b, [] => some b
  | b, c :: cs => if valueT rows c = c.was then patchGo rows (setChT b c) cs else none
def zeroD : BookT := ⟨[], [], [], [], 0⟩
/-- The document's Patch, of a book and changes that may be; the program's, of any. -/
def refPatch (a : BookT) (l : List ChT) : BookT × Int := match patchGo (rowsD a) a l with | none => (zeroD, 7) | some b => if mayT b then (b, 0) else (zeroD, 1)
end Go.Proofs.YtellifcjamedkaaGreat
