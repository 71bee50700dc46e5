/- Two lists that rise, side by side by their keys; plain. What pairs of two lists side by side are; plain. What the program's patch lays, of the changes that the differ tells; plain. The program's patch; whether changes may be; plain. -/
import Derived.Test.YtellifcjamedkaaGreatMEa
namespace Go.Proofs.YtellifcjamedkaaGreat
open Go.RowKit Base Base2
abbrev K3 := Int × Int × Int
def cmp3 (k q : K3) : Int := cmpK k.1 k.2.1 k.2.2 q.1 q.2.1 q.2.2
def less3 (k q : K3) : Bool := lessD k.1 k.2.1 k.2.2 q.1 q.2.1 q.2.2
theorem cmp3_neg {k q : K3} : cmp3 k q < 0 ↔ less3 k q = true := cmpK_neg
theorem cmp3_zero {k q : K3} : cmp3 k q = 0 ↔ k = q := by
  unfold cmp3
  rw [cmpK_zero]
  obtain ⟨a, b, c⟩ := k
  obtain ⟨d, e, f⟩ := q
  simp only [Prod.mk.injEq]
theorem less3_iff {k q : K3} : less3 k q = true ↔ k.1 < q.1 ∨ (k.1 = q.1 ∧ (k.2.1 < q.2.1 ∨ (k.2.1 = q.2.1 ∧ k.2.2 < q.2.2))) := lessD_iff
theorem less3_trans {a b c : K3} (h : less3 a b = true) (k : less3 b c = true) : less3 a c = true := by rw [less3_iff] at *; omega
theorem less3_irr {a : K3} : less3 a a = false := by cases h : less3 a a with | false => rfl | true => rw [less3_iff] at h; omega
theorem less3_eq {a b : K3} (h : less3 a b = false) (k : less3 b a = false) : a = b := by
  have h1 : ¬ less3 a b = true := by simp [h]
  have h2 : ¬ less3 b a = true := by simp [k]
  rw [less3_iff] at h1 h2
  obtain ⟨a1, a2, a3⟩ := a
  obtain ⟨b1, b2, b3⟩ := b
  dsimp only at h1 h2
  have e1 : a1 = b1 := by omega
  have e2 : a2 = b2 := by omega
  have e3 : a3 = b3 := by omega
  rw [e1, e2, e3]
def RiseK (l : List K3) : Prop := l.Pairwise (fun x y => less3 x y = true)
/-- Where a key belongs. -/
def posK (q : K3) (l : List K3) : Nat := (l.takeWhile (fun k => less3 k q)).length
def foundK (q : K3) (l : List K3) : Bool := match l[posK q l]? with | some k => cmp3 k q == 0 | none => false
theorem posK_le (q : K3) (l : List K3) : posK q l ≤ l.length := List.Sublist.length_le (List.takeWhile_sublist _)
theorem posK_lt {q k : K3} {l : List K3} (h : less3 k q = true) : posK q (k :: l) = posK q l + 1 := by simp [posK, h]
theorem posK_ge {q k : K3} {l : List K3} (h : less3 k q = false) : posK q (k :: l) = 0 := by simp [posK, h]
theorem posK_iff {q : K3} : ∀ {l : List K3}, RiseK l → ∀ {i : Nat} {k : K3}, l[i]? = some k → (cmp3 k q < 0 ↔ i < posK q l)
  | [], _, i, k, h => by simp at h
  | x :: l, hr, i, k, h => by
    have hp := List.pairwise_cons.1 hr
    rw [cmp3_neg]
    cases hx : less3 x q with
    | true =>
      rw [posK_lt hx]
      cases i with
      | zero => simp at h; subst h; simp [hx]
      | succ i =>
        have := posK_iff (q := q) hp.2 (i := i) (k := k) (by simpa using h)
        rw [cmp3_neg] at this
        rw [this]; omega
    | false =>
      rw [posK_ge hx]
      refine ⟨fun hk => ?_, fun h => absurd h (Nat.not_lt_zero _)⟩
      cases i with
      | zero => simp at h; subst h; rw [hx] at hk; cases hk
      | succ i =>
        have hm : k ∈ l := List.mem_of_getElem? (by simpa using h)
        rw [less3_trans (hp.1 k hm) hk] at hx; cases hx
theorem foundK_some {q k : K3} {l : List K3} (h : l[posK q l]? = some k) : foundK q l = (cmp3 k q == 0) := by unfold foundK; rw [h]
theorem foundK_none {q : K3} {l : List K3} (h : l[posK q l]? = none) : foundK q l = false := by unfold foundK; rw [h]
theorem foundK_lt {q : K3} {l : List K3} (h : foundK q l = true) : posK q l < l.length := by
  unfold foundK at h
  cases hg : l[posK q l]? with
  | none => rw [hg] at h; cases h
  | some k => exact (List.getElem?_eq_some_iff.1 hg).1
theorem foundK_cons_lt {q k : K3} {l : List K3} (h : less3 k q = true) : foundK q (k :: l) = foundK q l := by
  unfold foundK
  rw [posK_lt h, List.getElem?_cons_succ]
theorem foundK_cons_ge {q k : K3} {l : List K3} (h : less3 k q = false) : foundK q (k :: l) = (cmp3 k q == 0) := foundK_some (by rw [posK_ge h]; rfl)
section
variable {A B : Type} (f : A → K3) (g : B → K3)
/-- What has a key in one, in the other or in both. -/
def besideS : List A → List B → List (Option A × Option B)
  | [], ys => ys.map fun y => (none, some y)
  | x :: xs, ys =>
    (ys.take (posK (f x) (ys.map g))).map (fun y => (none, some y)) ++
      (some x, if foundK (f x) (ys.map g) then ys[posK (f x) (ys.map g)]? else none) :: besideS xs (ys.drop (if foundK (f x) (ys.map g) then posK (f x) (ys.map g) + 1 else posK (f x) (ys.map g)))
theorem beside_nil (x : A) (xs : List A) : besideS f g (x :: xs) [] = (some x, none) :: besideS f g xs [] := by
  have e : foundK (f x) ([].map g) = false := foundK_none (by simp)
  rw [besideS, e]
  simp
theorem beside_ins (x : A) (xs : List A) (y : B) (ys : List B) (h : less3 (g y) (f x) = true) : besideS f g (x :: xs) (y :: ys) = (none, some y) :: besideS f g (x :: xs) ys := by
  have e : posK (f x) ((y :: ys).map g) = posK (f x) (ys.map g) + 1 := by rw [List.map_cons, posK_lt h]
  have e2 : foundK (f x) ((y :: ys).map g) = foundK (f x) (ys.map g) := by rw [List.map_cons, foundK_cons_lt h]
  rw [besideS, besideS, e, e2, List.take_succ_cons, List.map_cons, List.cons_append, List.getElem?_cons_succ]
  cases foundK (f x) (ys.map g) <;> simp
theorem beside_del (x : A) (xs : List A) (y : B) (ys : List B) (h : less3 (g y) (f x) = false) (h2 : less3 (f x) (g y) = true) : besideS f g (x :: xs) (y :: ys) = (some x, none) :: besideS f g xs (y :: ys) := by
  have e : posK (f x) ((y :: ys).map g) = 0 := by rw [List.map_cons, posK_ge h]
  have e2 : foundK (f x) ((y :: ys).map g) = false := by
    rw [List.map_cons, foundK_cons_ge h, beq_eq_false_iff_ne]
    intro hz
    rw [cmp3_zero] at hz
    rw [hz, less3_irr] at h2; cases h2
  rw [besideS, e, e2]
  simp
theorem beside_both (x : A) (xs : List A) (y : B) (ys : List B) (h : less3 (g y) (f x) = false) (h2 : less3 (f x) (g y) = false) : besideS f g (x :: xs) (y :: ys) = (some x, some y) :: besideS f g xs ys := by
  have e : posK (f x) ((y :: ys).map g) = 0 := by rw [List.map_cons, posK_ge h]
  have e2 : foundK (f x) ((y :: ys).map g) = true := by
    rw [List.map_cons, foundK_cons_ge h, beq_iff_eq, cmp3_zero]
    exact less3_eq h h2
  rw [besideS, e, e2]
  simp
theorem beside_len : ∀ (xs : List A) (ys : List B), (besideS f g xs ys).length ≤ xs.length + ys.length
  | [], ys => by simp [besideS]
  | x :: xs, [] => by rw [beside_nil]; have := beside_len xs ([] : List B); simp at this ⊢; omega
  | x :: xs, y :: ys => by
    cases h : less3 (g y) (f x) with
    | true => rw [beside_ins f g x xs y ys h]; have := beside_len (x :: xs) ys; simp at this ⊢; omega
    | false =>
      cases h2 : less3 (f x) (g y) with
      | true => rw [beside_del f g x xs y ys h h2]; have := beside_len xs (y :: ys); simp at this ⊢; omega
      | false => rw [beside_both f g x xs y ys h h2]; have := beside_len xs ys; simp at this ⊢; omega
  termination_by xs ys => xs.length + ys.length
end
def keyT (r : RowT) : K3 := (r.l, r.a, r.b)
def keyC (c : ChT) : K3 := (c.l, c.a, c.b)
/-- What a pair of rows comes to. -/
def chOf : Option RowT × Option RowT → List ChT
  | (some x, some y) => if x.v = y.v then [] else [chgC x y]
  | (some x, none) => [delC x]
  | (none, some y) => [insC y]
  | (none, none) => []
theorem beside_merge : ∀ (xs ys : List RowT), (besideS keyT keyT xs ys).flatMap chOf = mergeD xs ys
  | [], [] => by rw [mergeD]; rfl
  | [], y :: ys => by
    rw [merge_nc, ← beside_merge [] ys]
    simp [besideS, chOf]
  | x :: xs, [] => by
    rw [merge_cn, ← beside_merge xs [], beside_nil]
    simp [chOf]
  | x :: xs, y :: ys => by
    rw [merge_cc]
    cases h2 : ltR x y with
    | true =>
      have h : less3 (keyT y) (keyT x) = false := by
        cases h : less3 (keyT y) (keyT x) with
        | false => rfl
        | true => have := less3_trans h (show less3 (keyT x) (keyT y) = true from h2); rw [less3_irr] at this; cases this
      rw [beside_del keyT keyT x xs y ys h h2, if_pos rfl, ← beside_merge xs (y :: ys)]
      simp [chOf]
    | false =>
      rw [if_neg (by simp)]
      cases h : ltR y x with
      | true => rw [beside_ins keyT keyT x xs y ys h, if_pos rfl, ← beside_merge (x :: xs) ys]; simp [chOf]
      | false =>
        rw [beside_both keyT keyT x xs y ys h h2, if_neg (by simp)]
        by_cases hv : x.v = y.v
        · rw [if_pos hv, ← beside_merge xs ys]; simp [chOf, hv]
        · rw [if_neg hv, ← beside_merge xs ys]; simp [chOf, hv]
  termination_by xs ys => xs.length + ys.length
end Go.Proofs.YtellifcjamedkaaGreat
namespace Go.Proofs.YtellifcjamedkaaGreat
open Go.RowKit Base Base2
section
variable {A B : Type} (f : A → K3) (g : B → K3)
theorem beside_mem : ∀ (xs : List A) (ys : List B), ∀ p ∈ besideS f g xs ys, (∀ x, p.1 = some x → x ∈ xs) ∧ (∀ y, p.2 = some y → y ∈ ys) ∧ ¬ (p.1 = none ∧ p.2 = none)
  | [], ys, p, h => by
    rw [besideS] at h
    obtain ⟨y, hy, rfl⟩ := List.mem_map.1 h
    exact ⟨fun x h => (by cases h), fun z h => (by cases h; exact hy), fun h => (by cases h.2)⟩
  | x :: xs, ys, p, h => by
    rw [besideS] at h
    rcases List.mem_append.1 h with h | h
    · obtain ⟨y, hy, rfl⟩ := List.mem_map.1 h
      exact ⟨fun x h => (by cases h), fun z h => (by cases h; exact List.mem_of_mem_take hy), fun h => by cases h.2⟩
    · rcases List.mem_cons.1 h with rfl | h
      · refine ⟨fun z h => (by cases h; exact List.mem_cons_self ..), fun z h => ?_, fun h => by cases h.1⟩
        dsimp only at h
        split at h
        · exact List.mem_of_getElem? h
        · cases h
      · obtain ⟨h1, h2, h3⟩ := beside_mem xs _ p h
        exact ⟨fun z h => List.mem_cons_of_mem _ (h1 z h), fun z h => List.mem_of_mem_drop (h2 z h), h3⟩
theorem beside_pre {C : Type} {pl : C → Option A × Option B} {pre : List C} {z : C} {xs : List A} {ys : List B} (h : ∃ s, (pre ++ [z]).map pl ++ s = besideS f g xs ys) :
    pre.length + 1 ≤ xs.length + ys.length ∧ (∀ x, (pl z).1 = some x → x ∈ xs) ∧ (∀ y, (pl z).2 = some y → y ∈ ys) ∧ ¬ ((pl z).1 = none ∧ (pl z).2 = none) := by
  obtain ⟨s, e⟩ := h
  refine ⟨?_, beside_mem f g xs ys (pl z) (by rw [← e]; simp)⟩
  have h1 := beside_len f g xs ys
  rw [← e] at h1
  simp only [List.length_append, List.length_map, List.length_singleton] at h1
  omega
end
theorem allT_pos (l : Int) : 1 ≤ allT l := by unfold allT; split <;> (try split) <;> omega
theorem RowOk.ne {r : RowT} (h : RowOk r) : r.v ≠ [] := fun e => by have := h.v; have := allT_pos r.l; rw [e] at *; simp at *; omega
/-- A zero row. -/
def zeroRV : RowV := ⟨⟨0, 0, 0, []⟩, none, 0⟩
theorem chOf_first {x : RowV} {y : Option RowV} (h1 : RowOk x.r) (h2 : ∀ z, y = some z → RowOk z.r) :
    chOf (some x.r, y.map RowV.r) = if x.r.v = (y.getD zeroRV).r.v then [] else [⟨x.r.l, x.r.a, x.r.b, x.r.v, (y.getD zeroRV).r.v⟩] := by
  cases y with
  | none => rw [if_neg (by exact h1.ne)]; rfl
  | some y => rfl
theorem chOf_second {y : RowV} (h2 : RowOk y.r) : chOf (none, some y.r) = if zeroRV.r.v = y.r.v then [] else [⟨y.r.l, y.r.a, y.r.b, zeroRV.r.v, y.r.v⟩] := by
  rw [if_neg (fun e => h2.ne e.symm)]; rfl
theorem rows_ok {b : BookT} (h : MayB b) : ∀ r ∈ rowsD b, RowOk r := (rows_book h).2.1
theorem rise_keys {b : BookT} (h : MayB b) {o : List RowV} (ho : o.map RowV.r = rowsD b) : RiseK (o.map (fun x : RowV => keyT x.r)) := by
  have h1 := (rows_book h).1
  rw [← ho] at h1
  unfold RiseK
  rw [show o.map (fun x : RowV => keyT x.r) = (o.map RowV.r).map keyT by rw [List.map_map]; rfl]
  exact List.pairwise_map.2 h1
end Go.Proofs.YtellifcjamedkaaGreat
namespace Go.Proofs.YtellifcjamedkaaGreat
open Go.RowKit Base Base2
/-- What a pair of a row and a change lays. -/
def layOf : Option RowT × Option ChT → List RowT
  | (_, some c) => if c.now = [] then [] else [⟨c.l, c.a, c.b, c.now⟩]
  | (some r, none) => [r]
  | (none, none) => []
def wasOf : Option RowT → List Int
  | some r => r.v
  | none => []
/-- A row laid onto a book. -/
def layB (b : BookT) (r : RowT) : BookT :=
  if r.l = 1 then { b with hs := b.hs ++ [[r.a, key 0 r.v, key 1 r.v, key 2 r.v]] }
  else if r.l = 2 then { b with ss := b.ss ++ [[r.a, r.b, key 0 r.v]] }
  else if r.l = 3 then { b with os := b.os ++ [[r.a, key 0 r.v, key 1 r.v, key 2 r.v, key 3 r.v, key 4 r.v]] }
  else if r.l = 4 then { b with rs := b.rs ++ [[r.a, key 0 r.v]] }
  else { b with co := key 0 r.v }
end Go.Proofs.YtellifcjamedkaaGreat
namespace Go.Proofs.YtellifcjamedkaaGreat
open Go.RowKit Base Base2
def pairOkB (p : Option RowT × Option ChT) : Bool := match p.2 with | some c => wasOf p.1 == c.was | none => true
def layAll (ps : List (Option RowT × Option ChT)) : BookT := (ps.flatMap layOf).foldl layB zeroD
def sideP (a : BookT) (l : List ChT) : List (Option RowT × Option ChT) := besideS keyT keyC (rowsD a) l
def patchP (a : BookT) (l : List ChT) : BookT × Int :=
  if mayT a = false then (zeroD, 1) else if mayCh l = false then (zeroD, 3) else if (sideP a l).all pairOkB = false then (zeroD, 7) else if mayT (layAll (sideP a l)) = true then (layAll (sideP a l), 0) else (zeroD, 1)
/-- Whether changes may be, one behind the other. -/
theorem riseC_snoc (x y : ChT) : ∀ r : List ChT, riseC (r ++ [x, y]) = (riseC (r ++ [x]) && ltC x y)
  | [] => by simp [riseC]
  | [z] => by simp [riseC]
  | z :: v :: r => by
    have ih := riseC_snoc x y (v :: r)
    show (ltC z v && riseC (v :: r ++ [x, y])) = ((ltC z v && riseC (v :: r ++ [x])) && ltC x y)
    rw [ih, Bool.and_assoc]
theorem riseC_app (s : List ChT) : ∀ r : List ChT, riseC (r ++ s) = true → riseC r = true
  | [], _ => rfl
  | [z], _ => rfl
  | z :: v :: r, h => by
    have h' : (ltC z v && riseC (v :: r ++ s)) = true := h
    rw [Bool.and_eq_true] at h'
    show (ltC z v && riseC (v :: r)) = true
    rw [h'.1, riseC_app s (v :: r) h'.2]; rfl
theorem take_oneC {l : List ChT} {i : Nat} {x : ChT} (h0 : l[i]? = some x) : l.take (i + 1) = l.take i ++ [x] := by rw [List.take_add_one, h0]; rfl
theorem take_twoC {l : List ChT} {i : Nat} {x y : ChT} (h0 : l[i]? = some x) (h1 : l[i + 1]? = some y) : l.take (i + 2) = l.take i ++ [x, y] := by
  rw [show i + 2 = (i + 1) + 1 by omega, List.take_add_one, List.take_add_one, h0, h1]
  simp [List.append_assoc]
theorem may_first {l : List ChT} {c : ChT} (h : l[0]? = some c) : mayCh (l.take 1) = mayOne c := by
  rw [show (1 : Nat) = 0 + 1 from rfl, take_oneC h]
  simp [mayCh, riseC]
theorem may_next {l : List ChT} {i : Nat} {x y : ChT} (h0 : l[i]? = some x) (h1 : l[i + 1]? = some y) (h : mayCh (l.take (i + 1)) = true) : mayCh (l.take (i + 2)) = (ltC x y && mayOne y) := by
  unfold mayCh at h ⊢
  rw [Bool.and_eq_true, take_oneC h0] at h
  rw [take_twoC h0 h1, riseC_snoc, h.2, Bool.true_and]
  have h2 : (l.take i ++ [x, y]).all mayOne = mayOne y := by
    rw [show l.take i ++ [x, y] = (l.take i ++ [x]) ++ [y] by simp, List.all_append, h.1]
    simp
  rw [h2, Bool.and_comm]
theorem may_no {l : List ChT} {i : Nat} (h : mayCh (l.take i) = false) : mayCh l = false := by
  cases hb : mayCh l with
  | false => rfl
  | true =>
    unfold mayCh at h hb
    rw [← List.take_append_drop i l, Bool.and_eq_true, List.all_append, Bool.and_eq_true] at hb
    rw [hb.1.1, riseC_app _ _ hb.2] at h
    cases h
/-- By parts, as the program asks. -/
def keyMayT (l a b : Int) : Bool := if l = 2 then true else if l = 1 ∨ l = 3 ∨ l = 4 then b == 0 else (l == 5 && (a == 0 && b == 0))
theorem mayOne_parts (l a b : Int) (V U : List Int) : mayOne ⟨l, a, b, V, U⟩ = (keyMayT l a b && (valuesT l V && valuesT l U && (V != U))) := by
  unfold mayOne
  dsimp only
  generalize valuesT l V = p
  generalize valuesT l U = q
  generalize (V != U) = r
  unfold keyMayT
  by_cases h2 : l = 2
  · subst h2; cases p <;> cases q <;> cases r <;> rfl
  · rw [if_neg h2]
    by_cases h3 : l = 1 ∨ l = 3 ∨ l = 4
    · rw [if_pos h3]
      rcases h3 with rfl | rfl | rfl <;> cases p <;> cases q <;> cases r <;> simp
    · rw [if_neg h3]
      by_cases h5 : l = 5
      · subst h5; cases p <;> cases q <;> cases r <;> simp <;> (cases ha : (a == 0) <;> cases hb : (b == 0) <;> simp_all)
      · have e : (l == 5) = false := by simpa using h5
        have e2 : (decide (1 ≤ l) && decide (l ≤ 5)) = false := by
          rw [Bool.and_eq_false_iff, decide_eq_false_iff_not, decide_eq_false_iff_not]; omega
        rw [e, e2]; simp
end Go.Proofs.YtellifcjamedkaaGreat
