/- Books as lists of things with numbers: what rises, what is found, what is set; plain. Where a key belongs in a list that rises; plain. What is set in lists that rise rises; plain. -/
import Derived.Test.YtellifcjamedkaaGreatProg
import Derived.Test.YtellifcjamedkaaGreatBase2
import Derived.Laws.AppendOwn
import Derived.Laws.OwnMore
import Derived.WalkLawsBesides
import Derived.Laws.StructEq
import Derived.BigQuiet
namespace Go.Proofs.YtellifcjamedkaaGreat
open Go.RowKit Base Base2
/-- A thing: its numbers. -/
abbrev Item := List Int
def key (j : Nat) (x : Item) : Int := x.getD j 0
structure BookT where
  hs : List Item
  ss : List Item
  os : List Item
  rs : List Item
  co : Int
def in6 (x : Int) : Prop := -9223372036854775808 ≤ x ∧ x ≤ 9223372036854775807
/-- So many numbers each, of 64 bits; not too many things. -/
def ItemsOk (k m : Nat) (l : List Item) : Prop := l.length ≤ m ∧ ∀ x ∈ l, x.length = k ∧ ∀ z ∈ x, in6 z
structure BookOk (m : Nat) (b : BookT) : Prop where
  hs : ItemsOk 4 m b.hs
  ss : ItemsOk 3 m b.ss
  os : ItemsOk 6 m b.os
  rs : ItemsOk 2 m b.rs
  co : in6 b.co
/-- By one number, by two. -/
def lt1 (x y : Item) : Bool := decide (key 0 x < key 0 y)
def lt2 (x y : Item) : Bool := decide (key 0 x < key 0 y) || (decide (key 0 x = key 0 y) && decide (key 1 x < key 1 y))
def riseL (lt : Item → Item → Bool) : List Item → Bool
  | x :: y :: r => lt x y && riseL lt (y :: r)
  | _ => true
theorem riseL_two (lt : Item → Item → Bool) (x y : Item) (r : List Item) : riseL lt (x :: y :: r) = (lt x y && riseL lt (y :: r)) := rfl
theorem riseL_snoc (lt : Item → Item → Bool) (x y : Item) : ∀ r : List Item, riseL lt (r ++ [x, y]) = (riseL lt (r ++ [x]) && lt x y)
  | [] => by simp [riseL]
  | [z] => by simp [riseL]
  | z :: v :: r => by
    have ih := riseL_snoc lt x y (v :: r)
    show (lt z v && riseL lt (v :: r ++ [x, y])) = ((lt z v && riseL lt (v :: r ++ [x])) && lt x y)
    rw [ih, Bool.and_assoc]
theorem riseL_app (lt : Item → Item → Bool) (s : List Item) : ∀ r : List Item, riseL lt (r ++ s) = true → riseL lt r = true
  | [], _ => rfl
  | [z], _ => rfl
  | z :: v :: r, h => by
    have h' : (lt z v && riseL lt (v :: r ++ s)) = true := h
    rw [Bool.and_eq_true] at h'
    show (lt z v && riseL lt (v :: r)) = true
    rw [h'.1, riseL_app lt s (v :: r) h'.2]; rfl
theorem take_two {l : List Item} {i : Nat} {x y : Item} (h0 : l[i]? = some x) (h1 : l[i + 1]? = some y) : l.take (i + 2) = l.take i ++ [x, y] := by
  rw [show i + 2 = (i + 1) + 1 by omega, List.take_add_one, List.take_add_one, h0, h1]
  simp [List.append_assoc]
theorem take_one {l : List Item} {i : Nat} {x : Item} (h0 : l[i]? = some x) : l.take (i + 1) = l.take i ++ [x] := by
  rw [List.take_add_one, h0]; rfl
/-- One round of a loop that asks whether things rise. -/
theorem rise_next {lt : Item → Item → Bool} {l : List Item} {i : Nat} {x y : Item} (h0 : l[i]? = some x) (h1 : l[i + 1]? = some y) (h : riseL lt (l.take (i + 1)) = true) : riseL lt (l.take (i + 2)) = lt x y := by
  rw [take_two h0 h1, riseL_snoc, ← take_one h0, h, Bool.true_and]
theorem rise_no {lt : Item → Item → Bool} {l : List Item} {i : Nat} (h : riseL lt (l.take i) = false) : riseL lt l = false := by
  cases hb : riseL lt l with
  | false => rfl
  | true => rw [← List.take_append_drop i l] at hb; rw [riseL_app lt _ _ hb] at h; cases h
def riseT (b : BookT) : Bool := riseL lt1 b.hs && riseL lt1 b.os && riseL lt1 b.rs && riseL lt2 b.ss
/-- What is found. -/
def is1 (a : Int) (x : Item) : Bool := key 0 x == a
def findL (p : Item → Bool) (l : List Item) : Option Item := l.find? p
theorem find_yes {p : Item → Bool} {l : List Item} {i : Nat} {x : Item} (hi : l[i]? = some x) (hp : p x = true) (h : ∀ y ∈ l.take i, p y = false) : findL p l = some x := by
  unfold findL
  have e : l = l.take i ++ x :: l.drop (i + 1) := by
    obtain ⟨hlt, he⟩ := List.getElem?_eq_some_iff.1 hi
    rw [← he, ← List.drop_eq_getElem_cons hlt, List.take_append_drop]
  rw [e, List.find?_append, List.find?_eq_none.2 (fun y hy => by rw [h y hy]; simp), List.find?_cons, hp]
  rfl
theorem find_no {p : Item → Bool} {l : List Item} (h : ∀ y ∈ l, p y = false) : findL p l = none := List.find?_eq_none.2 (fun y hy => by rw [h y hy]; simp)
theorem none_next {p : Item → Bool} {l : List Item} {i : Nat} {x : Item} (hi : l[i]? = some x) (hp : p x = false) (h : ∀ y ∈ l.take i, p y = false) : ∀ y ∈ l.take (i + 1), p y = false := by
  rw [take_one hi]
  intro y hy
  rcases List.mem_append.1 hy with hy | hy
  · exact h y hy
  · rw [List.mem_singleton.1 hy]; exact hp
/-- What all are. -/
theorem all_next {p : Item → Bool} {l : List Item} {i : Nat} {x : Item} (hi : l[i]? = some x) (hp : p x = true) (h : (l.take i).all p = true) : (l.take (i + 1)).all p = true := by
  rw [take_one hi, List.all_append, h]; simp [hp]
theorem all_no {p : Item → Bool} {l : List Item} {i : Nat} {x : Item} (hi : l[i]? = some x) (hp : p x = false) : l.all p = false := by
  rw [List.all_eq_false]; exact ⟨x, List.mem_of_getElem? hi, by rw [hp]; simp⟩
theorem all_full {p : Item → Bool} {l : List Item} (h : (l.take l.length).all p = true) : l.all p = true := by rwa [List.take_length] at h
def holdT (x : Item) : Bool := decide (0 ≤ key 2 x) && decide (0 ≤ key 3 x)
def rateT (x : Item) : Bool := decide (1 ≤ key 1 x)
def thereT (b : BookT) (a s : Int) : Bool := (findL (is1 a) b.hs).isSome && (findL (is1 s) b.rs).isSome
def stakeT (b : BookT) (x : Item) : Bool := (key 2 x != 0) && thereT b (key 0 x) (key 1 x)
def openT (b : BookT) (x : Item) : Bool := decide (1 ≤ key 4 x) && decide (1 ≤ key 5 x) && (key 3 x == 0 || key 3 x == 1) && thereT b (key 1 x) (key 2 x)
def sizesT (b : BookT) : Bool := decide (b.hs.length ≤ 32) && decide (b.os.length ≤ 64) && decide (b.rs.length ≤ 32) && decide (0 ≤ b.co) && decide (b.co ≤ 1099511627776)
def mayT (b : BookT) : Bool := riseT b && sizesT b && b.hs.all holdT && b.rs.all rateT && b.ss.all (stakeT b) && b.os.all (openT b)
def sameT (a b : BookT) : Bool := (a.hs == b.hs) && (a.ss == b.ss) && (a.os == b.os) && (a.rs == b.rs) && (a.co == b.co)
theorem sameT_refl (a : BookT) : sameT a a = true := by simp [sameT]
def greatT (b : BookT) : Bool := decide (40 < b.hs.length) || decide (70 < b.os.length) || decide (40 < b.rs.length) || decide (200 < b.ss.length)
/-- What is put in its place. -/
def setF (ge eq : Item → Bool) (x : Item) (st : List Item × Bool) (y : Item) : List Item × Bool := (st.1 ++ (if !st.2 && ge y then [x] else []) ++ (if eq y then [] else [y]), st.2 || ge y)
def setS (ge eq : Item → Bool) (x : Item) (done : Bool) (l : List Item) : List Item × Bool := l.foldl (setF ge eq x) ([], done)
def setL (ge eq : Item → Bool) (x : Item) (done : Bool) (l : List Item) : List Item := if (setS ge eq x done l).2 then (setS ge eq x done l).1 else (setS ge eq x done l).1 ++ [x]
theorem setS_next {ge eq : Item → Bool} {x : Item} {done : Bool} {l : List Item} {i : Nat} {y : Item} (hi : l[i]? = some y) : setS ge eq x done (l.take (i + 1)) = setF ge eq x (setS ge eq x done (l.take i)) y := by
  unfold setS; rw [take_one hi, List.foldl_append]; rfl
def ge1 (x y : Item) : Bool := decide (key 0 x ≤ key 0 y)
def ge2 (x y : Item) : Bool := decide (key 0 x < key 0 y) || (decide (key 0 x = key 0 y) && decide (key 1 x ≤ key 1 y))
def eq2 (x y : Item) : Bool := decide (key 0 y = key 0 x) && decide (key 1 y = key 1 x)
def eq1 (x y : Item) : Bool := decide (key 0 y = key 0 x)
def setHolderT (b : BookT) (x : Item) : BookT := { b with hs := setL (ge1 x) (eq1 x) x false b.hs }
def setRateT (b : BookT) (x : Item) : BookT := { b with rs := setL (ge1 x) (eq1 x) x false b.rs }
def setOpenT (b : BookT) (x : Item) : BookT := { b with os := setL (ge1 x) (eq1 x) x (key 4 x == 0) b.os }
def setStakeT (b : BookT) (x : Item) : BookT := { b with ss := setL (ge2 x) (eq2 x) x (key 2 x == 0) b.ss }
theorem setF_len (ge eq : Item → Bool) (x : Item) : ∀ (l : List Item) (st : List Item × Bool), (l.foldl (setF ge eq x) st).1.length + (if (l.foldl (setF ge eq x) st).2 then 0 else 1) ≤ st.1.length + l.length + (if st.2 then 0 else 1) ∧ ∀ y ∈ (l.foldl (setF ge eq x) st).1, y = x ∨ y ∈ st.1 ∨ y ∈ l
  | [], st => ⟨Nat.le_refl _, fun y hy => .inr (.inl hy)⟩
  | y :: l, (o, d) => by
    obtain ⟨i1, i2⟩ := setF_len ge eq x l (setF ge eq x (o, d) y)
    rw [List.foldl_cons]
    refine ⟨Nat.le_trans i1 ?_, fun z hz => ?_⟩
    · unfold setF
      dsimp only
      cases d <;> cases hg : ge y <;> cases hq : eq y <;> simp <;> omega
    · rcases i2 z hz with h | h | h
      · exact .inl h
      · unfold setF at h
        dsimp only at h
        rw [List.mem_append, List.mem_append] at h
        rcases h with (h | h) | h
        · exact .inr (.inl h)
        · split at h
          · exact .inl (List.mem_singleton.1 h)
          · cases h
        · split at h
          · cases h
          · exact .inr (.inr (by rw [List.mem_singleton.1 h]; simp))
      · exact .inr (.inr (List.mem_cons_of_mem _ h))
theorem setS_len (ge eq : Item → Bool) (x : Item) (done : Bool) (l : List Item) : (setS ge eq x done l).1.length + (if (setS ge eq x done l).2 then 0 else 1) ≤ l.length + 1 ∧ ∀ y ∈ (setS ge eq x done l).1, y = x ∨ y ∈ l := by
  obtain ⟨h1, h2⟩ := setF_len ge eq x l ([], done)
  refine ⟨Nat.le_trans h1 ?_, fun y hy => ?_⟩
  · cases done <;> simp
  · rcases h2 y hy with h | h | h
    · exact .inl h
    · cases h
    · exact .inr h
theorem setL_len (ge eq : Item → Bool) (x : Item) (done : Bool) (l : List Item) : (setL ge eq x done l).length ≤ l.length + 1 ∧ ∀ y ∈ setL ge eq x done l, y = x ∨ y ∈ l := by
  have h := setS_len ge eq x done l
  unfold setL
  cases hd : (setS ge eq x done l).2
  · rw [hd] at h
    refine ⟨by simpa using h.1, fun y hy => ?_⟩
    simp at hy
    rcases hy with hy | hy
    · exact h.2 y hy
    · exact .inl hy
  · rw [hd] at h
    exact ⟨by simpa using h.1, fun y hy => h.2 y (by simpa using hy)⟩
theorem setL_ok {k m : Nat} {ge eq : Item → Bool} {x : Item} {done : Bool} {l : List Item} (h : ItemsOk k m l) (hx : x.length = k ∧ ∀ z ∈ x, in6 z) : ItemsOk k (m + 1) (setL ge eq x done l) := by
  have h2 := setL_len ge eq x done l
  refine ⟨Nat.le_trans h2.1 (by have := h.1; omega), fun y hy => ?_⟩
  rcases h2.2 y hy with rfl | hy
  · exact hx
  · exact h.2 y hy
end Go.Proofs.YtellifcjamedkaaGreat
namespace Go.Proofs.YtellifcjamedkaaGreat
open Go.RowKit Base Base2
/-- How two numbers stand. -/
def cmpI (a b : Int) : Int := if a < b then -1 else if b < a then 1 else 0
theorem cmpI_neg {a b : Int} : cmpI a b < 0 ↔ a < b := by unfold cmpI; split <;> (try split) <;> omega
theorem cmpI_nonneg {a b : Int} : 0 ≤ cmpI a b ↔ b ≤ a := by unfold cmpI; split <;> (try split) <;> omega
theorem cmpI_pos {a b : Int} : 0 < cmpI a b ↔ b < a := by unfold cmpI; split <;> (try split) <;> omega
theorem cmpI_zero {a b : Int} : cmpI a b = 0 ↔ a = b := by unfold cmpI; split <;> (try split) <;> omega
/-- By one number, by two. -/
def c1 (id : Int) (x : Item) : Int := cmpI (key 0 x) id
def c2 (id s : Int) (x : Item) : Int := if cmpI (key 0 x) id = 0 then cmpI (key 1 x) s else cmpI (key 0 x) id
theorem c2_neg {id s : Int} {x : Item} : c2 id s x < 0 ↔ key 0 x < id ∨ (key 0 x = id ∧ key 1 x < s) := by
  have h1 := @cmpI_neg (key 0 x) id
  have h2 := @cmpI_zero (key 0 x) id
  have h3 := @cmpI_neg (key 1 x) s
  unfold c2
  split <;> omega
theorem c2_zero {id s : Int} {x : Item} : c2 id s x = 0 ↔ key 0 x = id ∧ key 1 x = s := by
  have h2 := @cmpI_zero (key 0 x) id
  have h3 := @cmpI_zero (key 1 x) s
  unfold c2
  split <;> omega
def MonoC (lt : Item → Item → Bool) (c : Item → Int) : Prop := ∀ x y, lt x y = true → 0 ≤ c x → 0 < c y
theorem mono1 (id : Int) : MonoC lt1 (c1 id) := by
  intro x y h h0
  simp only [lt1, decide_eq_true_eq] at h
  unfold c1 at *
  rw [cmpI_nonneg] at h0
  rw [cmpI_pos]
  omega
theorem mono2 (id s : Int) : MonoC lt2 (c2 id s) := by
  intro x y h h0
  simp only [lt2, Bool.or_eq_true, Bool.and_eq_true, decide_eq_true_eq] at h
  have h1 := @c2_neg id s x
  have h2 := @c2_neg id s y
  have h3 := @c2_zero id s y
  omega
/-- How many stand ahead of the place. -/
def posL (c : Item → Int) (l : List Item) : Nat := (l.takeWhile (fun x => decide (c x < 0))).length
theorem posL_le (c : Item → Int) (l : List Item) : posL c l ≤ l.length := List.Sublist.length_le (List.takeWhile_sublist _)
theorem posL_lt {c : Item → Int} {x : Item} {l : List Item} (h : c x < 0) : posL c (x :: l) = posL c l + 1 := by simp [posL, h]
theorem posL_ge {c : Item → Int} {x : Item} {l : List Item} (h : 0 ≤ c x) : posL c (x :: l) = 0 := by simp [posL, h]
theorem riseL_tail {lt : Item → Item → Bool} {x : Item} {l : List Item} (h : riseL lt (x :: l) = true) : riseL lt l = true := by
  cases l with
  | nil => rfl
  | cons y r => rw [riseL_two, Bool.and_eq_true] at h; exact h.2
theorem later {lt : Item → Item → Bool} {c : Item → Int} (hm : MonoC lt c) : ∀ {l : List Item} {x : Item}, riseL lt (x :: l) = true → 0 ≤ c x → ∀ y ∈ l, 0 < c y
  | [], _, _, _, _, hy => by cases hy
  | z :: r, x, h, h0, y, hy => by
    rw [riseL_two, Bool.and_eq_true] at h
    have hz := hm x z h.1 h0
    rcases List.mem_cons.1 hy with rfl | hy
    · exact hz
    · exact later hm h.2 (by omega) y hy
theorem pos_iff {lt : Item → Item → Bool} {c : Item → Int} (hm : MonoC lt c) : ∀ {l : List Item}, riseL lt l = true → ∀ {i : Nat} {x : Item}, l[i]? = some x → (c x < 0 ↔ i < posL c l)
  | [], _, i, x, h => by simp at h
  | y :: l, hr, i, x, h => by
    by_cases hc : c y < 0
    · rw [posL_lt hc]
      cases i with
      | zero => simp at h; subst h; omega
      | succ i => have := pos_iff hm (riseL_tail hr) (i := i) (x := x) (by simpa using h); omega
    · rw [posL_ge (by omega)]
      cases i with
      | zero => simp at h; subst h; omega
      | succ i => have := later hm hr (by omega) x (List.mem_of_getElem? (i := i) (by simpa using h)); omega
def foundL (c : Item → Int) (l : List Item) : Bool := match l[posL c l]? with | some x => c x == 0 | none => false
theorem foundL_some {c : Item → Int} {l : List Item} {x : Item} (h : l[posL c l]? = some x) : foundL c l = (c x == 0) := by unfold foundL; rw [h]
theorem foundL_none {c : Item → Int} {l : List Item} (h : l[posL c l]? = none) : foundL c l = false := by unfold foundL; rw [h]
theorem foundL_lt {c : Item → Int} {l : List Item} (h : foundL c l = true) : posL c l < l.length := by
  cases hx : l[posL c l]? with
  | none => rw [foundL_none hx] at h; cases h
  | some x => exact (List.getElem?_eq_some_iff.1 hx).1
theorem find_pos {lt : Item → Item → Bool} {c : Item → Int} {p : Item → Bool} (hm : MonoC lt c) (hp : ∀ x, p x = (c x == 0)) : ∀ {l : List Item}, riseL lt l = true → findL p l = if foundL c l then l[posL c l]? else none
  | [], _ => rfl
  | y :: l, hr => by
    by_cases hc : c y < 0
    · have ih := find_pos hm hp (riseL_tail hr)
      have e : foundL c (y :: l) = foundL c l := by unfold foundL; rw [posL_lt hc, List.getElem?_cons_succ]
      have e2 : findL p (y :: l) = findL p l := by unfold findL; rw [List.find?_cons, hp, beq_eq_false_iff_ne.2 (by omega)]
      rw [e, e2, ih, posL_lt hc, List.getElem?_cons_succ]
    · have e0 : posL c (y :: l) = 0 := posL_ge (by omega)
      by_cases hz : c y = 0
      · have e : foundL c (y :: l) = true := by unfold foundL; rw [e0]; simp [hz]
        rw [e, e0, if_pos rfl]
        unfold findL
        rw [List.find?_cons, hp, beq_iff_eq.2 hz]; rfl
      · have e : foundL c (y :: l) = false := by unfold foundL; rw [e0]; simp [hz]
        rw [e, if_neg (by simp)]
        refine find_no (fun z hz2 => ?_)
        rw [hp]
        rcases List.mem_cons.1 hz2 with rfl | h
        · exact beq_eq_false_iff_ne.2 hz
        · have := later hm hr (by omega) z h; exact beq_eq_false_iff_ne.2 (by omega)
def finS (x : Item) (st : List Item × Bool) : List Item := if st.2 then st.1 else st.1 ++ [x]
/-- What stands behind the place: without the thing that is there. -/
def behindL (c : Item → Int) (l : List Item) : List Item := l.drop (if foundL c l then posL c l + 1 else posL c l)
theorem set_done {ge eq : Item → Bool} {x : Item} : ∀ (l o : List Item), (∀ y ∈ l, eq y = false) → l.foldl (setF ge eq x) (o, true) = (o ++ l, true)
  | [], o, _ => by simp
  | y :: l, o, h => by
    rw [List.foldl_cons]
    have e : setF ge eq x (o, true) y = (o ++ [y], true) := by unfold setF; simp [h y (List.mem_cons_self ..)]
    rw [e, set_done l _ (fun z hz => h z (List.mem_cons_of_mem _ hz))]
    simp
theorem set_pos {lt : Item → Item → Bool} {c : Item → Int} {ge eq : Item → Bool} {x : Item} (hm : MonoC lt c) (hg : ∀ y, ge y = decide (0 ≤ c y)) (he : ∀ y, eq y = (c y == 0)) : ∀ (l o : List Item) (d : Bool), riseL lt l = true →
    finS x (l.foldl (setF ge eq x) (o, d)) = o ++ (l.take (posL c l) ++ ((if d then [] else [x]) ++ behindL c l))
  | [], o, d, _ => by cases d <;> simp [finS, posL, behindL]
  | y :: l, o, d, hr => by
    rw [List.foldl_cons]
    by_cases hc : c y < 0
    · have g1 : ge y = false := by rw [hg, decide_eq_false_iff_not]; omega
      have g2 : eq y = false := by rw [he, beq_eq_false_iff_ne]; omega
      have e : setF ge eq x (o, d) y = (o ++ [y], d) := by unfold setF; simp [g1, g2]
      have ef : foundL c (y :: l) = foundL c l := by unfold foundL; rw [posL_lt hc, List.getElem?_cons_succ]
      have eb : behindL c (y :: l) = behindL c l := by unfold behindL; rw [ef, posL_lt hc]; cases foundL c l <;> simp
      rw [e, set_pos hm hg he l _ d (riseL_tail hr), posL_lt hc, eb]
      simp
    · have e0 : posL c (y :: l) = 0 := posL_ge (by omega)
      have g1 : ge y = true := by rw [hg, decide_eq_true_eq]; omega
      have e : setF ge eq x (o, d) y = (o ++ (if d then [] else [x]) ++ (if eq y then [] else [y]), true) := by unfold setF; cases d <;> simp [g1]
      have ef : foundL c (y :: l) = eq y := by unfold foundL; rw [e0, he]; rfl
      have eb : behindL c (y :: l) = (if eq y then [] else [y]) ++ l := by unfold behindL; rw [ef, e0]; cases eq y <;> simp
      rw [e, set_done _ _ (fun z hz => by have := later hm hr (by omega) z hz; rw [he, beq_eq_false_iff_ne]; omega), e0, eb]
      simp [finS]
theorem setL_pos {lt : Item → Item → Bool} {c : Item → Int} {ge eq : Item → Bool} {x : Item} (hm : MonoC lt c) (hg : ∀ y, ge y = decide (0 ≤ c y)) (he : ∀ y, eq y = (c y == 0)) (d : Bool) {l : List Item} (hr : riseL lt l = true) :
    setL ge eq x d l = l.take (posL c l) ++ ((if d then [] else [x]) ++ behindL c l) := by
  have h := set_pos (x := x) hm hg he l [] d hr
  rw [List.nil_append] at h
  rw [← h]
  rfl
theorem is1_c (id : Int) (x : Item) : is1 id x = (c1 id x == 0) := by
  have := @cmpI_zero (key 0 x) id
  unfold is1 c1
  rw [Bool.eq_iff_iff, beq_iff_eq, beq_iff_eq]; exact this.symm
theorem ge1_c (x y : Item) : ge1 x y = decide (0 ≤ c1 (key 0 x) y) := by
  have := @cmpI_nonneg (key 0 y) (key 0 x)
  unfold ge1 c1
  rw [Bool.eq_iff_iff, decide_eq_true_eq, decide_eq_true_eq]; exact this.symm
theorem eq1_c (x y : Item) : eq1 x y = (c1 (key 0 x) y == 0) := by
  have := @cmpI_zero (key 0 y) (key 0 x)
  unfold eq1 c1
  rw [Bool.eq_iff_iff, decide_eq_true_eq, beq_iff_eq]; exact this.symm
theorem ge2_c (x y : Item) : ge2 x y = decide (0 ≤ c2 (key 0 x) (key 1 x) y) := by
  have := @c2_neg (key 0 x) (key 1 x) y
  unfold ge2
  rw [Bool.eq_iff_iff, Bool.or_eq_true, Bool.and_eq_true, decide_eq_true_eq, decide_eq_true_eq, decide_eq_true_eq, decide_eq_true_eq]; omega
theorem eq2_c (x y : Item) : eq2 x y = (c2 (key 0 x) (key 1 x) y == 0) := by
  have := @c2_zero (key 0 x) (key 1 x) y
  unfold eq2
  rw [Bool.eq_iff_iff, Bool.and_eq_true, beq_iff_eq, decide_eq_true_eq, decide_eq_true_eq]; exact this.symm
end Go.Proofs.YtellifcjamedkaaGreat
namespace Go.Proofs.YtellifcjamedkaaGreat
/-- An order: what the sets lean on. -/
structure Ord3 (lt ge eq : Item → Item → Bool) : Prop where
  -- 'ge x y': y is at or behind x; 'eq x y': y has x's keys
  behind : ∀ x y, ge x y = true → eq x y = false → lt x y = true
  ahead : ∀ x y, ge x y = false → lt y x = true
  eqge : ∀ x y, eq x y = true → ge x y = true
  eqlt : ∀ x y z, eq x y = true → lt y z = true → lt x z = true
  lteq : ∀ x y z, eq x y = true → lt z y = true → lt z x = true
  tr : ∀ x y z, lt x y = true → lt y z = true → lt x z = true
theorem ord1 : Ord3 lt1 ge1 eq1 where
  behind x y := by simp only [ge1, eq1, lt1, decide_eq_true_eq, decide_eq_false_iff_not]; omega
  ahead x y := by simp only [ge1, lt1, decide_eq_true_eq, decide_eq_false_iff_not]; omega
  eqge x y := by simp only [ge1, eq1, decide_eq_true_eq]; omega
  eqlt x y z := by simp only [lt1, eq1, decide_eq_true_eq]; omega
  lteq x y z := by simp only [lt1, eq1, decide_eq_true_eq]; omega
  tr x y z := by simp only [lt1, decide_eq_true_eq]; omega
theorem ord2 : Ord3 lt2 ge2 eq2 where
  behind x y := by simp only [ge2, eq2, lt2, Bool.or_eq_true, Bool.and_eq_true, Bool.and_eq_false_iff, decide_eq_true_eq, decide_eq_false_iff_not]; omega
  ahead x y := by simp only [ge2, lt2, Bool.or_eq_true, Bool.and_eq_true, Bool.or_eq_false_iff, Bool.and_eq_false_iff, decide_eq_true_eq, decide_eq_false_iff_not]; omega
  eqge x y := by simp only [ge2, eq2, Bool.or_eq_true, Bool.and_eq_true, decide_eq_true_eq]; omega
  eqlt x y z := by simp only [lt2, eq2, Bool.or_eq_true, Bool.and_eq_true, decide_eq_true_eq]; omega
  lteq x y z := by simp only [lt2, eq2, Bool.or_eq_true, Bool.and_eq_true, decide_eq_true_eq]; omega
  tr x y z := by simp only [lt2, Bool.or_eq_true, Bool.and_eq_true, decide_eq_true_eq]; omega
end Go.Proofs.YtellifcjamedkaaGreat
