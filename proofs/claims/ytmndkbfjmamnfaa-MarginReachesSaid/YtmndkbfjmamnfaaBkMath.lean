/- Books as lists of things with numbers: what rises, what is found, what is set; plain. -/
import Derived.Test.YtmndkbfjmamnfaaProg
import Derived.Test.YtmndkbfjmamnfaaBase2
import Derived.Laws.AppendOwn
import Derived.Laws.OwnMore
import Derived.WalkLawsBesides
import Derived.Laws.StructEq
import Derived.BigQuiet
namespace Go.Proofs.Ytmndkbfjmamnfaa
open Go.RowKit Base Base2

/-- A thing: its numbers. -/
abbrev Item := List Int
def key (j : Nat) (x : Item) : Int := x.getD j 0
structure BookT where
  hs : List Item
  ss : List Item
  os : List Item
  rs : List Item
  co : Int
def in6 (x : Int) : Prop := -9223372036854775808 ≤ x ∧ x ≤ 9223372036854775807
/-- So many numbers each, of 64 bits; not too many things. -/
def ItemsOk (k m : Nat) (l : List Item) : Prop := l.length ≤ m ∧ ∀ x ∈ l, x.length = k ∧ ∀ z ∈ x, in6 z
structure BookOk (m : Nat) (b : BookT) : Prop where
  hs : ItemsOk 4 m b.hs
  ss : ItemsOk 3 m b.ss
  os : ItemsOk 6 m b.os
  rs : ItemsOk 2 m b.rs
  co : in6 b.co
/-- By one number, by two. -/
def lt1 (x y : Item) : Bool := decide (key 0 x < key 0 y)
def lt2 (x y : Item) : Bool := decide (key 0 x < key 0 y) || (decide (key 0 x = key 0 y) && decide (key 1 x < key 1 y))
def riseL (lt : Item → Item → Bool) : List Item → Bool
  | x :: y :: r => lt x y && riseL lt (y :: r)
  | _ => true
theorem riseL_two (lt : Item → Item → Bool) (x y : Item) (r : List Item) : riseL lt (x :: y :: r) = (lt x y && riseL lt (y :: r)) := rfl
theorem riseL_snoc (lt : Item → Item → Bool) (x y : Item) : ∀ r : List Item, riseL lt (r ++ [x, y]) = (riseL lt (r ++ [x]) && lt x y)
  | [] => by simp [riseL]
  | [z] => by simp [riseL]
  | z :: v :: r => by
    have ih := riseL_snoc lt x y (v :: r)
    show (lt z v && riseL lt (v :: r ++ [x, y])) = ((lt z v && riseL lt (v :: r ++ [x])) && lt x y)
    rw [ih, Bool.and_assoc]
theorem riseL_app (lt : Item → Item → Bool) (s : List Item) : ∀ r : List Item, riseL lt (r ++ s) = true → riseL lt r = true
  | [], _ => rfl
  | [z], _ => rfl
  | z :: v :: r, h => by
    have h' : (lt z v && riseL lt (v :: r ++ s)) = true := h
    rw [Bool.and_eq_true] at h'
    show (lt z v && riseL lt (v :: r)) = true
    rw [h'.1, riseL_app lt s (v :: r) h'.2]; rfl
theorem take_two {l : List Item} {i : Nat} {x y : Item} (h0 : l[i]? = some x) (h1 : l[i + 1]? = some y) : l.take (i + 2) = l.take i ++ [x, y] := by
  rw [show i + 2 = (i + 1) + 1 by omega, List.take_add_one, List.take_add_one, h0, h1]
  simp [List.append_assoc]
theorem take_one {l : List Item} {i : Nat} {x : Item} (h0 : l[i]? = some x) : l.take (i + 1) = l.take i ++ [x] := by
  rw [List.take_add_one, h0]; rfl
/-- One round of a loop that asks whether things rise. -/
theorem rise_next {lt : Item → Item → Bool} {l : List Item} {i : Nat} {x y : Item} (h0 : l[i]? = some x) (h1 : l[i + 1]? = some y) (h : riseL lt (l.take (i + 1)) = true) : riseL lt (l.take (i + 2)) = lt x y := by
  rw [take_two h0 h1, riseL_snoc, ← take_one h0, h, Bool.true_and]
theorem rise_no {lt : Item → Item → Bool} {l : List Item} {i : Nat} (h : riseL lt (l.take i) = false) : riseL lt l = false := by
  cases hb : riseL lt l with
  | false => rfl
  | true => rw [← List.take_append_drop i l] at hb; rw [riseL_app lt _ _ hb] at h; cases h
def riseT (b : BookT) : Bool := riseL lt1 b.hs && riseL lt1 b.os && riseL lt1 b.rs && riseL lt2 b.ss
/-- What is found. -/
def is1 (a : Int) (x : Item) : Bool := key 0 x == a
def is2 (a s : Int) (x : Item) : Bool := key 0 x == a && key 1 x == s
def findL (p : Item → Bool) (l : List Item) : Option Item := l.find? p
theorem find_yes {p : Item → Bool} {l : List Item} {i : Nat} {x : Item} (hi : l[i]? = some x) (hp : p x = true) (h : ∀ y ∈ l.take i, p y = false) : findL p l = some x := by
  unfold findL
  have e : l = l.take i ++ x :: l.drop (i + 1) := by
    obtain ⟨hlt, he⟩ := List.getElem?_eq_some_iff.1 hi
    rw [← he, ← List.drop_eq_getElem_cons hlt, List.take_append_drop]
  rw [e, List.find?_append, List.find?_eq_none.2 (fun y hy => by rw [h y hy]; simp), List.find?_cons, hp]
  rfl
theorem find_no {p : Item → Bool} {l : List Item} (h : ∀ y ∈ l, p y = false) : findL p l = none := List.find?_eq_none.2 (fun y hy => by rw [h y hy]; simp)
theorem none_next {p : Item → Bool} {l : List Item} {i : Nat} {x : Item} (hi : l[i]? = some x) (hp : p x = false) (h : ∀ y ∈ l.take i, p y = false) : ∀ y ∈ l.take (i + 1), p y = false := by
  rw [take_one hi]
  intro y hy
  rcases List.mem_append.1 hy with hy | hy
  · exact h y hy
  · rw [List.mem_singleton.1 hy]; exact hp
/-- What all are. -/
theorem all_next {p : Item → Bool} {l : List Item} {i : Nat} {x : Item} (hi : l[i]? = some x) (hp : p x = true) (h : (l.take i).all p = true) : (l.take (i + 1)).all p = true := by
  rw [take_one hi, List.all_append, h]; simp [hp]
theorem all_no {p : Item → Bool} {l : List Item} {i : Nat} {x : Item} (hi : l[i]? = some x) (hp : p x = false) : l.all p = false := by
  rw [List.all_eq_false]; exact ⟨x, List.mem_of_getElem? hi, by rw [hp]; simp⟩
theorem all_full {p : Item → Bool} {l : List Item} (h : (l.take l.length).all p = true) : l.all p = true := by rwa [List.take_length] at h
def holdT (x : Item) : Bool := decide (0 ≤ key 2 x) && decide (0 ≤ key 3 x)
def rateT (x : Item) : Bool := decide (1 ≤ key 1 x)
def thereT (b : BookT) (a s : Int) : Bool := (findL (is1 a) b.hs).isSome && (findL (is1 s) b.rs).isSome
def stakeT (b : BookT) (x : Item) : Bool := (key 2 x != 0) && thereT b (key 0 x) (key 1 x)
def openT (b : BookT) (x : Item) : Bool := decide (1 ≤ key 4 x) && decide (1 ≤ key 5 x) && (key 3 x == 0 || key 3 x == 1) && thereT b (key 1 x) (key 2 x)
def sizesT (b : BookT) : Bool := decide (b.hs.length ≤ 32) && decide (b.os.length ≤ 64) && decide (b.rs.length ≤ 32) && decide (0 ≤ b.co) && decide (b.co ≤ 1099511627776)
def mayT (b : BookT) : Bool := riseT b && sizesT b && b.hs.all holdT && b.rs.all rateT && b.ss.all (stakeT b) && b.os.all (openT b)
def sameT (a b : BookT) : Bool := (a.hs == b.hs) && (a.ss == b.ss) && (a.os == b.os) && (a.rs == b.rs) && (a.co == b.co)
theorem sameT_refl (a : BookT) : sameT a a = true := by simp [sameT]
def greatT (b : BookT) : Bool := decide (40 < b.hs.length) || decide (70 < b.os.length) || decide (40 < b.rs.length) || decide (200 < b.ss.length)
/-- What is put in its place. -/
def setF (ge eq : Item → Bool) (x : Item) (st : List Item × Bool) (y : Item) : List Item × Bool := (st.1 ++ (if !st.2 && ge y then [x] else []) ++ (if eq y then [] else [y]), st.2 || ge y)
def setS (ge eq : Item → Bool) (x : Item) (done : Bool) (l : List Item) : List Item × Bool := l.foldl (setF ge eq x) ([], done)
def setL (ge eq : Item → Bool) (x : Item) (done : Bool) (l : List Item) : List Item := if (setS ge eq x done l).2 then (setS ge eq x done l).1 else (setS ge eq x done l).1 ++ [x]
theorem setS_next {ge eq : Item → Bool} {x : Item} {done : Bool} {l : List Item} {i : Nat} {y : Item} (hi : l[i]? = some y) : setS ge eq x done (l.take (i + 1)) = setF ge eq x (setS ge eq x done (l.take i)) y := by
  unfold setS; rw [take_one hi, List.foldl_append]; rfl
def ge1 (x y : Item) : Bool := decide (key 0 x ≤ key 0 y)
def ge2 (x y : Item) : Bool := decide (key 0 x < key 0 y) || (decide (key 0 x = key 0 y) && decide (key 1 x ≤ key 1 y))
def eq2 (x y : Item) : Bool := decide (key 0 y = key 0 x) && decide (key 1 y = key 1 x)
def eq1 (x y : Item) : Bool := decide (key 0 y = key 0 x)
def setHolderT (b : BookT) (x : Item) : BookT := { b with hs := setL (ge1 x) (eq1 x) x false b.hs }
def setRateT (b : BookT) (x : Item) : BookT := { b with rs := setL (ge1 x) (eq1 x) x false b.rs }
def setOpenT (b : BookT) (x : Item) : BookT := { b with os := setL (ge1 x) (eq1 x) x (key 4 x == 0) b.os }
def setStakeT (b : BookT) (x : Item) : BookT := { b with ss := setL (ge2 x) (eq2 x) x (key 2 x == 0) b.ss }
theorem setF_len (ge eq : Item → Bool) (x : Item) : ∀ (l : List Item) (st : List Item × Bool), (l.foldl (setF ge eq x) st).1.length + (if (l.foldl (setF ge eq x) st).2 then 0 else 1) ≤ st.1.length + l.length + (if st.2 then 0 else 1) ∧ ∀ y ∈ (l.foldl (setF ge eq x) st).1, y = x ∨ y ∈ st.1 ∨ y ∈ l
  | [], st => ⟨Nat.le_refl _, fun y hy => .inr (.inl hy)⟩
  | y :: l, (o, d) => by
    obtain ⟨i1, i2⟩ := setF_len ge eq x l (setF ge eq x (o, d) y)
    rw [List.foldl_cons]
    refine ⟨Nat.le_trans i1 ?_, fun z hz => ?_⟩
    · unfold setF
      dsimp only
      cases d <;> cases hg : ge y <;> cases hq : eq y <;> simp <;> omega
    · rcases i2 z hz with h | h | h
      · exact .inl h
      · unfold setF at h
        dsimp only at h
        rw [List.mem_append, List.mem_append] at h
        rcases h with (h | h) | h
        · exact .inr (.inl h)
        · split at h
          · exact .inl (List.mem_singleton.1 h)
          · cases h
        · split at h
          · cases h
          · exact .inr (.inr (by rw [List.mem_singleton.1 h]; simp))
      · exact .inr (.inr (List.mem_cons_of_mem _ h))
theorem setS_len (ge eq : Item → Bool) (x : Item) (done : Bool) (l : List Item) : (setS ge eq x done l).1.length + (if (setS ge eq x done l).2 then 0 else 1) ≤ l.length + 1 ∧ ∀ y ∈ (setS ge eq x done l).1, y = x ∨ y ∈ l := by
  obtain ⟨h1, h2⟩ := setF_len ge eq x l ([], done)
  refine ⟨Nat.le_trans h1 ?_, fun y hy => ?_⟩
  · cases done <;> simp
  · rcases h2 y hy with h | h | h
    · exact .inl h
    · cases h
    · exact .inr h
theorem setL_len (ge eq : Item → Bool) (x : Item) (done : Bool) (l : List Item) : (setL ge eq x done l).length ≤ l.length + 1 ∧ ∀ y ∈ setL ge eq x done l, y = x ∨ y ∈ l := by
  have h := setS_len ge eq x done l
  unfold setL
  cases hd : (setS ge eq x done l).2
  · rw [hd] at h
    refine ⟨by simpa using h.1, fun y hy => ?_⟩
    simp at hy
    rcases hy with hy | hy
    · exact h.2 y hy
    · exact .inl hy
  · rw [hd] at h
    exact ⟨by simpa using h.1, fun y hy => h.2 y (by simpa using hy)⟩
theorem setL_ok {k m : Nat} {ge eq : Item → Bool} {x : Item} {done : Bool} {l : List Item} (h : ItemsOk k m l) (hx : x.length = k ∧ ∀ z ∈ x, in6 z) : ItemsOk k (m + 1) (setL ge eq x done l) := by
  have h2 := setL_len ge eq x done l
  refine ⟨Nat.le_trans h2.1 (by have := h.1; omega), fun y hy => ?_⟩
  rcases h2.2 y hy with rfl | hy
  · exact hx
  · exact h.2 y hy
end Go.Proofs.Ytmndkbfjmamnfaa
