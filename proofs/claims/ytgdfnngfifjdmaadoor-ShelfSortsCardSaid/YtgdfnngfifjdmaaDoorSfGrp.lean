/- Numbers gathered by kinds: what a map of them has, when one more name comes; plain. -/
import Derived.Test.YtgdfnngfifjdmaaDoorSfSorts
import Derived.Maps.OwnRows
import Derived.Maps.GroupsBeside
import Derived.Maps.OwnSet
namespace Go.Proofs.YtgdfnngfifjdmaaDoor
open Go.RowKit Base Base2

theorem numsS_app (k : Int) (l : List ByteArray) (s : ByteArray) : numsS k (l ++ [s]) = numsS k l ++ (if (kindS s).1 = k then [(kindS s).2.1] else []) := by
  induction l with
  | nil => by_cases h : (kindS s).1 = k
           · rw [List.nil_append, numsS_yes h, if_pos h]; rfl
           · rw [List.nil_append, numsS_no h, if_neg h]; rfl
  | cons t l ih =>
    rw [List.cons_append]
    by_cases h : (kindS t).1 = k
    · rw [numsS_yes h, numsS_yes h, ih, List.cons_append]
    · rw [numsS_no h, numsS_no h, ih]
def kI (k : Int) : Lit := .int .i64 k
theorem kI_ne {a b : Int} (h : a ≠ b) : kI a ≠ kI b := by
  intro e; exact h (by simpa [kI] using e)
theorem kI_key (a : Int) : WideAt.IsKeyLit (kI a) := trivial
def numsD (zs : List Int) : DataW Unit := if zs = [] then .nil else .slice (ChangeShapes.lits .i64 zs) []
theorem cntK_app (l : List ByteArray) (s : ByteArray) (q : Int) (h0 : 0 ≤ q) (h3 : q ≤ 3) (hq : (kindS s).1 = q) : cntK (l ++ [s]) 4 = if numsS q l = [] then cntK l 4 + 1 else cntK l 4 := by
  have key : ∀ k : Int, k ≠ q → numsS k (l ++ [s]) = numsS k l := fun k hk => by rw [numsS_app, if_neg (by rw [hq]; exact fun e => hk e.symm)]; simp
  have same : numsS q (l ++ [s]) ≠ [] := by rw [numsS_app, if_pos hq]; simp
  have e0 : ∀ j : Nat, (j : Int) ≠ q → (if numsS (j : Int) (l ++ [s]) = [] then 0 else 1) = (if numsS (j : Int) l = [] then 0 else 1) := fun j hj => by simp only [key _ hj]
  have e1 : ∀ j : Nat, (j : Int) = q → (if numsS (j : Int) (l ++ [s]) = [] then 0 else 1) = 1 := fun j hj => by rw [hj, if_neg same]
  have e2 : ∀ j : Nat, (j : Int) = q → (if numsS (j : Int) l = [] then 0 else 1) = if numsS q l = [] then 0 else 1 := fun j hj => by rw [hj]
  show (((0 + if numsS ((0 : Nat) : Int) (l ++ [s]) = [] then 0 else 1) + if numsS ((1 : Nat) : Int) (l ++ [s]) = [] then 0 else 1) + if numsS ((2 : Nat) : Int) (l ++ [s]) = [] then 0 else 1) + (if numsS ((3 : Nat) : Int) (l ++ [s]) = [] then 0 else 1) = if numsS q l = [] then ((((0 + if numsS ((0 : Nat) : Int) l = [] then 0 else 1) + if numsS ((1 : Nat) : Int) l = [] then 0 else 1) + if numsS ((2 : Nat) : Int) l = [] then 0 else 1) + if numsS ((3 : Nat) : Int) l = [] then 0 else 1) + 1 else (((0 + if numsS ((0 : Nat) : Int) l = [] then 0 else 1) + if numsS ((1 : Nat) : Int) l = [] then 0 else 1) + if numsS ((2 : Nat) : Int) l = [] then 0 else 1) + if numsS ((3 : Nat) : Int) l = [] then 0 else 1
  rcases (show q = ((0 : Nat) : Int) ∨ q = ((1 : Nat) : Int) ∨ q = ((2 : Nat) : Int) ∨ q = ((3 : Nat) : Int) by omega) with h | h | h | h
  · rw [e1 0 h.symm, e0 1 (by omega), e0 2 (by omega), e0 3 (by omega), e2 0 h.symm]; by_cases e : numsS q l = [] <;> simp [e] <;> omega
  · rw [e1 1 h.symm, e0 0 (by omega), e0 2 (by omega), e0 3 (by omega), e2 1 h.symm]; by_cases e : numsS q l = [] <;> simp [e] <;> omega
  · rw [e1 2 h.symm, e0 0 (by omega), e0 1 (by omega), e0 3 (by omega), e2 2 h.symm]; by_cases e : numsS q l = [] <;> simp [e] <;> omega
  · rw [e1 3 h.symm, e0 0 (by omega), e0 1 (by omega), e0 2 (by omega), e2 3 h.symm]; by_cases e : numsS q l = [] <;> simp [e] <;> omega
structure Grp (l : List ByteArray) (D : DataW Unit) : Prop where
  tidy : Maps.Tidy D
  at' : ∀ k : Int, 0 ≤ k → k ≤ 3 → D.atKey (kI k) .nil = numsD (numsS k l)
  has : ∀ k : Int, 0 ≤ k → k ≤ 3 → Maps.has D (kI k) = decide (numsS k l ≠ [])
  size : Maps.size D = cntK l 4
theorem Grp.nil : Grp [] (.map []) := ⟨Maps.tidy_empty, fun _ _ _ => rfl, fun _ _ _ => rfl, rfl⟩
theorem Grp.put {l : List ByteArray} {D : DataW Unit} (h : Grp l D) {s : ByteArray} {q n : Int} {b : Bool} (hk : kindS s = (q, n, b)) : Grp (l ++ [s]) (D.put (kI q) (numsD (numsS q l ++ [n]))) := by
  have hr := kindS_rng s
  rw [hk] at hr
  obtain ⟨r0, r3, _, _⟩ := hr
  dsimp only at r0 r3
  have hT := h.tidy.isMap
  have hs : numsS q (l ++ [s]) = numsS q l ++ [n] := by rw [numsS_app, hk, if_pos rfl]
  have ho : ∀ k, k ≠ q → numsS k (l ++ [s]) = numsS k l := fun k hkq => by rw [numsS_app, hk, if_neg (fun e => hkq e.symm)]; simp
  refine ⟨h.tidy.put (kI_key _) _, fun k k0 k3 => ?_, fun k k0 k3 => ?_, ?_⟩
  · by_cases e : k = q
    · subst e; rw [Maps.atKey_put_same hT (kI_key _), hs]
    · rw [Maps.atKey_put_other (kI_ne e), ho k e]; exact h.at' k k0 k3
  · by_cases e : k = q
    · subst e; rw [Maps.has_put_same hT (kI_key _), hs]; simp
    · rw [Maps.has_put_other (kI_ne e), ho k e]; exact h.has k k0 k3
  · rw [Maps.size_put h.tidy, h.has q r0 r3, h.size, cntK_app l s q r0 r3 (by rw [hk])]
    by_cases e : numsS q l = []
    · simp [e]
    · simp [e]
/-- What lies at a key is that kind's numbers. -/
theorem row_nums {W : World} {base : Nat} {e : TypeId} {v : Value} {zs ns : List Int} (ho : W.ownsInts base e .i64 v zs) (hat : numsD ns = rowDatum .i64 v zs) : zs = ns := by
  unfold numsD at hat
  rcases ho.datum (H := Unit) with ⟨h1, h2⟩ | h1
  · rw [h1] at hat
    by_cases hn : ns = []
    · rw [h2, hn]
    · rw [if_neg hn] at hat; cases hat
  · rw [h1] at hat
    by_cases hn : ns = []
    · rw [if_pos hn] at hat; cases hat
    · rw [if_neg hn] at hat
      have h3 : ChangeShapes.lits (H := Unit) .i64 ns = ChangeShapes.lits .i64 zs := by simpa using hat
      exact ((List.map_inj_right (fun a b hab => by simpa using hab)).1 h3).symm
end Go.Proofs.YtgdfnngfifjdmaaDoor
