/- What pairs of two lists side by side are; plain. -/
import Derived.Test.YtellifcjamedkaaDpMath
namespace Go.Proofs.Ytellifcjamedkaa
open Go.RowKit Base Base2

section
variable {A B : Type} (f : A → K3) (g : B → K3)
theorem beside_mem : ∀ (xs : List A) (ys : List B), ∀ p ∈ besideS f g xs ys, (∀ x, p.1 = some x → x ∈ xs) ∧ (∀ y, p.2 = some y → y ∈ ys) ∧ ¬ (p.1 = none ∧ p.2 = none)
  | [], ys, p, h => by
    rw [besideS] at h
    obtain ⟨y, hy, rfl⟩ := List.mem_map.1 h
    exact ⟨fun x h => (by cases h), fun z h => (by cases h; exact hy), fun h => (by cases h.2)⟩
  | x :: xs, ys, p, h => by
    rw [besideS] at h
    rcases List.mem_append.1 h with h | h
    · obtain ⟨y, hy, rfl⟩ := List.mem_map.1 h
      exact ⟨fun x h => (by cases h), fun z h => (by cases h; exact List.mem_of_mem_take hy), fun h => by cases h.2⟩
    · rcases List.mem_cons.1 h with rfl | h
      · refine ⟨fun z h => (by cases h; exact List.mem_cons_self ..), fun z h => ?_, fun h => by cases h.1⟩
        dsimp only at h
        split at h
        · exact List.mem_of_getElem? h
        · cases h
      · obtain ⟨h1, h2, h3⟩ := beside_mem xs _ p h
        exact ⟨fun z h => List.mem_cons_of_mem _ (h1 z h), fun z h => List.mem_of_mem_drop (h2 z h), h3⟩
theorem beside_pre {C : Type} {pl : C → Option A × Option B} {pre : List C} {z : C} {xs : List A} {ys : List B} (h : ∃ s, (pre ++ [z]).map pl ++ s = besideS f g xs ys) :
    pre.length + 1 ≤ xs.length + ys.length ∧ (∀ x, (pl z).1 = some x → x ∈ xs) ∧ (∀ y, (pl z).2 = some y → y ∈ ys) ∧ ¬ ((pl z).1 = none ∧ (pl z).2 = none) := by
  obtain ⟨s, e⟩ := h
  refine ⟨?_, beside_mem f g xs ys (pl z) (by rw [← e]; simp)⟩
  have h1 := beside_len f g xs ys
  rw [← e] at h1
  simp only [List.length_append, List.length_map, List.length_singleton] at h1
  omega
end
theorem allT_pos (l : Int) : 1 ≤ allT l := by unfold allT; split <;> (try split) <;> omega
theorem RowOk.ne {r : RowT} (h : RowOk r) : r.v ≠ [] := fun e => by have := h.v; have := allT_pos r.l; rw [e] at *; simp at *; omega
/-- A zero row. -/
def zeroRV : RowV := ⟨⟨0, 0, 0, []⟩, none, 0⟩
def keyP (x y : RowV) (h : Bool) : Int × Int × Int := if h then (x.r.l, x.r.a, x.r.b) else (y.r.l, y.r.a, y.r.b)
theorem chOf_first {x : RowV} {y : Option RowV} (h1 : RowOk x.r) (h2 : ∀ z, y = some z → RowOk z.r) :
    chOf (some x.r, y.map RowV.r) = if x.r.v = (y.getD zeroRV).r.v then [] else [⟨x.r.l, x.r.a, x.r.b, x.r.v, (y.getD zeroRV).r.v⟩] := by
  cases y with
  | none => rw [if_neg (by exact h1.ne)]; rfl
  | some y => rfl
theorem chOf_second {y : RowV} (h2 : RowOk y.r) : chOf (none, some y.r) = if zeroRV.r.v = y.r.v then [] else [⟨y.r.l, y.r.a, y.r.b, zeroRV.r.v, y.r.v⟩] := by
  rw [if_neg (fun e => h2.ne e.symm)]; rfl
theorem rows_ok {b : BookT} (h : MayB b) : ∀ r ∈ rowsD b, RowOk r := (rows_book h).2.1
theorem rise_keys {b : BookT} (h : MayB b) {o : List RowV} (ho : o.map RowV.r = rowsD b) : RiseK (o.map (fun x : RowV => keyT x.r)) := by
  have h1 := (rows_book h).1
  rw [← ho] at h1
  unfold RiseK
  rw [show o.map (fun x : RowV => keyT x.r) = (o.map RowV.r).map keyT by rw [List.map_map]; rfl]
  exact List.pairwise_map.2 h1
end Go.Proofs.Ytellifcjamedkaa
