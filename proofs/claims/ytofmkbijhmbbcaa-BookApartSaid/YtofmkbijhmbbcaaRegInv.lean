/- A region that draws its order, by an invariant on what has come up: for regions with many orders. -/
import Derived.OrdersHeld
import Derived.Deep.RegionHeld
namespace Go.Proofs.Ytofmkbijhmbbcaa
open Go

theorem count_set : ∀ (l : List Bool) (i : Nat), l[i]? = some false → (l.set i true).count false + 1 = l.count false
  | [], i, h => by simp at h
  | b :: l, 0, h => by simp at h; subst h; simp
  | b :: l, i + 1, h => by
    have ih := count_set l i (by simpa using h)
    rw [List.set_cons_succ, List.count_cons, List.count_cons]
    omega
/-- WHATEVER ORDER: an invariant that each operation that may come up carries on, and that in the end gives what is wanted. -/
theorem wpAnyH_inv {P : Program} {md : Region.Mode} {ops : Array Oper} {Q : Exit → Act → World → Prop} {S : World → Prop} (Inv : Array Bool → Act → World → Prop)
    (hend : ∀ l a w, Inv l a w → Region.ready md ops l = [] → Q .normal a w)
    (hun : ∀ l a w, Inv l a w → ∀ i ∈ Region.ready md ops l, l[i]? = some false)
    (hop : ∀ l a w, Inv l a w → ∀ i ∈ Region.ready md ops l, wpOp P ops Q i (fun a' w' => S w' ∧ Inv (l.setIfInBounds i true) a' w') a w) :
    ∀ (fuel : Nat) (l : Array Bool) (a : Act) (w : World), Inv l a w → l.toList.count false ≤ fuel → wpAnyH P md ops Q S fuel l a w
  | 0, l, a, w, h, hc => by
    have he : Region.ready md ops l = [] := by
      cases hr : Region.ready md ops l with
      | nil => rfl
      | cons i r =>
        have hi := hun l a w h i (by rw [hr]; simp)
        have hm : false ∈ l.toList := by
          rw [← Array.getElem?_toList] at hi
          exact List.mem_of_getElem? hi
        have := List.count_pos_iff.2 hm
        omega
    exact ⟨he, hend l a w h he⟩
  | fuel + 1, l, a, w, h, hc => by
    refine ⟨fun he => hend l a w h he, fun i hi => wpOp_mono (fun a' w' h' => ⟨h'.1, wpAnyH_inv Inv hend hun hop fuel _ a' w' h'.2 ?_⟩) (hop l a w h i hi)⟩
    have hf := hun l a w h i hi
    rw [← Array.getElem?_toList] at hf
    have := count_set l.toList i hf
    rw [Array.toList_setIfInBounds]
    omega
/-- The same, with a state from which one goes on otherwise. -/
theorem wpAnyH_inv2 {P : Program} {md : Region.Mode} {ops : Array Oper} {Q : Exit → Act → World → Prop} {S : World → Prop} (Inv : Array Bool → Act → World → Prop)
    (hstep : ∀ l a w, Inv l a w → (∀ fuel, l.toList.count false ≤ fuel → wpAnyH P md ops Q S fuel l a w) ∨ (Region.ready md ops l ≠ [] ∧ ∀ i ∈ Region.ready md ops l, l[i]? = some false ∧ wpOp P ops Q i (fun a' w' => S w' ∧ Inv (l.setIfInBounds i true) a' w') a w)) :
    ∀ (fuel : Nat) (l : Array Bool) (a : Act) (w : World), Inv l a w → l.toList.count false ≤ fuel → wpAnyH P md ops Q S fuel l a w
  | 0, l, a, w, h, hc => by
    rcases hstep l a w h with h1 | ⟨hne, h1⟩
    · exact h1 0 hc
    · obtain ⟨i, hi⟩ := List.exists_mem_of_ne_nil _ hne
      have hf := (h1 i hi).1
      have hm : false ∈ l.toList := by
        rw [← Array.getElem?_toList] at hf
        exact List.mem_of_getElem? hf
      have := List.count_pos_iff.2 hm
      omega
  | fuel + 1, l, a, w, h, hc => by
    rcases hstep l a w h with h1 | ⟨hne, h1⟩
    · exact h1 _ hc
    · refine ⟨fun he => absurd he hne, fun i hi => wpOp_mono (fun a' w' h' => ⟨h'.1, wpAnyH_inv2 Inv hstep fuel _ a' w' h'.2 ?_⟩) (h1 i hi).2⟩
      have hf := (h1 i hi).1
      rw [← Array.getElem?_toList] at hf
      have := count_set l.toList i hf
      rw [Array.toList_setIfInBounds]
      omega
/-- A fact told of both. -/
def allB (f : Bool → Bool) : Bool := f true && f false
theorem allB_at {f : Bool → Bool} (h : allB f = true) (b : Bool) : f b = true := by
  unfold allB at h
  rw [Bool.and_eq_true] at h
  cases b
  · exact h.2
  · exact h.1
end Go.Proofs.Ytofmkbijhmbbcaa
