/- The document's value of a key in rows: the contract. -/
import Derived.Test.YtellifcjamedkaaDfRef3
namespace Go.Proofs.Ytellifcjamedkaa
open Go.RowKit Base Base2

theorem value_at {ox : List RowV} {c : ChT} {i : Nat} {x : RowV} (h : ∀ (j : Nat) (r : RowV), j < i → ox[j]? = some r → isKey c r.r = false) (hx : ox[i]? = some x) (hk : isKey c x.r = true) : valueT (ox.map RowV.r) c = x.r.v := by
  have hs : ox = ox.take i ++ x :: ox.drop (i + 1) := by rw [← drop_at hx, List.take_append_drop]
  have hf : (ox.map RowV.r).find? (isKey c) = some x.r := by
    rw [hs, List.map_append, List.find?_append, List.find?_eq_none.2 ?_]
    · simp [hk]
    · intro r hr
      obtain ⟨y, hy, rfl⟩ := List.mem_map.1 hr
      obtain ⟨j, hj⟩ := List.getElem?_of_mem hy
      have hji : j < i := by
        have := (List.getElem?_eq_some_iff.1 hj).1
        rw [List.length_take] at this
        omega
      rw [List.getElem?_take_of_lt hji] at hj
      simp [h j y hji hj]
  unfold valueT
  rw [hf]
theorem value_end {ox : List RowV} {c : ChT} (h : ∀ (j : Nat) (r : RowV), j < ox.length → ox[j]? = some r → isKey c r.r = false) : valueT (ox.map RowV.r) c = [] := by
  have hf : (ox.map RowV.r).find? (isKey c) = none := by
    refine List.find?_eq_none.2 fun r hr => ?_
    obtain ⟨y, hy, rfl⟩ := List.mem_map.1 hr
    obtain ⟨j, hj⟩ := List.getElem?_of_mem hy
    simp [h j y (List.getElem?_eq_some_iff.1 hj).1 hj]
  unfold valueT
  rw [hf]
theorem keys_one {ox : List RowV} {c : ChT} {i : Nat} {x : RowV} (h : ∀ (j : Nat) (r : RowV), j < i → ox[j]? = some r → isKey c r.r = false) (hx : ox[i]? = some x) (hk : isKey c x.r = false) : ∀ (j : Nat) (r : RowV), j < i + 1 → ox[j]? = some r → isKey c r.r = false := by
  intro j r hj hr
  rcases Nat.lt_succ_iff_lt_or_eq.1 hj with hj | rfl
  · exact h j r hj hr
  · rw [hx] at hr
    obtain rfl := Option.some.inj hr
    exact hk
end Go.Proofs.Ytellifcjamedkaa
