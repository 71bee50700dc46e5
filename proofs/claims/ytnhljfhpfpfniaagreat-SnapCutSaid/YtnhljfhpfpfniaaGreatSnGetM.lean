/- Columns that are got, one behind the other; plain. -/
import Derived.Test.YtnhljfhpfpfniaaGreatSnMath
namespace Go.Proofs.YtnhljfhpfpfniaaGreat
open Go.RowKit Base Base2

theorem getCols_app : ∀ (ms ms' : List Nat) (s : List UInt8) (cs : List (List Int)) (t : List UInt8), getCols ms s = (cs, t, 0) → getCols (ms ++ ms') s = if (getCols ms' t).2.2 ≠ 0 then ([], [], (getCols ms' t).2.2) else (cs ++ (getCols ms' t).1, (getCols ms' t).2.1, 0)
  | [], ms', s, cs, t, h => by
    unfold getCols at h
    simp only [Prod.mk.injEq] at h
    obtain ⟨rfl, rfl, _⟩ := h
    rw [List.nil_append]
    obtain ⟨⟨a, u, e⟩, hg⟩ : ∃ g, getCols ms' s = g := ⟨_, rfl⟩
    rw [hg]
    dsimp only
    by_cases he : e = 0
    · subst he; simp
    · rw [if_pos he]
      cases ms' with
      | nil => unfold getCols at hg; simp only [Prod.mk.injEq] at hg; exact absurd hg.2.2.symm he
      | cons m ms' =>
        unfold getCols at hg
        split at hg
        · simp only [Prod.mk.injEq] at hg
          obtain ⟨rfl, rfl, rfl⟩ := hg; rfl
        · split at hg
          · simp only [Prod.mk.injEq] at hg
            obtain ⟨rfl, rfl, rfl⟩ := hg; rfl
          · simp only [Prod.mk.injEq] at hg
            exact absurd hg.2.2.symm he
  | m :: ms, ms', s, cs, t, h => by
    obtain ⟨⟨l, k, e⟩, hg⟩ : ∃ g, getS s m = g := ⟨_, rfl⟩
    obtain ⟨⟨ls, u, f⟩, hr⟩ : ∃ g, getCols ms (s.drop k) = g := ⟨_, rfl⟩
    unfold getCols at h
    rw [hg] at h
    dsimp only at h
    rw [hr] at h
    dsimp only at h
    by_cases he : e = 0
    · by_cases hf : f = 0
      · subst he hf
        simp only [ne_eq, not_true_eq_false, if_false, Prod.mk.injEq] at h
        obtain ⟨rfl, rfl, _⟩ := h
        have ih := getCols_app ms ms' _ ls u hr
        rw [List.cons_append]
        conv => lhs; unfold getCols
        rw [hg]
        dsimp only
        rw [ih]
        by_cases hq : (getCols ms' u).2.2 = 0
        · simp [hq]
        · simp [hq]
      · rw [if_neg (by simp [he]), if_pos hf] at h
        simp only [Prod.mk.injEq] at h
        exact absurd h.2.2 hf
    · rw [if_pos he] at h
      simp only [Prod.mk.injEq] at h
      exact absurd h.2.2 he
theorem getCols_next {ms : List Nat} {s t : List UInt8} {cs : List (List Int)} {i m k : Nat} {l : List Int} (h : getCols (ms.take i) s = (cs, t, 0)) (hm : ms[i]? = some m) (hg : getS t m = (l, k, 0)) : getCols (ms.take (i + 1)) s = (cs ++ [l], t.drop k, 0) := by
  have h1 : getCols [m] t = ([l], t.drop k, 0) := by
    unfold getCols
    rw [hg]
    simp [getCols]
  rw [List.take_add_one, hm]
  rw [show (some m).toList = [m] from rfl, getCols_app _ _ _ _ _ h, h1]
  simp
theorem getCols_fail {ms : List Nat} {s t : List UInt8} {cs : List (List Int)} {i m : Nat} (h : getCols (ms.take i) s = (cs, t, 0)) (hm : ms[i]? = some m) (he : (getS t m).2.2 ≠ 0) : (getCols ms s).2.2 = (getS t m).2.2 := by
  have hd : ms = ms.take i ++ m :: ms.drop (i + 1) := by
    obtain ⟨hlt, hx⟩ := List.getElem?_eq_some_iff.1 hm
    rw [← hx, ← List.drop_eq_getElem_cons hlt, List.take_append_drop]
  have h1 : getCols (m :: ms.drop (i + 1)) t = ([], [], (getS t m).2.2) := by
    unfold getCols
    rw [if_pos he]
  have h2 := getCols_app _ (m :: ms.drop (i + 1)) _ _ _ h
  rw [← hd, h1, if_pos he] at h2
  rw [h2]
end Go.Proofs.YtnhljfhpfpfniaaGreat
