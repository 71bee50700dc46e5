/- A book and its diff; plain. -/
import Derived.Test.YtellifcjamedkaaDfMath2
namespace Go.Proofs.Ytellifcjamedkaa
open Go.RowKit Base Base2

theorem sorted_parts {lt : Item → Item → Bool} {D R : List Item} {y : Item} (h : Sorted lt (D ++ y :: R)) : (∀ d ∈ D, lt d y = true) ∧ (∀ r ∈ R, lt y r = true) ∧ Sorted lt (D ++ R) := by
  have p := List.pairwise_append.1 h
  have q := List.pairwise_cons.1 p.2.1
  exact ⟨fun d hd => p.2.2 d hd y (List.mem_cons_self ..), q.1, h.sublist (by simp)⟩
theorem head_of {α : Type} {P : α → Prop} {R : List α} (h : ∀ r ∈ R, P r) : ∀ r ∈ R.head?, P r := fun r hr => h r (List.mem_of_mem_head? hr)
theorem c1_lt {id : Int} {z : Item} (h : key 0 z < id) : c1 id z < 0 := cmpI_neg.2 h
theorem c1_gt {id : Int} {z : Item} (h : id < key 0 z) : 0 < c1 id z := cmpI_pos.2 h
theorem lt1_iff {x y : Item} : lt1 x y = true ↔ key 0 x < key 0 y := by unfold lt1; simp
theorem lt2_iff {x y : Item} : lt2 x y = true ↔ key 0 x < key 0 y ∨ (key 0 x = key 0 y ∧ key 1 x < key 1 y) := by unfold lt2; simp
theorem c2_pos {id s : Int} {x : Item} : 0 < c2 id s x ↔ id < key 0 x ∨ (key 0 x = id ∧ s < key 1 x) := by
  have h1 := @c2_neg id s x
  have h2 := @c2_zero id s x
  omega
/-- By one number: what is not there, what is. -/
theorem new1 {x y : Item} (d : Bool) {D R : List Item} (hs : Sorted lt1 (D ++ y :: R)) (hk : key 0 x = key 0 y) : setL (ge1 x) (eq1 x) x d (D ++ R) = D ++ ((if d then [] else [x]) ++ R) := by
  obtain ⟨h1, h2, h3⟩ := sorted_parts hs
  exact set_new (mono1 (key 0 x)) (fun z => ge1_c x z) (fun z => eq1_c x z) d (sorted_rise h3) (fun z hz => c1_lt (by rw [hk]; exact lt1_iff.1 (h1 z hz))) (head_of fun z hz => c1_gt (by rw [hk]; exact lt1_iff.1 (h2 z hz)))
theorem old1 {x y : Item} (d : Bool) {D R : List Item} (hs : Sorted lt1 (D ++ y :: R)) (hk : key 0 x = key 0 y) : setL (ge1 x) (eq1 x) x d (D ++ y :: R) = D ++ ((if d then [] else [x]) ++ R) := by
  obtain ⟨h1, h2, h3⟩ := sorted_parts hs
  exact set_old (mono1 (key 0 x)) (fun z => ge1_c x z) (fun z => eq1_c x z) d (sorted_rise hs) (fun z hz => c1_lt (by rw [hk]; exact lt1_iff.1 (h1 z hz))) (cmpI_zero.2 hk.symm)
theorem new2 {x y : Item} (d : Bool) {D R : List Item} (hs : Sorted lt2 (D ++ y :: R)) (hk : key 0 x = key 0 y) (hk2 : key 1 x = key 1 y) : setL (ge2 x) (eq2 x) x d (D ++ R) = D ++ ((if d then [] else [x]) ++ R) := by
  obtain ⟨h1, h2, h3⟩ := sorted_parts hs
  exact set_new (mono2 (key 0 x) (key 1 x)) (fun z => ge2_c x z) (fun z => eq2_c x z) d (sorted_rise h3) (fun z hz => c2_neg.2 (by rw [hk, hk2]; exact lt2_iff.1 (h1 z hz))) (head_of fun z hz => c2_pos.2 (by have := lt2_iff.1 (h2 z hz); omega))
theorem old2 {x y : Item} (d : Bool) {D R : List Item} (hs : Sorted lt2 (D ++ y :: R)) (hk : key 0 x = key 0 y) (hk2 : key 1 x = key 1 y) : setL (ge2 x) (eq2 x) x d (D ++ y :: R) = D ++ ((if d then [] else [x]) ++ R) := by
  obtain ⟨h1, h2, h3⟩ := sorted_parts hs
  exact set_old (mono2 (key 0 x) (key 1 x)) (fun z => ge2_c x z) (fun z => eq2_c x z) d (sorted_rise hs) (fun z hz => c2_neg.2 (by rw [hk, hk2]; exact lt2_iff.1 (h1 z hz))) (c2_zero.2 ⟨hk.symm, hk2.symm⟩)
theorem filter_old {a : Int} {y : Item} {D R : List Item} (hs : Sorted lt1 (D ++ y :: R)) (hk : a = key 0 y) : (D ++ y :: R).filter (fun z => key 0 z != a) = D ++ R := by
  obtain ⟨h1, h2, _⟩ := sorted_parts hs
  have e1 : D.filter (fun z => key 0 z != a) = D := List.filter_eq_self.2 fun z hz => by have := lt1_iff.1 (h1 z hz); simp; omega
  have e2 : R.filter (fun z => key 0 z != a) = R := List.filter_eq_self.2 fun z hz => by have := lt1_iff.1 (h2 z hz); simp; omega
  rw [List.filter_append, List.filter_cons, e1, e2]
  simp [hk]
theorem filter_new {a : Int} {y : Item} {D R : List Item} (hs : Sorted lt1 (D ++ y :: R)) (hk : a = key 0 y) : (D ++ R).filter (fun z => key 0 z != a) = D ++ R := by
  obtain ⟨h1, h2, _⟩ := sorted_parts hs
  exact List.filter_eq_self.2 fun z hz => by
    rcases List.mem_append.1 hz with hz | hz
    · have := lt1_iff.1 (h1 z hz); simp; omega
    · have := lt1_iff.1 (h2 z hz); simp; omega
theorem val4 {y : Item} (h : y.length = 4) : y = [key 0 y, key 1 y, key 2 y, key 3 y] := by
  obtain ⟨a, b, c, d, rfl⟩ : ∃ a b c d, y = [a, b, c, d] := by match y, h with | [a, b, c, d], _ => exact ⟨a, b, c, d, rfl⟩
  rfl
theorem val3 {y : Item} (h : y.length = 3) : y = [key 0 y, key 1 y, key 2 y] := by
  obtain ⟨a, b, c, rfl⟩ : ∃ a b c, y = [a, b, c] := by match y, h with | [a, b, c], _ => exact ⟨a, b, c, rfl⟩
  rfl
theorem val2 {y : Item} (h : y.length = 2) : y = [key 0 y, key 1 y] := by
  obtain ⟨a, b, rfl⟩ : ∃ a b, y = [a, b] := by match y, h with | [a, b], _ => exact ⟨a, b, rfl⟩
  rfl
theorem val6 {y : Item} (h : y.length = 6) : y = [key 0 y, key 1 y, key 2 y, key 3 y, key 4 y, key 5 y] := by
  obtain ⟨a, b, c, d, e, f, rfl⟩ : ∃ a b c d e f, y = [a, b, c, d, e, f] := by match y, h with | [a, b, c, d, e, f], _ => exact ⟨a, b, c, d, e, f, rfl⟩
  rfl
theorem fold_hs (A B : List Item) (b : BookT) (hA : ∀ x ∈ A, x.length = 4) (hB : ∀ y ∈ B, y.length = 4) (sA : Sorted lt1 A) (sB : Sorted lt1 B) : (mergeD (A.map rwH) (B.map rwH)).foldl setChT { b with hs := A } = { b with hs := B } := by
  have h := fold_list lt1 rwH (fun b L => { b with hs := L }) (fun x => x.length = 4) (fun x y => ?_) (fun x y hx hy hk hv => ?_) (fun b D x xs hs => ?_) (fun b D y R hy hs => ?_) (fun b D x y xs hy hk hs => ?_) A B [] b hA hB sA sB
  · exact h
  · unfold ltR rwH lt1
    dsimp only
    rw [Bool.eq_iff_iff, lessD_iff, decide_eq_true_eq]; omega
  · rw [val4 hx, val4 hy]
    have h1 : key 0 x = key 0 y := hk.2.1
    unfold rwH at hv
    simp only [List.cons.injEq, and_true] at hv
    rw [h1, hv.1, hv.2.1, hv.2.2]
  · show setChT _ ⟨1, key 0 x, 0, _, []⟩ = _
    unfold setChT
    dsimp only
    rw [if_pos rfl, if_pos rfl]
    rw [filter_old hs rfl]
  · show setChT _ ⟨1, key 0 y, 0, [], [key 1 y, key 2 y, key 3 y]⟩ = _
    unfold setChT
    dsimp only
    rw [if_pos rfl, if_neg (by simp)]
    rw [filter_new hs rfl]
    show setHolderT _ [key 0 y, key 1 y, key 2 y, key 3 y] = _
    rw [← val4 hy]
    unfold setHolderT
    dsimp only
    rw [new1 false hs rfl]
    rfl
  · have hk0 : key 0 x = key 0 y := hk.2.1
    show setChT _ ⟨1, key 0 x, 0, _, [key 1 y, key 2 y, key 3 y]⟩ = _
    unfold setChT
    dsimp only
    rw [if_pos rfl, if_neg (by simp)]
    rw [filter_old hs rfl]
    show setHolderT _ [key 0 x, key 1 y, key 2 y, key 3 y] = _
    rw [hk0, ← val4 hy]
    unfold setHolderT
    dsimp only
    rw [new1 false hs hk0.symm]
    rfl
theorem fold_rs (A B : List Item) (b : BookT) (hA : ∀ x ∈ A, x.length = 2) (hB : ∀ y ∈ B, y.length = 2) (sA : Sorted lt1 A) (sB : Sorted lt1 B) : (mergeD (A.map rwR) (B.map rwR)).foldl setChT { b with rs := A } = { b with rs := B } := by
  have h := fold_list lt1 rwR (fun b L => { b with rs := L }) (fun x => x.length = 2) (fun x y => ?_) (fun x y hx hy hk hv => ?_) (fun b D x xs hs => ?_) (fun b D y R hy hs => ?_) (fun b D x y xs hy hk hs => ?_) A B [] b hA hB sA sB
  · exact h
  · unfold ltR rwR lt1
    dsimp only
    rw [Bool.eq_iff_iff, lessD_iff, decide_eq_true_eq]; omega
  · rw [val2 hx, val2 hy]
    have h1 : key 0 x = key 0 y := hk.2.1
    unfold rwR at hv
    simp only [List.cons.injEq, and_true] at hv
    rw [h1, hv]
  · show setChT _ ⟨4, key 0 x, 0, _, []⟩ = _
    unfold setChT
    dsimp only
    rw [if_neg (by decide), if_neg (by decide), if_neg (by decide), if_pos rfl, if_pos rfl]
    rw [filter_old hs rfl]
  · show setChT _ ⟨4, key 0 y, 0, [], [key 1 y]⟩ = _
    unfold setChT
    dsimp only
    rw [if_neg (by decide), if_neg (by decide), if_neg (by decide), if_pos rfl, if_neg (by simp)]
    rw [filter_new hs rfl]
    show setRateT _ [key 0 y, key 1 y] = _
    rw [← val2 hy]
    unfold setRateT
    dsimp only
    rw [new1 false hs rfl]
    rfl
  · have hk0 : key 0 x = key 0 y := hk.2.1
    show setChT _ ⟨4, key 0 x, 0, _, [key 1 y]⟩ = _
    unfold setChT
    dsimp only
    rw [if_neg (by decide), if_neg (by decide), if_neg (by decide), if_pos rfl, if_neg (by simp)]
    rw [filter_old hs rfl]
    show setRateT _ [key 0 x, key 1 y] = _
    rw [hk0, ← val2 hy]
    unfold setRateT
    dsimp only
    rw [new1 false hs hk0.symm]
    rfl
theorem fold_os (A B : List Item) (b : BookT) (hA : ∀ x ∈ A, x.length = 6 ∧ key 4 x ≠ 0) (hB : ∀ y ∈ B, y.length = 6 ∧ key 4 y ≠ 0) (sA : Sorted lt1 A) (sB : Sorted lt1 B) : (mergeD (A.map rwO) (B.map rwO)).foldl setChT { b with os := A } = { b with os := B } := by
  have h := fold_list lt1 rwO (fun b L => { b with os := L }) (fun x => x.length = 6 ∧ key 4 x ≠ 0) (fun x y => ?_) (fun x y hx hy hk hv => ?_) (fun b D x xs hs => ?_) (fun b D y R hy hs => ?_) (fun b D x y xs hy hk hs => ?_) A B [] b hA hB sA sB
  · exact h
  · unfold ltR rwO lt1
    dsimp only
    rw [Bool.eq_iff_iff, lessD_iff, decide_eq_true_eq]; omega
  · rw [val6 hx.1, val6 hy.1]
    have h1 : key 0 x = key 0 y := hk.2.1
    unfold rwO at hv
    simp only [List.cons.injEq, and_true] at hv
    obtain ⟨v1, v2, v3, v4, v5⟩ := hv
    rw [h1, v1, v2, v3, v4, v5]
  · show setChT _ ⟨3, key 0 x, 0, _, []⟩ = _
    unfold setChT
    dsimp only
    rw [if_neg (by decide), if_neg (by decide), if_pos rfl, if_neg (by simp)]
    show setOpenT _ [key 0 x, 0, 0, 0, 0, 0] = _
    unfold setOpenT
    dsimp only
    rw [show (key 4 [key 0 x, 0, 0, 0, 0, 0] == 0) = true from rfl, old1 (x := [key 0 x, 0, 0, 0, 0, 0]) (y := x) true hs rfl]
    rfl
  · show setChT _ ⟨3, key 0 y, 0, [], [key 1 y, key 2 y, key 3 y, key 4 y, key 5 y]⟩ = _
    unfold setChT
    dsimp only
    rw [if_neg (by decide), if_neg (by decide), if_pos rfl, if_neg (by intro h; exact hy.2 h.2)]
    show setOpenT _ [key 0 y, key 1 y, key 2 y, key 3 y, key 4 y, key 5 y] = _
    rw [← val6 hy.1]
    unfold setOpenT
    dsimp only
    rw [show (key 4 y == 0) = false by simpa using hy.2, new1 false hs rfl]
    rfl
  · have hk0 : key 0 x = key 0 y := hk.2.1
    show setChT _ ⟨3, key 0 x, 0, _, [key 1 y, key 2 y, key 3 y, key 4 y, key 5 y]⟩ = _
    unfold setChT
    dsimp only
    rw [if_neg (by decide), if_neg (by decide), if_pos rfl, if_neg (by intro h; exact hy.2 h.2)]
    show setOpenT _ [key 0 x, key 1 y, key 2 y, key 3 y, key 4 y, key 5 y] = _
    rw [hk0, ← val6 hy.1]
    unfold setOpenT
    dsimp only
    rw [show (key 4 y == 0) = false by simpa using hy.2, old1 false hs hk0.symm]
    rfl
theorem fold_ss (A B : List Item) (b : BookT) (hA : ∀ x ∈ A, x.length = 3 ∧ key 2 x ≠ 0) (hB : ∀ y ∈ B, y.length = 3 ∧ key 2 y ≠ 0) (sA : Sorted lt2 A) (sB : Sorted lt2 B) : (mergeD (A.map rwS) (B.map rwS)).foldl setChT { b with ss := A } = { b with ss := B } := by
  have h := fold_list lt2 rwS (fun b L => { b with ss := L }) (fun x => x.length = 3 ∧ key 2 x ≠ 0) (fun x y => ?_) (fun x y hx hy hk hv => ?_) (fun b D x xs hs => ?_) (fun b D y R hy hs => ?_) (fun b D x y xs hy hk hs => ?_) A B [] b hA hB sA sB
  · exact h
  · unfold ltR rwS
    dsimp only
    rw [Bool.eq_iff_iff, lessD_iff, lt2_iff]; omega
  · rw [val3 hx.1, val3 hy.1]
    have h1 : key 0 x = key 0 y := hk.2.1
    have h2 : key 1 x = key 1 y := hk.2.2
    unfold rwS at hv
    simp only [List.cons.injEq, and_true] at hv
    rw [h1, h2, hv]
  · show setChT _ ⟨2, key 0 x, key 1 x, _, []⟩ = _
    unfold setChT
    dsimp only
    rw [if_neg (by decide), if_pos rfl, if_neg (by simp)]
    show setStakeT (setStakeT _ [key 0 x, key 1 x, 0]) [key 0 x, key 1 x, 0] = _
    unfold setStakeT
    dsimp only
    rw [show (key 2 [key 0 x, key 1 x, 0] == 0) = true from rfl, old2 (x := [key 0 x, key 1 x, 0]) (y := x) true hs rfl rfl]
    show { b with ss := setL _ _ _ true (D ++ xs) } = _
    rw [new2 (x := [key 0 x, key 1 x, 0]) (y := x) true hs rfl rfl]
    rfl
  · show setChT _ ⟨2, key 0 y, key 1 y, [], [key 2 y]⟩ = _
    unfold setChT
    dsimp only
    rw [if_neg (by decide), if_pos rfl, if_neg (by intro h; exact hy.2 h.2)]
    show setStakeT (setStakeT _ [key 0 y, key 1 y, 0]) [key 0 y, key 1 y, key 2 y] = _
    rw [← val3 hy.1]
    unfold setStakeT
    dsimp only
    rw [show (key 2 [key 0 y, key 1 y, 0] == 0) = true from rfl, show (key 2 y == 0) = false by simpa using hy.2, new2 (x := [key 0 y, key 1 y, 0]) (y := y) true hs rfl rfl]
    show { b with ss := setL _ _ _ false (D ++ R) } = _
    rw [new2 false hs rfl rfl]
    rfl
  · have hk0 : key 0 x = key 0 y := hk.2.1
    have hk1 : key 1 x = key 1 y := hk.2.2
    show setChT _ ⟨2, key 0 x, key 1 x, _, [key 2 y]⟩ = _
    unfold setChT
    dsimp only
    rw [if_neg (by decide), if_pos rfl, if_neg (by intro h; exact hy.2 h.2)]
    show setStakeT (setStakeT _ [key 0 x, key 1 x, 0]) [key 0 x, key 1 x, key 2 y] = _
    rw [hk0, hk1, ← val3 hy.1]
    unfold setStakeT
    dsimp only
    rw [show (key 2 [key 0 y, key 1 y, 0] == 0) = true from rfl, show (key 2 y == 0) = false by simpa using hy.2, old2 (x := [key 0 y, key 1 y, 0]) (y := x) true hs hk0.symm hk1.symm]
    show { b with ss := setL _ _ _ false (D ++ xs) } = _
    rw [new2 false hs hk0.symm hk1.symm]
    rfl
end Go.Proofs.Ytellifcjamedkaa
