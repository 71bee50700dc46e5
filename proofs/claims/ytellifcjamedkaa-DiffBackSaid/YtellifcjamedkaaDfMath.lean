/- Changes of books: the diff, the patch; plain. -/
import Derived.Test.YtellifcjamedkaaBkQMath
import Derived.Test.YtellifcjamedkaaBkRise
namespace Go.Proofs.Ytellifcjamedkaa
open Go.RowKit Base Base2

/-- A thing as a row: its list, its key, its values. -/
structure RowT where
  l : Int
  a : Int
  b : Int
  v : List Int
structure ChT where
  l : Int
  a : Int
  b : Int
  was : List Int
  now : List Int
def rwH (x : Item) : RowT := ⟨1, key 0 x, 0, [key 1 x, key 2 x, key 3 x]⟩
def rwS (x : Item) : RowT := ⟨2, key 0 x, key 1 x, [key 2 x]⟩
def rwO (x : Item) : RowT := ⟨3, key 0 x, 0, [key 1 x, key 2 x, key 3 x, key 4 x, key 5 x]⟩
def rwR (x : Item) : RowT := ⟨4, key 0 x, 0, [key 1 x]⟩
def rwC (n : Int) : RowT := ⟨5, 0, 0, [n]⟩
def rowsD (b : BookT) : List RowT := b.hs.map rwH ++ (b.ss.map rwS ++ (b.os.map rwO ++ (b.rs.map rwR ++ [rwC b.co])))
def lessD (l a b m c d : Int) : Bool := decide (l < m) || (decide (l = m) && (decide (a < c) || (decide (a = c) && decide (b < d))))
def ltR (x y : RowT) : Bool := lessD x.l x.a x.b y.l y.a y.b
theorem lessD_iff {l a b m c d : Int} : lessD l a b m c d = true ↔ l < m ∨ (l = m ∧ (a < c ∨ (a = c ∧ b < d))) := by
  unfold lessD
  simp only [Bool.or_eq_true, Bool.and_eq_true, decide_eq_true_eq]
theorem lessD_no {l a b m c d : Int} : lessD l a b m c d = false ↔ ¬ (l < m ∨ (l = m ∧ (a < c ∨ (a = c ∧ b < d)))) := by
  rw [← lessD_iff]; simp
def sameKey (x y : RowT) : Prop := x.l = y.l ∧ x.a = y.a ∧ x.b = y.b
theorem ltR_iff {x y : RowT} : ltR x y = true ↔ x.l < y.l ∨ (x.l = y.l ∧ (x.a < y.a ∨ (x.a = y.a ∧ x.b < y.b))) := lessD_iff
theorem ltR_tri {x y : RowT} (h1 : ltR x y = false) (h2 : ltR y x = false) : sameKey x y := by
  unfold ltR at h1 h2
  rw [lessD_no] at h1 h2
  unfold sameKey
  omega
theorem ltR_trans {x y z : RowT} (h1 : ltR x y = true) (h2 : ltR y z = true) : ltR x z = true := by
  rw [ltR_iff] at *
  omega
theorem ltR_key {x y z : RowT} (h1 : ltR x y = true) (h2 : sameKey y z) : ltR x z = true := by
  unfold sameKey at h2
  rw [ltR_iff] at *
  omega
theorem key_ltR {x y z : RowT} (h1 : sameKey x y) (h2 : ltR y z = true) : ltR x z = true := by
  unfold sameKey at h1
  rw [ltR_iff] at *
  omega
theorem ltR_irr {x y : RowT} (h : ltR x y = true) : ¬ sameKey x y := by
  unfold sameKey
  rw [ltR_iff] at h
  omega
theorem ltR_asym {x y : RowT} (h : ltR x y = true) : ltR y x = false := by
  rw [ltR_iff] at h
  unfold ltR
  rw [lessD_no]
  omega
def delC (x : RowT) : ChT := ⟨x.l, x.a, x.b, x.v, []⟩
def insC (y : RowT) : ChT := ⟨y.l, y.a, y.b, [], y.v⟩
def chgC (x y : RowT) : ChT := ⟨x.l, x.a, x.b, x.v, y.v⟩
/-- What two rows of rows are unlike by. -/
def mergeD : List RowT → List RowT → List ChT
  | [], [] => []
  | x :: xs, [] => delC x :: mergeD xs []
  | [], y :: ys => insC y :: mergeD [] ys
  | x :: xs, y :: ys =>
    if ltR x y then delC x :: mergeD xs (y :: ys)
    else if ltR y x then insC y :: mergeD (x :: xs) ys
    else if x.v = y.v then mergeD xs ys else chgC x y :: mergeD xs ys
  termination_by a b => a.length + b.length
def diffT (a b : BookT) : List ChT := mergeD (rowsD a) (rowsD b)
def turnC (c : ChT) : ChT := ⟨c.l, c.a, c.b, c.now, c.was⟩
def turnT (l : List ChT) : List ChT := l.map turnC
/-- One way and the other. -/
theorem merge_turn : ∀ (xs ys : List RowT), mergeD ys xs = turnT (mergeD xs ys)
  | [], [] => by simp [mergeD, turnT]
  | x :: xs, [] => by
    have ih := merge_turn xs []
    simp only [mergeD, turnT, List.map_cons] at ih ⊢
    rw [ih]; rfl
  | [], y :: ys => by
    have ih := merge_turn [] ys
    simp only [mergeD, turnT, List.map_cons] at ih ⊢
    rw [ih]; rfl
  | x :: xs, y :: ys => by
    rw [mergeD, mergeD]
    cases h1 : ltR x y with
    | true =>
      have ih := merge_turn xs (y :: ys)
      rw [ltR_asym h1]
      simp only [if_true, Bool.false_eq_true, if_false]
      rw [ih]; rfl
    | false =>
      cases h2 : ltR y x with
      | true =>
        have ih := merge_turn (x :: xs) ys
        simp only [if_true, Bool.false_eq_true, if_false]
        rw [ih]; rfl
      | false =>
        have ih := merge_turn xs ys
        simp only [Bool.false_eq_true, if_false]
        by_cases hv : x.v = y.v
        · rw [if_pos hv, if_pos hv.symm, ih]
        · rw [if_neg hv, if_neg (fun e => hv e.symm), ih]
          obtain ⟨k1, k2, k3⟩ := ltR_tri h1 h2
          have e : chgC y x = turnC (chgC x y) := by unfold chgC turnC; rw [k1, k2, k3]
          rw [e]; rfl
  termination_by xs ys => xs.length + ys.length
/-- None just if both are alike. -/
theorem merge_none : ∀ (xs ys : List RowT), mergeD xs ys = [] ↔ xs = ys
  | [], [] => by simp [mergeD]
  | x :: xs, [] => by simp [mergeD]
  | [], y :: ys => by simp [mergeD]
  | x :: xs, y :: ys => by
    rw [mergeD]
    cases h1 : ltR x y with
    | true =>
      simp only [if_true]
      refine ⟨fun h => by simp at h, fun h => ?_⟩
      have h2 : x = y := (List.cons.inj h).1
      exact absurd ⟨by rw [h2], by rw [h2], by rw [h2]⟩ (ltR_irr h1)
    | false =>
      cases h2 : ltR y x with
      | true =>
        simp only [if_true, Bool.false_eq_true, if_false]
        refine ⟨fun h => by simp at h, fun h => ?_⟩
        have h3 : x = y := (List.cons.inj h).1
        exact absurd ⟨by rw [h3], by rw [h3], by rw [h3]⟩ (ltR_irr h2)
      | false =>
        simp only [Bool.false_eq_true, if_false]
        obtain ⟨k1, k2, k3⟩ := ltR_tri h1 h2
        by_cases hv : x.v = y.v
        · rw [if_pos hv, merge_none xs ys]
          have hxy : x = y := by
            obtain ⟨_, _, _, _⟩ := x
            obtain ⟨_, _, _, _⟩ := y
            dsimp only at k1 k2 k3 hv
            subst k1 k2 k3 hv
            rfl
          rw [hxy]; simp
        · rw [if_neg hv]
          refine ⟨fun h => by simp at h, fun h => ?_⟩
          have h3 : x = y := (List.cons.inj h).1
          exact absurd (by rw [h3]) hv
  termination_by xs ys => xs.length + ys.length
/-- Rows that rise. -/
def RiseR (l : List RowT) : Prop := l.Pairwise (fun x y => ltR x y = true)
def keyR (c : ChT) (x : RowT) : Prop := c.l = x.l ∧ c.a = x.a ∧ c.b = x.b
/-- What a change tells: of what stands in the one and in the other. -/
structure ChIs (xs ys : List RowT) (c : ChT) : Prop where
  was : (∃ x ∈ xs, keyR c x ∧ c.was = x.v) ∨ (c.was = [] ∧ ∀ x ∈ xs, ¬ keyR c x)
  now : (∃ y ∈ ys, keyR c y ∧ c.now = y.v) ∨ (c.now = [] ∧ ∀ y ∈ ys, ¬ keyR c y)
  some : (∃ x ∈ xs, keyR c x) ∨ ∃ y ∈ ys, keyR c y
theorem keyR_lt {c : ChT} {x y : RowT} (h : keyR c x) (hl : ltR x y = true) : ¬ keyR c y := by
  unfold keyR at *
  rw [ltR_iff] at hl
  omega
theorem ChIs.consX {xs ys : List RowT} {c : ChT} {x : RowT} (h : ChIs xs ys c) (hx : ¬ keyR c x) : ChIs (x :: xs) ys c := by
  refine ⟨?_, h.now, ?_⟩
  · rcases h.was with ⟨z, hz, h1⟩ | ⟨h1, h2⟩
    · exact .inl ⟨z, List.mem_cons_of_mem _ hz, h1⟩
    · exact .inr ⟨h1, fun z hz => (List.mem_cons.1 hz).elim (fun e => by rw [e]; exact hx) (h2 z)⟩
  · rcases h.some with ⟨z, hz, h1⟩ | h1
    · exact .inl ⟨z, List.mem_cons_of_mem _ hz, h1⟩
    · exact .inr h1
theorem ChIs.consY {xs ys : List RowT} {c : ChT} {y : RowT} (h : ChIs xs ys c) (hy : ¬ keyR c y) : ChIs xs (y :: ys) c := by
  refine ⟨h.was, ?_, ?_⟩
  · rcases h.now with ⟨z, hz, h1⟩ | ⟨h1, h2⟩
    · exact .inl ⟨z, List.mem_cons_of_mem _ hz, h1⟩
    · exact .inr ⟨h1, fun z hz => (List.mem_cons.1 hz).elim (fun e => by rw [e]; exact hy) (h2 z)⟩
  · rcases h.some with h1 | ⟨z, hz, h1⟩
    · exact .inl h1
    · exact .inr ⟨z, List.mem_cons_of_mem _ hz, h1⟩
theorem keyR_gt {c : ChT} {x : RowT} {xs ys : List RowT} (h : (∃ z ∈ xs, keyR c z) ∨ ∃ z ∈ ys, keyR c z) (hx : ∀ z ∈ xs, ltR x z = true) (hy : ∀ z ∈ ys, ltR x z = true) : ¬ keyR c x := fun hc => by
  rcases h with ⟨z, hz, h1⟩ | ⟨z, hz, h1⟩
  · exact keyR_lt hc (hx z hz) h1
  · exact keyR_lt hc (hy z hz) h1
/-- A change, in what two rising rows are unlike by. -/
theorem merge_mem : ∀ (xs ys : List RowT), RiseR xs → RiseR ys → (∀ x ∈ xs, x.v ≠ []) → (∀ y ∈ ys, y.v ≠ []) → ∀ c ∈ mergeD xs ys, ChIs xs ys c ∧ c.was ≠ c.now
  | [], [], _, _, _, _, c, hc => by simp [mergeD] at hc
  | x :: xs, [], h1, h2, v1, v2, c, hc => by
    rw [mergeD] at hc
    rcases List.mem_cons.1 hc with rfl | hc
    · exact ⟨⟨.inl ⟨x, List.mem_cons_self .., ⟨rfl, rfl, rfl⟩, rfl⟩, .inr ⟨rfl, fun y hy => by cases hy⟩, .inl ⟨x, List.mem_cons_self .., rfl, rfl, rfl⟩⟩, v1 x (List.mem_cons_self ..)⟩
    · have hp := List.pairwise_cons.1 h1
      obtain ⟨i1, i2⟩ := merge_mem xs [] hp.2 h2 (fun z hz => v1 z (List.mem_cons_of_mem _ hz)) v2 c hc
      exact ⟨i1.consX (keyR_gt i1.some hp.1 (fun z hz => by cases hz)), i2⟩
  | [], y :: ys, h1, h2, v1, v2, c, hc => by
    rw [mergeD] at hc
    rcases List.mem_cons.1 hc with rfl | hc
    · exact ⟨⟨.inr ⟨rfl, fun y hy => by cases hy⟩, .inl ⟨y, List.mem_cons_self .., ⟨rfl, rfl, rfl⟩, rfl⟩, .inr ⟨y, List.mem_cons_self .., rfl, rfl, rfl⟩⟩, fun e => v2 y (List.mem_cons_self ..) e.symm⟩
    · have hp := List.pairwise_cons.1 h2
      obtain ⟨i1, i2⟩ := merge_mem [] ys h1 hp.2 v1 (fun z hz => v2 z (List.mem_cons_of_mem _ hz)) c hc
      exact ⟨i1.consY (keyR_gt i1.some (fun z hz => by cases hz) hp.1), i2⟩
  | x :: xs, y :: ys, h1, h2, v1, v2, c, hc => by
    have hp := List.pairwise_cons.1 h1
    have hq := List.pairwise_cons.1 h2
    have w1 : ∀ z ∈ xs, z.v ≠ [] := fun z hz => v1 z (List.mem_cons_of_mem _ hz)
    have w2 : ∀ z ∈ ys, z.v ≠ [] := fun z hz => v2 z (List.mem_cons_of_mem _ hz)
    rw [mergeD] at hc
    cases e1 : ltR x y with
    | true =>
      rw [e1] at hc
      simp only [if_true] at hc
      have hy : ∀ z ∈ y :: ys, ltR x z = true := fun z hz => (List.mem_cons.1 hz).elim (fun e => by rw [e]; exact e1) (fun hz => ltR_trans e1 (hq.1 z hz))
      rcases List.mem_cons.1 hc with rfl | hc
      · exact ⟨⟨.inl ⟨x, List.mem_cons_self .., ⟨rfl, rfl, rfl⟩, rfl⟩, .inr ⟨rfl, fun z hz => keyR_lt ⟨rfl, rfl, rfl⟩ (hy z hz)⟩, .inl ⟨x, List.mem_cons_self .., rfl, rfl, rfl⟩⟩, v1 x (List.mem_cons_self ..)⟩
      · obtain ⟨i1, i2⟩ := merge_mem xs (y :: ys) hp.2 h2 w1 v2 c hc
        exact ⟨i1.consX (keyR_gt i1.some hp.1 hy), i2⟩
    | false =>
      rw [e1] at hc
      cases e2 : ltR y x with
      | true =>
        rw [e2] at hc
        simp only [if_true, Bool.false_eq_true, if_false] at hc
        have hx : ∀ z ∈ x :: xs, ltR y z = true := fun z hz => (List.mem_cons.1 hz).elim (fun e => by rw [e]; exact e2) (fun hz => ltR_trans e2 (hp.1 z hz))
        rcases List.mem_cons.1 hc with rfl | hc
        · exact ⟨⟨.inr ⟨rfl, fun z hz => keyR_lt ⟨rfl, rfl, rfl⟩ (hx z hz)⟩, .inl ⟨y, List.mem_cons_self .., ⟨rfl, rfl, rfl⟩, rfl⟩, .inr ⟨y, List.mem_cons_self .., rfl, rfl, rfl⟩⟩, fun e => v2 y (List.mem_cons_self ..) e.symm⟩
        · obtain ⟨i1, i2⟩ := merge_mem (x :: xs) ys h1 hq.2 v1 w2 c hc
          exact ⟨i1.consY (keyR_gt i1.some hx hq.1), i2⟩
      | false =>
        rw [e2] at hc
        simp only [Bool.false_eq_true, if_false] at hc
        have hk := ltR_tri e1 e2
        have hyx : ∀ z ∈ ys, ltR x z = true := fun z hz => key_ltR hk (hq.1 z hz)
        have hxy : ∀ z ∈ xs, ltR y z = true := fun z hz => key_ltR ⟨hk.1.symm, hk.2.1.symm, hk.2.2.symm⟩ (hp.1 z hz)
        have hrec : c ∈ mergeD xs ys → ChIs (x :: xs) (y :: ys) c ∧ c.was ≠ c.now := fun hc => by
          obtain ⟨i1, i2⟩ := merge_mem xs ys hp.2 hq.2 w1 w2 c hc
          exact ⟨(i1.consX (keyR_gt i1.some hp.1 hyx)).consY (keyR_gt i1.some hxy hq.1), i2⟩
        by_cases hv : x.v = y.v
        · rw [if_pos hv] at hc
          exact hrec hc
        · rw [if_neg hv] at hc
          rcases List.mem_cons.1 hc with rfl | hc
          · exact ⟨⟨.inl ⟨x, List.mem_cons_self .., ⟨rfl, rfl, rfl⟩, rfl⟩, .inl ⟨y, List.mem_cons_self .., ⟨hk.1, hk.2.1, hk.2.2⟩, rfl⟩, .inl ⟨x, List.mem_cons_self .., rfl, rfl, rfl⟩⟩, hv⟩
          · exact hrec hc
  termination_by xs ys => xs.length + ys.length
end Go.Proofs.Ytellifcjamedkaa
