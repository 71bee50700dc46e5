/- A book patched by its diff is the other one; plain. -/
import Derived.Test.YtellifcjamedkaaDfMath3
namespace Go.Proofs.Ytellifcjamedkaa
open Go.RowKit Base Base2

/-- What a book that may be has. -/
structure MayB (b : BookT) : Prop where
  hs : Sorted lt1 b.hs
  ss : Sorted lt2 b.ss
  os : Sorted lt1 b.os
  rs : Sorted lt1 b.rs
  lh : ∀ x ∈ b.hs, x.length = 4
  ls : ∀ x ∈ b.ss, x.length = 3 ∧ key 2 x ≠ 0
  lo : ∀ x ∈ b.os, x.length = 6 ∧ key 4 x ≠ 0
  sd : ∀ x ∈ b.os, key 3 x = 0 ∨ key 3 x = 1
  lr : ∀ x ∈ b.rs, x.length = 2
  co : 0 ≤ b.co
theorem mayB {m : Nat} {b : BookT} (h : mayT b = true) (hk : BookOk m b) : MayB b := by
  unfold mayT riseT sizesT at h
  simp only [Bool.and_eq_true, decide_eq_true_eq] at h
  obtain ⟨⟨⟨⟨⟨⟨⟨⟨r1, r2⟩, r3⟩, r4⟩, ⟨⟨⟨_, _⟩, _⟩, z4⟩, _⟩, a1⟩, a2⟩, a3⟩, a4⟩ := h
  refine ⟨rise_sorted ord1.tr r1, rise_sorted ord2.tr r4, rise_sorted ord1.tr r2, rise_sorted ord1.tr r3, fun x hx => (hk.hs.2 x hx).1, fun x hx => ⟨(hk.ss.2 x hx).1, ?_⟩, fun x hx => ⟨(hk.os.2 x hx).1, ?_⟩, fun x hx => ?_, fun x hx => (hk.rs.2 x hx).1, z4⟩
  · have h := List.all_eq_true.1 a3 x hx
    unfold stakeT at h
    simp only [Bool.and_eq_true, bne_iff_ne] at h
    exact h.1
  · have h := List.all_eq_true.1 a4 x hx
    unfold openT at h
    simp only [Bool.and_eq_true, decide_eq_true_eq] at h
    omega
  · have h := List.all_eq_true.1 a4 x hx
    unfold openT at h
    simp only [Bool.and_eq_true, decide_eq_true_eq, Bool.or_eq_true, beq_iff_eq] at h
    exact h.1.2
theorem merge_cnt (x y : Int) : mergeD [rwC x] [rwC y] = if x = y then [] else [chgC (rwC x) (rwC y)] := by
  have h1 : ltR (rwC x) (rwC y) = false := rfl
  have h2 : ltR (rwC y) (rwC x) = false := rfl
  rw [merge_cc, h1, h2]
  simp only [Bool.false_eq_true, if_false]
  by_cases h : x = y
  · rw [if_pos (by show [x] = [y]; rw [h]), if_pos h, mergeD]
  · rw [if_neg (by show ¬ [x] = [y]; simpa using h), if_neg h, mergeD]
theorem diff_parts (a b : BookT) : diffT a b = mergeD (a.hs.map rwH) (b.hs.map rwH) ++ (mergeD (a.ss.map rwS) (b.ss.map rwS) ++ (mergeD (a.os.map rwO) (b.os.map rwO) ++ (mergeD (a.rs.map rwR) (b.rs.map rwR) ++ mergeD [rwC a.co] [rwC b.co]))) := by
  have hl : ∀ {f : Item → RowT} {n : Int} {l : List Item}, (∀ x, (f x).l = n) → ∀ r ∈ l.map f, r.l = n := fun h r hr => by obtain ⟨x, _, rfl⟩ := List.mem_map.1 hr; exact h x
  have mm : ∀ {P : RowT → Prop} {A B : List RowT}, (∀ r ∈ A, P r) → (∀ r ∈ B, P r) → ∀ r ∈ A ++ B, P r := fun h1 h2 r hr => (List.mem_append.1 hr).elim (h1 r) (h2 r)
  have c5 : ∀ {n m : Int}, m ≤ 5 → ∀ r ∈ [rwC n], m ≤ r.l := fun h r hr => by obtain rfl := List.mem_singleton.1 hr; exact h
  have e1 : ∀ l : List Item, ∀ r ∈ l.map rwH, r.l = 1 := fun l => hl (fun _ => rfl)
  have e2 : ∀ l : List Item, ∀ r ∈ l.map rwS, r.l = 2 := fun l => hl (fun _ => rfl)
  have e3 : ∀ l : List Item, ∀ r ∈ l.map rwO, r.l = 3 := fun l => hl (fun _ => rfl)
  have e4 : ∀ l : List Item, ∀ r ∈ l.map rwR, r.l = 4 := fun l => hl (fun _ => rfl)
  have t4 : ∀ b : BookT, ∀ r ∈ b.rs.map rwR ++ [rwC b.co], 4 ≤ r.l := fun b => mm (fun r hr => by rw [e4 _ r hr]; decide) (c5 (by decide))
  have t3 : ∀ b : BookT, ∀ r ∈ b.os.map rwO ++ (b.rs.map rwR ++ [rwC b.co]), 3 ≤ r.l := fun b => mm (fun r hr => by rw [e3 _ r hr]; decide) (fun r hr => by have := t4 b r hr; omega)
  have t2 : ∀ b : BookT, ∀ r ∈ b.ss.map rwS ++ (b.os.map rwO ++ (b.rs.map rwR ++ [rwC b.co])), 2 ≤ r.l := fun b => mm (fun r hr => by rw [e2 _ r hr]; decide) (fun r hr => by have := t3 b r hr; omega)
  unfold diffT rowsD
  rw [merge_app _ _ _ _ 2 (fun r hr => by rw [e1 _ r hr]; decide) (fun r hr => by rw [e1 _ r hr]; decide) (t2 a) (t2 b),
    merge_app _ _ _ _ 3 (fun r hr => by rw [e2 _ r hr]; decide) (fun r hr => by rw [e2 _ r hr]; decide) (t3 a) (t3 b),
    merge_app _ _ _ _ 4 (fun r hr => by rw [e3 _ r hr]; decide) (fun r hr => by rw [e3 _ r hr]; decide) (t4 a) (t4 b),
    merge_app _ _ _ _ 5 (fun r hr => by rw [e4 _ r hr]; decide) (fun r hr => by rw [e4 _ r hr]; decide) (c5 (by decide)) (c5 (by decide))]
/-- All changes, set one behind the other. -/
theorem fold_diff {a b : BookT} (ha : MayB a) (hb : MayB b) : (diffT a b).foldl setChT a = b := by
  obtain ⟨ah, as1, ao, ar, ac⟩ := a
  obtain ⟨bh, bs, bo, br, bc⟩ := b
  rw [diff_parts, List.foldl_append, List.foldl_append, List.foldl_append, List.foldl_append]
  dsimp only
  have f1 := fold_hs ah bh ⟨ah, as1, ao, ar, ac⟩ ha.lh hb.lh ha.hs hb.hs
  have f2 := fold_ss as1 bs ⟨bh, as1, ao, ar, ac⟩ ha.ls hb.ls ha.ss hb.ss
  have f3 := fold_os ao bo ⟨bh, bs, ao, ar, ac⟩ ha.lo hb.lo ha.os hb.os
  have f4 := fold_rs ar br ⟨bh, bs, bo, ar, ac⟩ ha.lr hb.lr ha.rs hb.rs
  dsimp only at f1 f2 f3 f4
  rw [f1, f2, f3, f4, merge_cnt]
  by_cases h : ac = bc
  · rw [if_pos h, h]; rfl
  · rw [if_neg h]
    have h0 : 0 ≤ ac := ha.co
    show setChT ⟨bh, bs, bo, br, ac⟩ ⟨5, 0, 0, [ac], [bc]⟩ = _
    unfold setChT
    dsimp only
    rw [if_neg (by decide), if_neg (by decide), if_neg (by decide), if_neg (by decide), if_pos rfl, if_pos h0]
    rfl
theorem map_rise {lt : Item → Item → Bool} {row : Item → RowT} (hord : ∀ x y, ltR (row x) (row y) = lt x y) {l : List Item} (h : Sorted lt l) : RiseR (l.map row) := by
  unfold RiseR
  rw [List.pairwise_map]
  exact h.imp (fun h => by rw [hord]; exact h)
theorem ordH (x y : Item) : ltR (rwH x) (rwH y) = lt1 x y := by
  unfold ltR rwH lt1
  dsimp only
  rw [Bool.eq_iff_iff, lessD_iff, decide_eq_true_eq]; omega
theorem ordO (x y : Item) : ltR (rwO x) (rwO y) = lt1 x y := by
  unfold ltR rwO lt1
  dsimp only
  rw [Bool.eq_iff_iff, lessD_iff, decide_eq_true_eq]; omega
theorem ordR (x y : Item) : ltR (rwR x) (rwR y) = lt1 x y := by
  unfold ltR rwR lt1
  dsimp only
  rw [Bool.eq_iff_iff, lessD_iff, decide_eq_true_eq]; omega
theorem ordS (x y : Item) : ltR (rwS x) (rwS y) = lt2 x y := by
  unfold ltR rwS
  dsimp only
  rw [Bool.eq_iff_iff, lessD_iff, lt2_iff]; omega
/-- A row of a book. -/
def allT (l : Int) : Nat := if l = 1 then 3 else if l = 3 then 5 else 1
structure RowOk (r : RowT) : Prop where
  l1 : 1 ≤ r.l
  l5 : r.l ≤ 5
  v : r.v.length = allT r.l
  sd : r.l = 3 → key 2 r.v = 0 ∨ key 2 r.v = 1
  b : r.l ≠ 2 → r.b = 0
  a : r.l = 5 → r.a = 0
theorem rows_book {b : BookT} (h : MayB b) : RiseR (rowsD b) ∧ (∀ r ∈ rowsD b, RowOk r) ∧ (∃ r ∈ rowsD b, r.l = 5) := by
  have mm : ∀ {P : RowT → Prop} {A B : List RowT}, (∀ r ∈ A, P r) → (∀ r ∈ B, P r) → ∀ r ∈ A ++ B, P r := fun h1 h2 r hr => (List.mem_append.1 hr).elim (h1 r) (h2 r)
  have p1 : ∀ r ∈ b.hs.map rwH, RowOk r ∧ r.l = 1 := fun r hr => by
    obtain ⟨x, _, rfl⟩ := List.mem_map.1 hr
    exact ⟨⟨(show (1 : Int) ≤ 1 by decide), (show (1 : Int) ≤ 5 by decide), rfl, fun h => absurd (show (1 : Int) = 3 from h) (by decide), fun _ => rfl, fun h => absurd (show (1 : Int) = 5 from h) (by decide)⟩, rfl⟩
  have p2 : ∀ r ∈ b.ss.map rwS, RowOk r ∧ r.l = 2 := fun r hr => by
    obtain ⟨x, _, rfl⟩ := List.mem_map.1 hr
    exact ⟨⟨(show (1 : Int) ≤ 2 by decide), (show (2 : Int) ≤ 5 by decide), rfl, fun h => absurd (show (2 : Int) = 3 from h) (by decide), fun h => absurd rfl h, fun h => absurd (show (2 : Int) = 5 from h) (by decide)⟩, rfl⟩
  have p3 : ∀ r ∈ b.os.map rwO, RowOk r ∧ r.l = 3 := fun r hr => by
    obtain ⟨x, hx, rfl⟩ := List.mem_map.1 hr
    exact ⟨⟨(show (1 : Int) ≤ 3 by decide), (show (3 : Int) ≤ 5 by decide), rfl, fun _ => h.sd x hx, fun _ => rfl, fun h => absurd (show (3 : Int) = 5 from h) (by decide)⟩, rfl⟩
  have p4 : ∀ r ∈ b.rs.map rwR, RowOk r ∧ r.l = 4 := fun r hr => by
    obtain ⟨x, _, rfl⟩ := List.mem_map.1 hr
    exact ⟨⟨(show (1 : Int) ≤ 4 by decide), (show (4 : Int) ≤ 5 by decide), rfl, fun h => absurd (show (4 : Int) = 3 from h) (by decide), fun _ => rfl, fun h => absurd (show (4 : Int) = 5 from h) (by decide)⟩, rfl⟩
  have p5 : ∀ r ∈ [rwC b.co], RowOk r ∧ r.l = 5 := fun r hr => by
    obtain rfl := List.mem_singleton.1 hr
    exact ⟨⟨(show (1 : Int) ≤ 5 by decide), (show (5 : Int) ≤ 5 by decide), rfl, fun h => absurd (show (5 : Int) = 3 from h) (by decide), fun _ => rfl, fun _ => rfl⟩, rfl⟩
  have app : ∀ {A B : List RowT} {n : Int}, RiseR A → RiseR B → (∀ r ∈ A, r.l = n) → (∀ r ∈ B, n < r.l) → RiseR (A ++ B) := fun h1 h2 h3 h4 => List.pairwise_append.2 ⟨h1, h2, fun x hx y hy => ltR_iff.2 (.inl (by rw [h3 x hx]; exact h4 y hy))⟩
  have r5 : RiseR [rwC b.co] := List.pairwise_singleton _ _
  have q4 : ∀ r ∈ b.rs.map rwR ++ [rwC b.co], 3 < r.l := mm (fun r hr => by rw [(p4 r hr).2]; decide) (fun r hr => by rw [(p5 r hr).2]; decide)
  have q3 : ∀ r ∈ b.os.map rwO ++ (b.rs.map rwR ++ [rwC b.co]), 2 < r.l := mm (fun r hr => by rw [(p3 r hr).2]; decide) (fun r hr => by have := q4 r hr; omega)
  have q2 : ∀ r ∈ b.ss.map rwS ++ (b.os.map rwO ++ (b.rs.map rwR ++ [rwC b.co])), 1 < r.l := mm (fun r hr => by rw [(p2 r hr).2]; decide) (fun r hr => by have := q3 r hr; omega)
  have r4 := app (map_rise ordR h.rs) r5 (fun r hr => (p4 r hr).2) (fun r hr => by rw [(p5 r hr).2]; decide)
  have r3 := app (map_rise ordO h.os) r4 (fun r hr => (p3 r hr).2) q4
  have r2 := app (map_rise ordS h.ss) r3 (fun r hr => (p2 r hr).2) q3
  refine ⟨app (map_rise ordH h.hs) r2 (fun r hr => (p1 r hr).2) q2, ?_, rwC b.co, ?_, rfl⟩
  · exact mm (fun r hr => (p1 r hr).1) (mm (fun r hr => (p2 r hr).1) (mm (fun r hr => (p3 r hr).1) (mm (fun r hr => (p4 r hr).1) (fun r hr => (p5 r hr).1))))
  · unfold rowsD; simp
/-- What a key has. -/
def isKey (c : ChT) (r : RowT) : Bool := (r.l == c.l) && (r.a == c.a) && (r.b == c.b)
def valueT (rows : List RowT) (c : ChT) : List Int := match rows.find? (isKey c) with | some r => r.v | none => []
theorem isKey_iff {c : ChT} {r : RowT} : isKey c r = true ↔ keyR c r := by
  unfold isKey keyR
  simp only [Bool.and_eq_true, beq_iff_eq]
  exact ⟨fun h => ⟨h.1.1.symm, h.1.2.symm, h.2.symm⟩, fun h => ⟨⟨h.1.symm, h.2.1.symm⟩, h.2.2.symm⟩⟩
theorem value_mem {c : ChT} {r : RowT} (hk : keyR c r) : ∀ {rows : List RowT}, RiseR rows → r ∈ rows → valueT rows c = r.v
  | [], _, hm => by cases hm
  | x :: xs, hr, hm => by
    have hp := List.pairwise_cons.1 hr
    unfold valueT
    rw [List.find?_cons]
    cases hx : isKey c x with
    | true =>
      rcases List.mem_cons.1 hm with rfl | hm
      · rfl
      · exact absurd hk (keyR_lt (isKey_iff.1 hx) (hp.1 r hm))
    | false =>
      rcases List.mem_cons.1 hm with rfl | hm
      · rw [isKey_iff.2 hk] at hx; cases hx
      · exact value_mem hk hp.2 hm
theorem value_none {c : ChT} {rows : List RowT} (h : ∀ r ∈ rows, ¬ keyR c r) : valueT rows c = [] := by
  unfold valueT
  rw [List.find?_eq_none.2 (fun r hr => by rw [isKey_iff]; exact h r hr)]
/-- What a change says was there, was. -/
theorem diff_value {a b : BookT} (ha : MayB a) (hb : MayB b) : ∀ c ∈ diffT a b, valueT (rowsD a) c = c.was ∧ c.was ≠ c.now ∧ ChIs (rowsD a) (rowsD b) c := by
  obtain ⟨ra, oa, _⟩ := rows_book ha
  obtain ⟨rb, ob, _⟩ := rows_book hb
  have nz : ∀ {r : RowT}, RowOk r → r.v ≠ [] := fun h e => by
    have := h.v
    rw [e] at this
    unfold allT at this
    split at this
    · cases this
    · split at this <;> cases this
  intro c hc
  obtain ⟨h1, h2⟩ := merge_mem _ _ ra rb (fun r hr => nz (oa r hr)) (fun r hr => nz (ob r hr)) c hc
  refine ⟨?_, h2, h1⟩
  rcases h1.was with ⟨r, hr, hk, hv⟩ | ⟨hv, hn⟩
  · rw [value_mem hk ra hr, hv]
  · rw [value_none hn, hv]
/-- Changes that may be. -/
def valuesT (l : Int) (v : List Int) : Bool := if v = [] then l != 5 else (v.length == allT l) && (l != 3 || key 2 v == 0 || key 2 v == 1)
def mayOne (c : ChT) : Bool := decide (1 ≤ c.l) && decide (c.l ≤ 5) && valuesT c.l c.was && valuesT c.l c.now && (c.was != c.now) && (c.l == 2 || c.b == 0) && (c.l != 5 || c.a == 0)
def ltC (x y : ChT) : Bool := lessD x.l x.a x.b y.l y.a y.b
def riseC : List ChT → Bool
  | x :: y :: r => ltC x y && riseC (y :: r)
  | _ => true
def mayCh (l : List ChT) : Bool := l.all mayOne && riseC l
theorem row_values {r : RowT} (h : RowOk r) : valuesT r.l r.v = true := by
  have hv := h.v
  unfold valuesT
  by_cases e : r.v = []
  · rw [e] at hv
    unfold allT at hv
    split at hv
    · cases hv
    · split at hv <;> cases hv
  · rw [if_neg e, hv]
    by_cases h3 : r.l = 3
    · rcases h.sd h3 with h | h <;> simp [h]
    · simp [h3]
theorem diff_one {a b : BookT} (ha : MayB a) (hb : MayB b) : ∀ c ∈ diffT a b, mayOne c = true := by
  obtain ⟨ra, oa, xa, hxa, h5a⟩ := rows_book ha
  obtain ⟨rb, ob, xb, hxb, h5b⟩ := rows_book hb
  intro c hc
  obtain ⟨_, hne, hi⟩ := diff_value ha hb c hc
  obtain ⟨r, hr, hk⟩ : ∃ r, RowOk r ∧ keyR c r := by
    rcases hi.some with ⟨r, hr, hk⟩ | ⟨r, hr, hk⟩
    · exact ⟨r, oa r hr, hk⟩
    · exact ⟨r, ob r hr, hk⟩
  have no5 : ∀ {x : RowT}, RowOk x → x.l = 5 → c.l = 5 → keyR c x := fun hx h5 hc5 => by
    have h1 := hr.b (by rw [← hk.1, hc5]; decide)
    have h2 := hr.a (by rw [← hk.1, hc5])
    exact ⟨hc5.trans h5.symm, by rw [hk.2.1, h2, hx.a h5], by rw [hk.2.2, h1, hx.b (by rw [h5]; decide)]⟩
  have vw : valuesT c.l c.was = true := by
    rcases hi.was with ⟨x, hx, hkx, hv⟩ | ⟨hv, hn⟩
    · rw [hv, hkx.1]; exact row_values (oa x hx)
    · rw [hv]
      unfold valuesT
      rw [if_pos rfl]
      by_cases h5 : c.l = 5
      · exact absurd (no5 (oa xa hxa) h5a h5) (hn xa hxa)
      · simpa using h5
  have vn : valuesT c.l c.now = true := by
    rcases hi.now with ⟨x, hx, hkx, hv⟩ | ⟨hv, hn⟩
    · rw [hv, hkx.1]; exact row_values (ob x hx)
    · rw [hv]
      unfold valuesT
      rw [if_pos rfl]
      by_cases h5 : c.l = 5
      · exact absurd (no5 (ob xb hxb) h5b h5) (hn xb hxb)
      · simpa using h5
  have b1 := hr.l1
  have b2 := hr.l5
  have b3 := hr.b
  have b4 := hr.a
  obtain ⟨k1, k2, k3⟩ := hk
  unfold mayOne
  rw [vw, vn]
  simp only [Bool.and_eq_true, Bool.or_eq_true, decide_eq_true_eq, bne_iff_ne, beq_iff_eq, Bool.and_true]
  refine ⟨⟨⟨⟨by omega, by omega⟩, hne⟩, ?_⟩, ?_⟩
  · by_cases h2 : c.l = 2
    · exact .inl h2
    · exact .inr (by rw [k3]; exact b3 (by rw [← k1]; exact h2))
  · by_cases h5 : c.l = 5
    · exact .inr (by rw [k2]; exact b4 (by rw [← k1]; exact h5))
    · exact .inl h5
/-- Changes rise. -/
theorem ltC_of {c d : ChT} {x y : RowT} (h1 : keyR c x) (h2 : keyR d y) (h : ltR x y = true) : ltC c d = true := by
  obtain ⟨a1, a2, a3⟩ := h1
  obtain ⟨b1, b2, b3⟩ := h2
  unfold ltC
  rw [a1, a2, a3, b1, b2, b3]
  exact h
theorem merge_pair : ∀ (xs ys : List RowT), RiseR xs → RiseR ys → (∀ x ∈ xs, x.v ≠ []) → (∀ y ∈ ys, y.v ≠ []) → (mergeD xs ys).Pairwise (fun c d => ltC c d = true)
  | [], [], _, _, _, _ => by rw [mergeD]; exact List.Pairwise.nil
  | x :: xs, [], h1, h2, v1, v2 => by
    have hp := List.pairwise_cons.1 h1
    have w1 : ∀ z ∈ xs, z.v ≠ [] := fun z hz => v1 z (List.mem_cons_of_mem _ hz)
    rw [merge_cn]
    refine List.pairwise_cons.2 ⟨fun d hd => ?_, merge_pair xs [] hp.2 h2 w1 v2⟩
    rcases (merge_mem xs [] hp.2 h2 w1 v2 d hd).1.some with ⟨z, hz, hk⟩ | ⟨z, hz, _⟩
    · exact ltC_of (x := x) ⟨rfl, rfl, rfl⟩ hk (hp.1 z hz)
    · cases hz
  | [], y :: ys, h1, h2, v1, v2 => by
    have hq := List.pairwise_cons.1 h2
    have w2 : ∀ z ∈ ys, z.v ≠ [] := fun z hz => v2 z (List.mem_cons_of_mem _ hz)
    rw [merge_nc]
    refine List.pairwise_cons.2 ⟨fun d hd => ?_, merge_pair [] ys h1 hq.2 v1 w2⟩
    rcases (merge_mem [] ys h1 hq.2 v1 w2 d hd).1.some with ⟨z, hz, _⟩ | ⟨z, hz, hk⟩
    · cases hz
    · exact ltC_of (x := y) ⟨rfl, rfl, rfl⟩ hk (hq.1 z hz)
  | x :: xs, y :: ys, h1, h2, v1, v2 => by
    have hp := List.pairwise_cons.1 h1
    have hq := List.pairwise_cons.1 h2
    have w1 : ∀ z ∈ xs, z.v ≠ [] := fun z hz => v1 z (List.mem_cons_of_mem _ hz)
    have w2 : ∀ z ∈ ys, z.v ≠ [] := fun z hz => v2 z (List.mem_cons_of_mem _ hz)
    rw [merge_cc]
    cases e1 : ltR x y with
    | true =>
      simp only [if_true]
      refine List.pairwise_cons.2 ⟨fun d hd => ?_, merge_pair xs (y :: ys) hp.2 h2 w1 v2⟩
      rcases (merge_mem xs (y :: ys) hp.2 h2 w1 v2 d hd).1.some with ⟨z, hz, hk⟩ | ⟨z, hz, hk⟩
      · exact ltC_of (x := x) ⟨rfl, rfl, rfl⟩ hk (hp.1 z hz)
      · exact ltC_of (x := x) ⟨rfl, rfl, rfl⟩ hk ((List.mem_cons.1 hz).elim (fun e => by rw [e]; exact e1) (fun hz => ltR_trans e1 (hq.1 z hz)))
    | false =>
      cases e2 : ltR y x with
      | true =>
        simp only [if_true, Bool.false_eq_true, if_false]
        refine List.pairwise_cons.2 ⟨fun d hd => ?_, merge_pair (x :: xs) ys h1 hq.2 v1 w2⟩
        rcases (merge_mem (x :: xs) ys h1 hq.2 v1 w2 d hd).1.some with ⟨z, hz, hk⟩ | ⟨z, hz, hk⟩
        · exact ltC_of (x := y) ⟨rfl, rfl, rfl⟩ hk ((List.mem_cons.1 hz).elim (fun e => by rw [e]; exact e2) (fun hz => ltR_trans e2 (hp.1 z hz)))
        · exact ltC_of (x := y) ⟨rfl, rfl, rfl⟩ hk (hq.1 z hz)
      | false =>
        simp only [Bool.false_eq_true, if_false]
        have hk0 := ltR_tri e1 e2
        by_cases hv : x.v = y.v
        · rw [if_pos hv]
          exact merge_pair xs ys hp.2 hq.2 w1 w2
        · rw [if_neg hv]
          refine List.pairwise_cons.2 ⟨fun d hd => ?_, merge_pair xs ys hp.2 hq.2 w1 w2⟩
          rcases (merge_mem xs ys hp.2 hq.2 w1 w2 d hd).1.some with ⟨z, hz, hk⟩ | ⟨z, hz, hk⟩
          · exact ltC_of (x := x) ⟨rfl, rfl, rfl⟩ hk (hp.1 z hz)
          · exact ltC_of (x := x) ⟨rfl, rfl, rfl⟩ hk (key_ltR hk0 (hq.1 z hz))
  termination_by xs ys => xs.length + ys.length
theorem rise_pair : ∀ {l : List ChT}, l.Pairwise (fun c d => ltC c d = true) → riseC l = true
  | [], _ => rfl
  | [_], _ => rfl
  | x :: y :: r, h => by
    have hp := List.pairwise_cons.1 h
    show (ltC x y && riseC (y :: r)) = true
    rw [hp.1 y (List.mem_cons_self ..), rise_pair hp.2]; rfl
/-- The diff may be. -/
theorem diff_may {a b : BookT} (ha : MayB a) (hb : MayB b) : mayCh (diffT a b) = true := by
  obtain ⟨ra, oa, _⟩ := rows_book ha
  obtain ⟨rb, ob, _⟩ := rows_book hb
  have nz : ∀ {r : RowT}, RowOk r → r.v ≠ [] := fun h e => by
    have := h.v
    rw [e] at this
    unfold allT at this
    split at this
    · cases this
    · split at this <;> cases this
  have hr : riseC (diffT a b) = true := rise_pair (merge_pair _ _ ra rb (fun r hr => nz (oa r hr)) (fun r hr => nz (ob r hr)))
  unfold mayCh
  rw [List.all_eq_true.2 (diff_one ha hb), hr]; rfl
/-- A book, patched. -/
def patchGo (rows : List RowT) : BookT → List ChT → Option BookT
  | b, [] => some b
  | b, c :: cs => if valueT rows c = c.was then patchGo rows (setChT b c) cs else none
theorem patch_go {rows : List RowT} : ∀ {l : List ChT} {b : BookT}, (∀ c ∈ l, valueT rows c = c.was) → patchGo rows b l = some (l.foldl setChT b)
  | [], b, _ => rfl
  | c :: cs, b, h => by
    unfold patchGo
    rw [if_pos (h c (List.mem_cons_self ..)), List.foldl_cons]
    exact patch_go (fun d hd => h d (List.mem_cons_of_mem _ hd))
def zeroD : BookT := ⟨[], [], [], [], 0⟩
/-- The document's Patch, of a book and changes that may be; the program's, of any. -/
def refPatch (a : BookT) (l : List ChT) : BookT × Int := match patchGo (rowsD a) a l with | none => (zeroD, 7) | some b => if mayT b then (b, 0) else (zeroD, 1)
def patchT (a : BookT) (l : List ChT) : BookT × Int := if mayT a = false then (zeroD, 1) else if mayCh l = false then (zeroD, 3) else refPatch a l
theorem patch_diff {m : Nat} {a b : BookT} (ha : mayT a = true) (hb : mayT b = true) (ka : BookOk m a) (kb : BookOk m b) : patchT a (diffT a b) = (b, 0) := by
  have MA := mayB ha ka
  have MB := mayB hb kb
  unfold patchT
  rw [ha, diff_may MA MB]
  unfold refPatch
  rw [patch_go (fun c hc => (diff_value MA MB c hc).1), fold_diff MA MB]
  simp [hb]
theorem diff_turn (a b : BookT) : diffT b a = turnT (diffT a b) := merge_turn _ _
theorem sameT_iff {a b : BookT} : sameT a b = true ↔ a = b := by
  obtain ⟨ah, as1, ao, ar, ac⟩ := a
  obtain ⟨bh, bs, bo, br, bc⟩ := b
  unfold sameT
  simp only [Bool.and_eq_true, beq_iff_eq, BookT.mk.injEq]
  exact ⟨fun h => ⟨h.1.1.1.1, h.1.1.1.2, h.1.1.2, h.1.2, h.2⟩, fun h => ⟨⟨⟨⟨h.1, h.2.1⟩, h.2.2.1⟩, h.2.2.2.1⟩, h.2.2.2.2⟩⟩
theorem diff_none {a b : BookT} (ha : MayB a) (hb : MayB b) : diffT a b = [] ↔ sameT a b = true := by
  rw [sameT_iff]
  refine ⟨fun h => ?_, fun h => ?_⟩
  · have h1 := fold_diff ha hb
    rw [h] at h1
    exact h1
  · subst h
    exact (merge_none _ _).2 rfl
theorem turn_turn (l : List ChT) : turnT (turnT l) = l := by
  unfold turnT
  rw [List.map_map]
  exact List.map_id'' (fun c => rfl) l
end Go.Proofs.Ytellifcjamedkaa
