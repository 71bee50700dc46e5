/- Books as bytes, column by column; plain. -/
import Derived.Test.YtnhljfhpfpfniaaGreatClMath
import Derived.Test.YtnhljfhpfpfniaaGreatBkMath
namespace Go.Proofs.YtnhljfhpfpfniaaGreat
open Go.RowKit Base Base2

def colT (j : Nat) (l : List Item) : List Int := l.map (key j)
def colsT (b : BookT) : List (List Int) := [colT 0 b.hs, colT 1 b.hs, colT 2 b.hs, colT 3 b.hs, colT 0 b.ss, colT 1 b.ss, colT 2 b.ss, colT 0 b.os, colT 1 b.os, colT 2 b.os, colT 3 b.os, colT 4 b.os, colT 5 b.os, colT 0 b.rs, colT 1 b.rs]
def mostT : List Nat := [32, 32, 32, 32, 1024, 1024, 1024, 64, 64, 64, 64, 64, 64, 32, 32]
def putCols (cs : List (List Int)) : List UInt8 := (cs.map putL).flatten
def snapL (b : BookT) : List UInt8 := M.enc b.co.toNat ++ putCols (colsT b)
def getCols : List Nat → List UInt8 → List (List Int) × List UInt8 × Int
  | [], s => ([], s, 0)
  | m :: ms, s =>
    if (getS s m).2.2 ≠ 0 then ([], [], (getS s m).2.2)
    else if (getCols ms (s.drop (getS s m).2.1)).2.2 ≠ 0 then ([], [], (getCols ms (s.drop (getS s m).2.1)).2.2)
    else ((getS s m).1 :: (getCols ms (s.drop (getS s m).2.1)).1, (getCols ms (s.drop (getS s m).2.1)).2.1, 0)
theorem getCols_put : ∀ (ms : List Nat) (cs : List (List Int)), cs.length = ms.length → (∀ (i : Nat) (c : List Int) (m : Nat), cs[i]? = some c → ms[i]? = some m → c.length ≤ m ∧ m < 18446744073709551616 ∧ ∀ x ∈ c, in64 x) → ∀ R, getCols ms (putCols cs ++ R) = (cs, R, 0)
  | [], cs, hl, _, R => by
    have : cs = [] := List.eq_nil_of_length_eq_zero hl
    subst this
    rfl
  | m :: ms, [], hl, _, _ => by simp at hl
  | m :: ms, c :: cs, hl, h, R => by
    obtain ⟨h1, h2, h3⟩ := h 0 c m rfl rfl
    have hg := get_put h3 h1 (by omega) (putCols cs ++ R)
    have e : putCols (c :: cs) ++ R = putL c ++ (putCols cs ++ R) := by simp [putCols]
    have ih := getCols_put ms cs (by simpa using hl) (fun i c' m' hc hm => h (i + 1) c' m' (by simpa using hc) (by simpa using hm)) R
    rw [e]
    unfold getCols
    rw [hg]
    simp only [ne_eq, not_true_eq_false, if_false, List.drop_left]
    rw [ih]
    simp
theorem getCols_one : ∀ (ms : List Nat) (s : List UInt8) (cs : List (List Int)) (t : List UInt8), getCols ms s = (cs, t, 0) → cs.length = ms.length ∧ putCols cs ++ t = s ∧ ∀ (i : Nat) (c : List Int) (m : Nat), cs[i]? = some c → ms[i]? = some m → c.length ≤ m ∧ ∀ x ∈ c, in64 x
  | [], s, cs, t, h => by
    unfold getCols at h
    simp only [Prod.mk.injEq] at h
    obtain ⟨rfl, rfl, _⟩ := h
    exact ⟨rfl, rfl, fun i c m hc => by simp at hc⟩
  | m :: ms, s, cs, t, h => by
    obtain ⟨⟨l, k, e⟩, hg⟩ : ∃ g, getS s m = g := ⟨_, rfl⟩
    obtain ⟨⟨ls, u, f⟩, hr⟩ : ∃ g, getCols ms (s.drop k) = g := ⟨_, rfl⟩
    unfold getCols at h
    rw [hg] at h
    dsimp only at h
    rw [hr] at h
    dsimp only at h
    by_cases he : e = 0
    · by_cases hf : f = 0
      · subst he hf
        simp only [ne_eq, not_true_eq_false, if_false, Prod.mk.injEq] at h
        obtain ⟨rfl, rfl, _⟩ := h
        obtain ⟨p1, p2, p3, p4⟩ := put_get hg
        obtain ⟨i1, i2, i3⟩ := getCols_one ms _ ls u hr
        refine ⟨by simp [i1], ?_, fun i c m' hc hm => ?_⟩
        · have : putCols (l :: ls) ++ u = putL l ++ (putCols ls ++ u) := by simp [putCols]
          rw [this, i2, p1, List.take_append_drop]
        · cases i with
          | zero =>
            simp at hc hm
            subst hc hm
            exact ⟨p3, p4⟩
          | succ i => exact i3 i c m' (by simpa using hc) (by simpa using hm)
      · rw [if_neg (by simp [he]), if_pos hf] at h
        simp only [Prod.mk.injEq] at h
        exact absurd h.2.2 hf
    · rw [if_pos he] at h
      simp only [Prod.mk.injEq] at h
      exact absurd h.2.2 he
/-- Things of columns. -/
def rowsT (cs : List (List Int)) : List Item := (List.range (cs.getD 0 []).length).map (fun i => cs.map (fun c => c.getD i 0))
def bookOf (cs : List (List Int)) (n : Nat) : BookT := ⟨rowsT (cs.take 4), rowsT ((cs.drop 4).take 3), rowsT ((cs.drop 7).take 6), rowsT (cs.drop 13), n⟩
def lenAs (cs : List (List Int)) : Bool := cs.all (fun c => c.length == (cs.getD 0 []).length)
def lensT (cs : List (List Int)) : Bool := lenAs (cs.take 4) && lenAs ((cs.drop 4).take 3) && lenAs ((cs.drop 7).take 6) && lenAs (cs.drop 13)
def zeroB : BookT := ⟨[], [], [], [], 0⟩
def getSnap (s : List UInt8) : BookT × Int :=
  if (numM s 1099511627776).2.2 ≠ 0 then (zeroB, (numM s 1099511627776).2.2)
  else if (getCols mostT (s.drop (numM s 1099511627776).2.1)).2.2 ≠ 0 then (zeroB, (getCols mostT (s.drop (numM s 1099511627776).2.1)).2.2)
  else if (getCols mostT (s.drop (numM s 1099511627776).2.1)).2.1 ≠ [] then (zeroB, 3)
  else if lensT (getCols mostT (s.drop (numM s 1099511627776).2.1)).1 = false then (zeroB, 3)
  else if mayT (bookOf (getCols mostT (s.drop (numM s 1099511627776).2.1)).1 (numM s 1099511627776).1) = false then (zeroB, 3)
  else (bookOf (getCols mostT (s.drop (numM s 1099511627776).2.1)).1 (numM s 1099511627776).1, 0)
theorem rowsT_of {k : Nat} {l : List Item} (hk : ∀ x ∈ l, x.length = k) (h0 : 0 < k) : rowsT ((List.range k).map (fun j => colT j l)) = l := by
  unfold rowsT
  have e0 : ((List.range k).map (fun j => colT j l)).getD 0 [] = colT 0 l := by
    rw [List.getD_eq_getElem?_getD, List.getElem?_map, List.getElem?_range h0]; rfl
  rw [e0]
  have hl : (colT 0 l).length = l.length := by simp [colT]
  rw [hl]
  apply List.ext_getElem?
  intro i
  rw [List.getElem?_map]
  by_cases hi : i < l.length
  · rw [List.getElem?_range hi]
    have hx : l[i]? = some l[i] := by simp [hi]
    rw [hx]
    simp only [Option.map_some]
    congr 1
    rw [List.map_map]
    apply List.ext_getElem?
    intro j
    rw [List.getElem?_map]
    have hlk := hk l[i] (List.getElem_mem hi)
    by_cases hj : j < k
    · rw [List.getElem?_range hj]
      have hxj : (l[i])[j]? = some ((l[i])[j]'(by omega)) := by simp [hlk, hj]
      rw [hxj]
      simp [colT, key, hi, hlk, hj]
    · rw [List.getElem?_eq_none (by simpa using hj), List.getElem?_eq_none (by omega)]; rfl
  · rw [List.getElem?_eq_none (by simpa using hi), List.getElem?_eq_none (by omega)]; rfl
theorem lenAs_of {k : Nat} {l : List Item} (h0 : 0 < k) : lenAs ((List.range k).map (fun j => colT j l)) = true := by
  unfold lenAs
  have e0 : ((List.range k).map (fun j => colT j l)).getD 0 [] = colT 0 l := by
    rw [List.getD_eq_getElem?_getD, List.getElem?_map, List.getElem?_range h0]; rfl
  rw [e0, List.all_eq_true]
  intro c hc
  obtain ⟨j, _, rfl⟩ := List.mem_map.1 hc
  simp [colT]
theorem cols_parts (b : BookT) : (colsT b).take 4 = (List.range 4).map (fun j => colT j b.hs) ∧ ((colsT b).drop 4).take 3 = (List.range 3).map (fun j => colT j b.ss) ∧ ((colsT b).drop 7).take 6 = (List.range 6).map (fun j => colT j b.os) ∧ (colsT b).drop 13 = (List.range 2).map (fun j => colT j b.rs) := ⟨rfl, rfl, rfl, rfl⟩
theorem bookOf_cols {m : Nat} {b : BookT} (h : BookOk m b) (hc : 0 ≤ b.co) : bookOf (colsT b) b.co.toNat = b := by
  obtain ⟨p1, p2, p3, p4⟩ := cols_parts b
  unfold bookOf
  rw [p1, p2, p3, p4, rowsT_of (fun x hx => (h.hs.2 x hx).1) (by decide), rowsT_of (fun x hx => (h.ss.2 x hx).1) (by decide), rowsT_of (fun x hx => (h.os.2 x hx).1) (by decide), rowsT_of (fun x hx => (h.rs.2 x hx).1) (by decide), Int.toNat_of_nonneg hc]
theorem lensT_cols (b : BookT) : lensT (colsT b) = true := by
  obtain ⟨p1, p2, p3, p4⟩ := cols_parts b
  unfold lensT
  rw [p1, p2, p3, p4, lenAs_of (by decide), lenAs_of (by decide), lenAs_of (by decide), lenAs_of (by decide)]; rfl
theorem colT_in {l : List Item} (h : ∀ x ∈ l, ∀ z ∈ x, in6 z) (j : Nat) : ∀ z ∈ colT j l, in64 z := by
  intro z hz
  obtain ⟨x, hx, rfl⟩ := List.mem_map.1 hz
  unfold key
  rw [List.getD_eq_getElem?_getD]
  cases hj : x[j]? with
  | none => exact ⟨by decide, by decide⟩
  | some y => exact h x hx y (List.mem_of_getElem? hj)
/-- What a book that may be has. -/
structure SnOk (b : BookT) : Prop where
  may : mayT b = true
  ok : BookOk 1024 b
theorem SnOk.sizes {b : BookT} (h : SnOk b) : b.hs.length ≤ 32 ∧ b.os.length ≤ 64 ∧ b.rs.length ≤ 32 ∧ 0 ≤ b.co ∧ b.co ≤ 1099511627776 := by
  have h := h.may
  unfold mayT sizesT at h
  simp only [Bool.and_eq_true, decide_eq_true_eq] at h
  obtain ⟨⟨⟨⟨⟨_, ⟨⟨⟨h1, h2⟩, h3⟩, h4⟩, h5⟩, _⟩, _⟩, _⟩, _⟩ := h
  exact ⟨h1, h2, h3, h4, h5⟩
theorem cols_ok {b : BookT} (h : SnOk b) : ∀ (i : Nat) (c : List Int) (m : Nat), (colsT b)[i]? = some c → mostT[i]? = some m → c.length ≤ m ∧ m < 18446744073709551616 ∧ ∀ x ∈ c, in64 x := by
  obtain ⟨z1, z2, z3, _, _⟩ := h.sizes
  have z4 := h.ok.ss.1
  have a1 := colT_in (l := b.hs) (fun x hx => (h.ok.hs.2 x hx).2)
  have a2 := colT_in (l := b.ss) (fun x hx => (h.ok.ss.2 x hx).2)
  have a3 := colT_in (l := b.os) (fun x hx => (h.ok.os.2 x hx).2)
  have a4 := colT_in (l := b.rs) (fun x hx => (h.ok.rs.2 x hx).2)
  have ln : ∀ j (l : List Item), (colT j l).length = l.length := fun j l => by simp [colT]
  intro i c m hc hm
  have hi : i < 15 := by have := (List.getElem?_eq_some_iff.1 hm).1; simpa [mostT] using this
  have key2 : ∀ {j : Nat} {l : List Item} {q : Nat}, c = colT j l → m = q → l.length ≤ q → q < 18446744073709551616 → (∀ j, ∀ z ∈ colT j l, in64 z) → c.length ≤ m ∧ m < 18446744073709551616 ∧ ∀ x ∈ c, in64 x := by
    rintro j l q rfl rfl h1 h2 h3
    exact ⟨by rw [ln]; exact h1, h2, h3 j⟩
  match i, hi, hc, hm with
  | 0, _, hc, hm => exact key2 (Option.some.inj hc).symm (Option.some.inj hm).symm z1 (by decide) a1
  | 1, _, hc, hm => exact key2 (Option.some.inj hc).symm (Option.some.inj hm).symm z1 (by decide) a1
  | 2, _, hc, hm => exact key2 (Option.some.inj hc).symm (Option.some.inj hm).symm z1 (by decide) a1
  | 3, _, hc, hm => exact key2 (Option.some.inj hc).symm (Option.some.inj hm).symm z1 (by decide) a1
  | 4, _, hc, hm => exact key2 (Option.some.inj hc).symm (Option.some.inj hm).symm z4 (by decide) a2
  | 5, _, hc, hm => exact key2 (Option.some.inj hc).symm (Option.some.inj hm).symm z4 (by decide) a2
  | 6, _, hc, hm => exact key2 (Option.some.inj hc).symm (Option.some.inj hm).symm z4 (by decide) a2
  | 7, _, hc, hm => exact key2 (Option.some.inj hc).symm (Option.some.inj hm).symm z2 (by decide) a3
  | 8, _, hc, hm => exact key2 (Option.some.inj hc).symm (Option.some.inj hm).symm z2 (by decide) a3
  | 9, _, hc, hm => exact key2 (Option.some.inj hc).symm (Option.some.inj hm).symm z2 (by decide) a3
  | 10, _, hc, hm => exact key2 (Option.some.inj hc).symm (Option.some.inj hm).symm z2 (by decide) a3
  | 11, _, hc, hm => exact key2 (Option.some.inj hc).symm (Option.some.inj hm).symm z2 (by decide) a3
  | 12, _, hc, hm => exact key2 (Option.some.inj hc).symm (Option.some.inj hm).symm z2 (by decide) a3
  | 13, _, hc, hm => exact key2 (Option.some.inj hc).symm (Option.some.inj hm).symm z3 (by decide) a4
  | 14, _, hc, hm => exact key2 (Option.some.inj hc).symm (Option.some.inj hm).symm z3 (by decide) a4
  | i + 15, hi, _, _ => omega
theorem snap_get {b : BookT} (h : SnOk b) (R : List UInt8) : getSnap (snapL b ++ R) = if R = [] then (b, 0) else (zeroB, 3) := by
  obtain ⟨_, _, _, z4, z5⟩ := h.sizes
  have e1 : snapL b ++ R = M.enc b.co.toNat ++ (putCols (colsT b) ++ R) := by simp [snapL]
  have hn := numM_enc (n := b.co.toNat) (m := 1099511627776) (by omega) (by omega) (putCols (colsT b) ++ R)
  have hg := getCols_put mostT (colsT b) rfl (cols_ok h) R
  unfold getSnap
  rw [e1, hn]
  simp only [ne_eq, not_true_eq_false, if_false, List.drop_left]
  rw [hg]
  simp only [not_true_eq_false, if_false]
  rw [lensT_cols, bookOf_cols h.ok z4, h.may]
  by_cases hR : R = []
  · simp [hR]
  · simp [hR]
theorem colT_rows {cs : List (List Int)} {j : Nat} {c : List Int} (hl : lenAs cs = true) (hc : cs[j]? = some c) : colT j (rowsT cs) = c := by
  have hcl : c.length = (cs.getD 0 []).length := by
    have := List.all_eq_true.1 hl c (List.mem_of_getElem? hc)
    simpa using this
  unfold colT rowsT
  rw [← hcl, List.map_map]
  apply List.ext_getElem?
  intro i
  rw [List.getElem?_map]
  by_cases hi : i < c.length
  · rw [List.getElem?_range hi]
    simp only [Option.map_some, Function.comp, key]
    rw [List.getD_eq_getElem?_getD, List.getElem?_map, hc]
    simp [hi]
  · rw [List.getElem?_eq_none (by simpa using hi), List.getElem?_eq_none (by omega)]; rfl
theorem cols_book {cs : List (List Int)} (h15 : cs.length = 15) (hl : lensT cs = true) (n : Nat) : colsT (bookOf cs n) = cs := by
  unfold lensT at hl
  simp only [Bool.and_eq_true] at hl
  obtain ⟨⟨⟨l1, l2⟩, l3⟩, l4⟩ := hl
  match cs, h15 with
  | [c0, c1, c2, c3, c4, c5, c6, c7, c8, c9, c10, c11, c12, c13, c14], _ =>
    have e1 := fun j c hc => colT_rows (j := j) (c := c) l1 hc
    have e2 := fun j c hc => colT_rows (j := j) (c := c) l2 hc
    have e3 := fun j c hc => colT_rows (j := j) (c := c) l3 hc
    have e4 := fun j c hc => colT_rows (j := j) (c := c) l4 hc
    unfold colsT bookOf
    dsimp only
    rw [e1 0 c0 rfl, e1 1 c1 rfl, e1 2 c2 rfl, e1 3 c3 rfl, e2 0 c4 rfl, e2 1 c5 rfl, e2 2 c6 rfl, e3 0 c7 rfl, e3 1 c8 rfl, e3 2 c9 rfl, e3 3 c10 rfl, e3 4 c11 rfl, e3 5 c12 rfl, e4 0 c13 rfl, e4 1 c14 rfl]
theorem rows_ok {cs : List (List Int)} {m : Nat} (hm : ∀ c ∈ cs, c.length ≤ m ∧ ∀ x ∈ c, in64 x) : ItemsOk cs.length m (rowsT cs) := by
  refine ⟨?_, fun x hx => ?_⟩
  · unfold rowsT
    rw [List.length_map, List.length_range]
    cases cs with
    | nil => exact Nat.zero_le _
    | cons c r => exact (hm c (List.mem_cons_self ..)).1
  · obtain ⟨i, _, rfl⟩ := List.mem_map.1 hx
    refine ⟨by simp, fun z hz => ?_⟩
    obtain ⟨c, hc, rfl⟩ := List.mem_map.1 hz
    rw [List.getD_eq_getElem?_getD]
    cases hj : c[i]? with
    | none => exact ⟨by decide, by decide⟩
    | some y => exact (hm c hc).2 y (List.mem_of_getElem? hj)
theorem snap_one {s : List UInt8} {b : BookT} (h : getSnap s = (b, 0)) : snapL b = s ∧ SnOk b := by
  obtain ⟨⟨n, P, e⟩, hn⟩ : ∃ g, numM s 1099511627776 = g := ⟨_, rfl⟩
  obtain ⟨⟨cs, t, f⟩, hg⟩ : ∃ g, getCols mostT (s.drop P) = g := ⟨_, rfl⟩
  unfold getSnap at h
  rw [hn] at h
  dsimp only at h
  rw [hg] at h
  dsimp only at h
  by_cases he : e = 0
  case neg =>
    rw [if_pos he] at h
    simp only [Prod.mk.injEq] at h
    exact absurd h.2 he
  rw [if_neg (by simp [he])] at h
  by_cases hf : f = 0
  case neg =>
    rw [if_pos hf] at h
    simp only [Prod.mk.injEq] at h
    exact absurd h.2 hf
  rw [if_neg (by simp [hf])] at h
  by_cases ht : t = []
  case neg =>
    rw [if_pos ht] at h
    simp only [Prod.mk.injEq] at h
    exact absurd h.2 (by decide)
  rw [if_neg (by simp [ht])] at h
  cases hl : lensT cs with
  | false =>
    rw [if_pos hl] at h
    simp only [Prod.mk.injEq] at h
    exact absurd h.2 (by decide)
  | true =>
    rw [if_neg (by simp [hl])] at h
    cases hm : mayT (bookOf cs n) with
    | false =>
      rw [if_pos hm] at h
      simp only [Prod.mk.injEq] at h
      exact absurd h.2 (by decide)
    | true =>
      rw [if_neg (by simp [hm])] at h
      simp only [Prod.mk.injEq, and_true] at h
      subst he hf ht
      obtain ⟨g1, g2, g3⟩ := getCols_one _ _ _ _ hg
      obtain ⟨hn1, hn2⟩ := numM_some hn
      obtain ⟨n1, n2, n3, n4⟩ := num_of hn1
      have h15 : cs.length = 15 := g1
      have hc := cols_book h15 hl n
      rw [← h]
      refine ⟨?_, hm, ?_⟩
      · unfold snapL
        rw [hc, show (bookOf cs n).co.toNat = n by simp [bookOf], n1]
        rw [List.append_nil] at g2
        rw [g2, List.take_append_drop]
      · have hall : ∀ c ∈ cs, c.length ≤ 1024 ∧ ∀ x ∈ c, in64 x := by
          intro c hcm
          obtain ⟨i, hi⟩ := List.mem_iff_getElem?.1 hcm
          have hlt : i < 15 := by have := (List.getElem?_eq_some_iff.1 hi).1; omega
          obtain ⟨m, hmi⟩ : ∃ m, mostT[i]? = some m := ⟨mostT[i]'(by simp [mostT]; omega), by simp⟩
          have hm2 : m ≤ 1024 := by
            have hmem := List.mem_of_getElem? hmi
            simp [mostT] at hmem
            omega
          have := g3 i c m hi hmi
          exact ⟨by omega, this.2⟩
        have r1 := rows_ok (cs := cs.take 4) (m := 1024) (fun c hc => hall c (List.mem_of_mem_take hc))
        have r2 := rows_ok (cs := (cs.drop 4).take 3) (m := 1024) (fun c hc => hall c (List.mem_of_mem_drop (List.mem_of_mem_take hc)))
        have r3 := rows_ok (cs := (cs.drop 7).take 6) (m := 1024) (fun c hc => hall c (List.mem_of_mem_drop (List.mem_of_mem_take hc)))
        have r4 := rows_ok (cs := cs.drop 13) (m := 1024) (fun c hc => hall c (List.mem_of_mem_drop hc))
        rw [show (cs.take 4).length = 4 by simp [h15]] at r1
        rw [show ((cs.drop 4).take 3).length = 3 by simp [h15]] at r2
        rw [show ((cs.drop 7).take 6).length = 6 by simp [h15]] at r3
        rw [show (cs.drop 13).length = 2 by simp [h15]] at r4
        exact ⟨r1, r2, r3, r4, by unfold in6 bookOf; dsimp only; omega⟩
theorem snap_cut {b : BookT} (h : SnOk b) {n : Nat} (hn : n < (snapL b).length) : (getSnap ((snapL b).take n)).2 ≠ 0 := by
  intro h0
  obtain ⟨⟨b', e⟩, hg⟩ : ∃ g, getSnap ((snapL b).take n) = g := ⟨_, rfl⟩
  rw [hg] at h0
  dsimp only at h0
  subst h0
  obtain ⟨h1, h2⟩ := snap_one hg
  have hs : snapL b = snapL b' ++ (snapL b).drop n := by rw [h1, List.take_append_drop]
  have g1 := snap_get h2 ((snapL b).drop n)
  rw [← hs, if_neg (by intro e; have := congrArg List.length e; simp at this; omega)] at g1
  have g2 := snap_get h []
  rw [List.append_nil, if_pos rfl, g1] at g2
  simp only [Prod.mk.injEq] at g2
  exact absurd g2.2 (by decide)
end Go.Proofs.YtnhljfhpfpfniaaGreat
