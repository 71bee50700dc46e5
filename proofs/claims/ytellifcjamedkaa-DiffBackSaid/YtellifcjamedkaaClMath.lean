/- Columns: differences, runs, their bytes; plain. -/
import Derived.Test.YtellifcjamedkaaMNums
import Derived.Laws.BitsLemmas
namespace Go.Proofs.Ytellifcjamedkaa
open Go.RowKit

def in64 (x : Int) : Prop := -9223372036854775808 ≤ x ∧ x ≤ 9223372036854775807
def w64 (x : Int) : Int := IntKind.i64.wrap x
theorem w64_in (x : Int) : in64 (w64 x) := by unfold in64 w64; rw [IntKind.wrap_i64]; omega
theorem w64_of {x : Int} (h : in64 x) : w64 x = x := by unfold in64 at h; unfold w64; rw [IntKind.wrap_i64]; omega
theorem w64_add_sub (a x : Int) : w64 (a + w64 (x - a)) = w64 x := by unfold w64; simp only [IntKind.wrap_i64]; omega
theorem w64_sub_add (a d : Int) : w64 (w64 (a + d) - a) = w64 d := by unfold w64; simp only [IntKind.wrap_i64]; omega
/-- Differences, from a number ahead on. -/
def diffs (a : Int) : List Int → List Int
  | [] => []
  | x :: l => w64 (x - a) :: diffs x l
def undiff (a : Int) : List Int → List Int
  | [] => []
  | d :: l => w64 (a + d) :: undiff (w64 (a + d)) l
theorem diffs_len : ∀ (l : List Int) (a : Int), (diffs a l).length = l.length
  | [], _ => rfl
  | x :: l, a => by simp [diffs, diffs_len l x]
theorem undiff_len : ∀ (l : List Int) (a : Int), (undiff a l).length = l.length
  | [], _ => rfl
  | x :: l, a => by simp [undiff, undiff_len l]
theorem diffs_in : ∀ (l : List Int) (a : Int), ∀ d ∈ diffs a l, in64 d
  | [], _, d, h => by cases h
  | x :: l, a, d, h => by
    rcases List.mem_cons.1 h with rfl | h
    · exact w64_in _
    · exact diffs_in l x d h
theorem undiff_in : ∀ (l : List Int) (a : Int), ∀ d ∈ undiff a l, in64 d
  | [], _, d, h => by cases h
  | x :: l, a, d, h => by
    rcases List.mem_cons.1 h with rfl | h
    · exact w64_in _
    · exact undiff_in l _ d h
theorem undiff_diffs : ∀ (l : List Int) (a : Int), (∀ x ∈ l, in64 x) → undiff a (diffs a l) = l
  | [], _, _ => rfl
  | x :: l, a, h => by
    have hx := h x (List.mem_cons_self ..)
    show w64 (a + w64 (x - a)) :: undiff (w64 (a + w64 (x - a))) (diffs x l) = x :: l
    rw [w64_add_sub, w64_of hx, undiff_diffs l x (fun y hy => h y (List.mem_cons_of_mem _ hy))]
theorem diffs_undiff : ∀ (l : List Int) (a : Int), (∀ x ∈ l, in64 x) → diffs a (undiff a l) = l
  | [], _, _ => rfl
  | d :: l, a, h => by
    have hd := h d (List.mem_cons_self ..)
    show w64 (w64 (a + d) - a) :: diffs (w64 (a + d)) (undiff (w64 (a + d)) l) = d :: l
    rw [w64_sub_add, w64_of hd, diffs_undiff l _ (fun y hy => h y (List.mem_cons_of_mem _ hy))]
theorem undiff_app : ∀ (l m : List Int) (a : Int), undiff a (l ++ m) = undiff a l ++ undiff ((undiff a l).getLastD a) m
  | [], m, a => rfl
  | d :: l, m, a => by
    show w64 (a + d) :: undiff (w64 (a + d)) (l ++ m) = w64 (a + d) :: undiff (w64 (a + d)) l ++ undiff ((w64 (a + d) :: undiff (w64 (a + d)) l).getLastD a) m
    rw [undiff_app l m, List.getLastD_cons]
    rfl
theorem diffs_app : ∀ (l m : List Int) (a : Int), diffs a (l ++ m) = diffs a l ++ diffs (l.getLastD a) m
  | [], m, a => rfl
  | d :: l, m, a => by
    show w64 (d - a) :: diffs d (l ++ m) = w64 (d - a) :: diffs d l ++ diffs ((d :: l).getLastD a) m
    rw [diffs_app l m, List.getLastD_cons]
    rfl

abbrev RunT := Int × Nat
def expand : List RunT → List Int
  | [] => []
  | p :: r => List.replicate p.2 p.1 ++ expand r
theorem expand_app : ∀ (r s : List RunT), expand (r ++ s) = expand r ++ expand s
  | [], _ => rfl
  | p :: r, s => by show _ ++ expand (r ++ s) = _; rw [expand_app r s]; simp [expand]
def total : List RunT → Nat
  | [] => 0
  | p :: r => p.2 + total r
theorem expand_len : ∀ r : List RunT, (expand r).length = total r
  | [] => rfl
  | p :: r => by simp [expand, total, expand_len r]
/-- Runs as long as may be, behind a difference. -/
def Canon : Option Int → List RunT → Prop
  | _, [] => True
  | was, p :: r => 1 ≤ p.2 ∧ was ≠ some p.1 ∧ Canon (some p.1) r
theorem canon_len : ∀ (r : List RunT) (was : Option Int), Canon was r → r.length ≤ total r
  | [], _, _ => Nat.le_refl _
  | p :: r, _, h => by have := canon_len r _ h.2.2; have := h.1; simp [total]; omega
theorem rep_head {d : Int} {k : Nat} (h : 1 ≤ k) (l : List Int) : List.replicate k d ++ l = d :: (List.replicate (k - 1) d ++ l) := by
  obtain ⟨j, rfl⟩ : ∃ j, k = j + 1 := ⟨k - 1, by omega⟩
  rfl
theorem canon_head {d : Int} {r : List RunT} (h : Canon (some d) r) (l : List Int) : expand r ≠ d :: l := by
  cases r with
  | nil => intro e; cases e
  | cons p r =>
    intro e
    rw [expand, rep_head h.1] at e
    exact h.2.1 (by rw [(List.cons.inj e).1])
/-- Runs are told by what they make. -/
theorem canon_one : ∀ (r s : List RunT) (a b : Option Int), Canon a r → Canon b s → expand r = expand s → r = s
  | [], [], _, _, _, _, _ => rfl
  | [], q :: s, _, _, _, h, e => by rw [expand, expand, rep_head h.1] at e; cases e
  | p :: r, [], _, _, h, _, e => by rw [expand, expand, rep_head h.1] at e; cases e
  | (d, k) :: r, (f, m) :: s, _, _, h, g, e => by
    have e0 := e
    rw [expand, expand, rep_head h.1, rep_head g.1] at e0
    have hd : d = f := (List.cons.inj e0).1
    subst hd
    have hk : k = m := by
      have e1 : List.replicate k d ++ expand r = List.replicate m d ++ expand s := e
      rcases Nat.lt_trichotomy k m with hlt | heq | hgt
      · exfalso
        obtain ⟨j, rfl⟩ : ∃ j, m = k + (j + 1) := ⟨m - k - 1, by omega⟩
        rw [← List.replicate_append_replicate, List.append_assoc] at e1
        exact canon_head h.2.2 _ (List.append_cancel_left e1)
      · exact heq
      · exfalso
        obtain ⟨j, rfl⟩ : ∃ j, k = m + (j + 1) := ⟨k - m - 1, by omega⟩
        rw [← List.replicate_append_replicate, List.append_assoc] at e1
        exact canon_head g.2.2 _ (List.append_cancel_left e1).symm
    subst hk
    have e2 : expand r = expand s := List.append_cancel_left (show List.replicate k d ++ expand r = List.replicate k d ++ expand s from e)
    rw [canon_one r s _ _ h.2.2 g.2.2 e2]
/-- One difference more. -/
def pushR : List RunT → Int → List RunT
  | [], d => [(d, 1)]
  | [p], d => if p.1 = d then [(p.1, p.2 + 1)] else [p, (d, 1)]
  | p :: q :: r, d => p :: pushR (q :: r) d
theorem push_expand : ∀ (r : List RunT) (d : Int), expand (pushR r d) = expand r ++ [d]
  | [], d => rfl
  | [p], d => by
    unfold pushR
    by_cases h : p.1 = d
    · rw [if_pos h, ← h]; simp [expand, List.replicate_succ']
    · rw [if_neg h]; simp [expand]
  | p :: q :: r, d => by
    show _ ++ expand (pushR (q :: r) d) = _
    rw [push_expand (q :: r) d]; simp [expand]
theorem push_canon : ∀ (r : List RunT) (d : Int) (was : Option Int), Canon was r → (r = [] → was ≠ some d) → Canon was (pushR r d)
  | [], d, was, _, h => ⟨Nat.le_refl _, h rfl, trivial⟩
  | [p], d, was, h, _ => by
    unfold pushR
    by_cases e : p.1 = d
    · rw [if_pos e]; exact ⟨by have := h.1; show 1 ≤ p.2 + 1; omega, h.2.1, trivial⟩
    · rw [if_neg e]; exact ⟨h.1, h.2.1, Nat.le_refl _, by simpa using e, trivial⟩
  | p :: q :: r, d, was, h, _ => ⟨h.1, h.2.1, push_canon (q :: r) d (some p.1) h.2.2 (fun e => by cases e)⟩
theorem push_last : ∀ (r : List RunT) (p : RunT) (d : Int), pushR (r ++ [p]) d = if p.1 = d then r ++ [(p.1, p.2 + 1)] else r ++ [p, (d, 1)]
  | [], p, d => rfl
  | [q], p, d => by
    show q :: pushR [p] d = _
    unfold pushR
    split <;> rfl
  | q :: q2 :: r, p, d => by
    show q :: pushR (q2 :: r ++ [p]) d = _
    rw [push_last (q2 :: r) p d]
    split <;> rfl
/-- The runs of a column. -/
def runsD (ds : List Int) : List RunT := ds.foldl pushR []
def runsS (l : List Int) : List RunT := runsD (diffs 0 l)
theorem runsD_snoc (ds : List Int) (d : Int) : runsD (ds ++ [d]) = pushR (runsD ds) d := by simp [runsD, List.foldl_append]
theorem runs_fold : ∀ (ds : List Int) (r : List RunT), Canon none r → Canon none (ds.foldl pushR r) ∧ expand (ds.foldl pushR r) = expand r ++ ds
  | [], r, h => ⟨h, (List.append_nil _).symm⟩
  | d :: ds, r, h => by
    have h2 := runs_fold ds (pushR r d) (push_canon r d none h (fun _ => by simp))
    rw [push_expand, List.append_assoc] at h2
    exact h2
theorem runsD_all (ds : List Int) : Canon none (runsD ds) ∧ expand (runsD ds) = ds := runs_fold ds [] trivial
theorem runsS_canon (l : List Int) : Canon none (runsS l) := (runsD_all _).1
theorem runsS_expand (l : List Int) : expand (runsS l) = diffs 0 l := (runsD_all _).2
theorem runsS_total (l : List Int) : total (runsS l) = l.length := by rw [← expand_len, runsS_expand, diffs_len]
theorem runsS_is {l : List Int} {r : List RunT} (h : Canon none r) (e : expand r = diffs 0 l) : runsS l = r := canon_one _ _ _ _ (runsS_canon l) h ((runsS_expand l).trans e.symm)
theorem runsS_len (l : List Int) : (runsS l).length ≤ l.length := by have := canon_len _ _ (runsS_canon l); rw [runsS_total] at this; exact this
theorem canon_mem : ∀ (r : List RunT) (was : Option Int), Canon was r → ∀ p ∈ r, p.1 ∈ expand r
  | [], _, _, p, h => by cases h
  | q :: r, _, h, p, hp => by
    rcases List.mem_cons.1 hp with rfl | hp
    · rw [expand, rep_head h.1]; exact List.mem_cons_self ..
    · exact List.mem_append_right _ (canon_mem r _ h.2.2 p hp)
theorem runsS_in (l : List Int) : ∀ p ∈ runsS l, in64 p.1 := fun p hp => diffs_in l 0 _ (by rw [← runsS_expand]; exact canon_mem _ _ (runsS_canon l) p hp)
theorem total_mem : ∀ (r : List RunT), ∀ p ∈ r, p.2 ≤ total r
  | [], p, h => by cases h
  | q :: r, p, h => by
    rcases List.mem_cons.1 h with rfl | h
    · show p.2 ≤ p.2 + total r; omega
    · have := total_mem r p h; show p.2 ≤ q.2 + total r; omega
theorem runsS_num (l : List Int) : ∀ p ∈ runsS l, p.2 ≤ l.length := fun p hp => by have := total_mem _ p hp; rwa [runsS_total] at this

/-- The bytes of runs. -/
def encR : List RunT → List UInt8
  | [] => []
  | p :: r => M.enc (M.zig p.1).toNat ++ M.enc p.2 ++ encR r
theorem encR_app : ∀ (r s : List RunT), encR (r ++ s) = encR r ++ encR s
  | [], _ => rfl
  | p :: r, s => by show _ ++ encR (r ++ s) = _; rw [encR_app r s]; simp [encR]
theorem encR_len : ∀ r : List RunT, (encR r).length ≤ 20 * r.length
  | [] => Nat.le_refl _
  | p :: r => by
    have := encR_len r
    have := (M.enc_len (M.zig p.1).toNat).2
    have := (M.enc_len p.2).2
    simp [encR]; omega
def putL (l : List Int) : List UInt8 := M.enc l.length ++ encR (runsS l)
def putB (l : List Int) : ByteArray := ⟨(putL l).toArray⟩
theorem putB_list (l : List Int) : (putB l).data.toList = putL l := rfl
theorem putB_size (l : List Int) : (putB l).size = (putL l).length := Lib.size_eq _
theorem putL_len (l : List Int) : (putL l).length ≤ 10 + 20 * l.length := by
  have := encR_len (runsS l)
  have := runsS_len l
  have := (M.enc_len l.length).2
  simp [putL]; omega

/-- The number that stands next, at most so much. -/
def numM (s : List UInt8) (most : Nat) : Nat × Nat × Int := numTo s (fun n => decide ((n : Int) ≤ (most : Int)))
/-- What bytes are read as, of so many numbers that lack, behind a difference: the runs, how many bytes, the first fault. -/
def getR (s : List UInt8) (lack : Nat) (was : Option Int) : List RunT × Nat × Int :=
  if _h0 : lack = 0 then ([], 0, 0)
  else if (M.num s).2.2 ≠ 0 then ([], 0, (M.num s).2.2)
  else if (numM (s.drop (M.num s).2.1) lack).2.2 ≠ 0 then ([], 0, (numM (s.drop (M.num s).2.1) lack).2.2)
  else if _h : (numM (s.drop (M.num s).2.1) lack).1 = 0 ∨ was = some (M.zag (M.num s).1) then ([], 0, 3)
  else if (getR (s.drop ((M.num s).2.1 + (numM (s.drop (M.num s).2.1) lack).2.1)) (lack - (numM (s.drop (M.num s).2.1) lack).1) (some (M.zag (M.num s).1))).2.2 ≠ 0 then
    ([], 0, (getR (s.drop ((M.num s).2.1 + (numM (s.drop (M.num s).2.1) lack).2.1)) (lack - (numM (s.drop (M.num s).2.1) lack).1) (some (M.zag (M.num s).1))).2.2)
  else ((M.zag (M.num s).1, (numM (s.drop (M.num s).2.1) lack).1) :: (getR (s.drop ((M.num s).2.1 + (numM (s.drop (M.num s).2.1) lack).2.1)) (lack - (numM (s.drop (M.num s).2.1) lack).1) (some (M.zag (M.num s).1))).1,
    (M.num s).2.1 + (numM (s.drop (M.num s).2.1) lack).2.1 + (getR (s.drop ((M.num s).2.1 + (numM (s.drop (M.num s).2.1) lack).2.1)) (lack - (numM (s.drop (M.num s).2.1) lack).1) (some (M.zag (M.num s).1))).2.1, 0)
termination_by lack
decreasing_by all_goals (have h1 : (numM (s.drop (M.num s).2.1) lack).1 ≠ 0 := fun e => _h (.inl e)); omega
theorem getR_zero (s : List UInt8) (was : Option Int) : getR s 0 was = ([], 0, 0) := by rw [getR, dif_pos rfl]
theorem getR_e1 {s : List UInt8} {lack : Nat} {was : Option Int} {u j : Nat} {e : Int} (h0 : 0 < lack) (hu : M.num s = (u, j, e)) (he : e ≠ 0) : getR s lack was = ([], 0, e) := by
  rw [getR, dif_neg (by omega), if_pos (by rw [hu]; exact he), hu]
theorem getR_e2 {s : List UInt8} {lack : Nat} {was : Option Int} {u j v i : Nat} {e : Int} (h0 : 0 < lack) (hu : M.num s = (u, j, 0)) (hv : numM (s.drop j) lack = (v, i, e)) (he : e ≠ 0) : getR s lack was = ([], 0, e) := by
  rw [getR, dif_neg (by omega), if_neg (by rw [hu]; simp), hu]
  dsimp only
  rw [if_pos (by rw [hv]; exact he), hv]
theorem getR_form {s : List UInt8} {lack : Nat} {was : Option Int} {u j v i : Nat} (h0 : 0 < lack) (hu : M.num s = (u, j, 0)) (hv : numM (s.drop j) lack = (v, i, 0)) (hb : v = 0 ∨ was = some (M.zag (u : Int))) : getR s lack was = ([], 0, 3) := by
  rw [getR, dif_neg (by omega), if_neg (by rw [hu]; simp), hu]
  dsimp only
  rw [if_neg (by rw [hv]; simp), dif_pos (by rw [hv]; exact hb)]
theorem getR_next {s : List UInt8} {lack : Nat} {was : Option Int} {u j v i : Nat} {r : List RunT} {k : Nat} {e : Int} (h0 : 0 < lack) (hu : M.num s = (u, j, 0)) (hv : numM (s.drop j) lack = (v, i, 0)) (hb : ¬ (v = 0 ∨ was = some (M.zag (u : Int))))
    (hc : getR (s.drop (j + i)) (lack - v) (some (M.zag (u : Int))) = (r, k, e)) : getR s lack was = if e ≠ 0 then ([], 0, e) else ((M.zag (u : Int), v) :: r, j + i + k, 0) := by
  rw [getR, dif_neg (by omega), if_neg (by rw [hu]; simp), hu]
  dsimp only
  rw [if_neg (by rw [hv]; simp), dif_neg (by rw [hv]; exact hb), hv]
  dsimp only
  rw [hc]
theorem numM_some {s : List UInt8} {m v i : Nat} (h : numM s m = (v, i, 0)) : M.num s = (v, i, 0) ∧ v ≤ m := by
  have h2 := numTo_may s (fun n => decide ((n : Int) ≤ (m : Int))) (by show (numM s m).2.2 = 0; rw [h])
  have h3 : numTo s (fun n => decide ((n : Int) ≤ (m : Int))) = (v, i, 0) := h
  rw [h3] at h2
  exact ⟨h2.2.symm, by have := of_decide_eq_true h2.1; dsimp only at this; omega⟩
theorem numM_enc {n m : Nat} (h : n ≤ m) (hm : n < 18446744073709551616) (R : List UInt8) : numM (M.enc n ++ R) m = (n, (M.enc n).length, 0) := by
  have h1 := M.num_enc n R hm
  unfold numM
  rw [numTo_ok (.inr (by rw [h1]; simp; omega)), h1]
theorem num_of {s : List UInt8} {u j : Nat} (h : M.num s = (u, j, 0)) : M.enc u = s.take j ∧ j ≤ s.length ∧ 0 < j ∧ u < 18446744073709551616 := by
  have h1 := M.num_one s (by rw [h])
  have h2 := M.num_form s
  have h3 := M.num_lt s
  rw [h] at h1 h2 h3
  refine ⟨h1, ?_, ?_, h3⟩ <;> (dsimp only at h2; omega)
theorem getR_enc : ∀ (r : List RunT) (was : Option Int) (R : List UInt8), Canon was r → (∀ p ∈ r, in64 p.1) → total r < 18446744073709551616 → getR (encR r ++ R) (total r) was = (r, (encR r).length, 0)
  | [], was, R, _, _, _ => getR_zero _ _
  | (d, k) :: r, was, R, hc, hi, ht => by
    have hd := hi (d, k) (List.mem_cons_self ..)
    have hz := M.zig_bd d hd.1 hd.2
    have hk : 1 ≤ k := hc.1
    have htk : total ((d, k) :: r) = k + total r := rfl
    have e1 : encR ((d, k) :: r) ++ R = M.enc (M.zig d).toNat ++ (M.enc k ++ (encR r ++ R)) := by simp [encR]
    have hu : M.num (encR ((d, k) :: r) ++ R) = ((M.zig d).toNat, (M.enc (M.zig d).toNat).length, 0) := by rw [e1]; exact M.num_enc _ _ (by omega)
    have e2 : (encR ((d, k) :: r) ++ R).drop (M.enc (M.zig d).toNat).length = M.enc k ++ (encR r ++ R) := by rw [e1, List.drop_left]
    have hv : numM ((encR ((d, k) :: r) ++ R).drop (M.enc (M.zig d).toNat).length) (total ((d, k) :: r)) = (k, (M.enc k).length, 0) := by rw [e2]; exact numM_enc (by omega) (by omega) _
    have hzz : M.zag (((M.zig d).toNat : Nat) : Int) = d := by rw [Int.toNat_of_nonneg hz.1]; exact M.zag_zig d
    have ih := getR_enc r (some d) R hc.2.2 (fun p hp => hi p (List.mem_cons_of_mem _ hp)) (by omega)
    have h4 : getR ((encR ((d, k) :: r) ++ R).drop ((M.enc (M.zig d).toNat).length + (M.enc k).length)) (total ((d, k) :: r) - k) (some (M.zag (((M.zig d).toNat : Nat) : Int))) = (r, (encR r).length, 0) := by
      rw [hzz, ← List.drop_drop, e2, List.drop_left, htk, show k + total r - k = total r by omega]; exact ih
    have h := getR_next (was := was) (by omega) hu hv (by rw [hzz]; rintro (a | a); omega; exact hc.2.1 a) h4
    rw [h, if_neg (by simp), hzz]
    simp [encR, Nat.add_assoc]
theorem getR_one : ∀ (lack : Nat) (s : List UInt8) (was : Option Int) (r : List RunT) (k : Nat), getR s lack was = (r, k, 0) → Canon was r ∧ total r = lack ∧ encR r = s.take k ∧ k ≤ s.length ∧ ∀ p ∈ r, in64 p.1 := by
  intro lack
  induction lack using Nat.strongRecOn with
  | _ lack ih =>
    intro s was r k h
    rcases Nat.eq_zero_or_pos lack with rfl | h0
    · rw [getR_zero] at h
      simp only [Prod.mk.injEq] at h
      obtain ⟨rfl, rfl, _⟩ := h
      exact ⟨trivial, rfl, rfl, Nat.zero_le _, fun p hp => by cases hp⟩
    obtain ⟨u, j, e, hu⟩ : ∃ u j e, M.num s = (u, j, e) := ⟨_, _, _, rfl⟩
    by_cases he : e = 0
    · subst he
      obtain ⟨v, i, e2, hv⟩ : ∃ v i e2, numM (s.drop j) lack = (v, i, e2) := ⟨_, _, _, rfl⟩
      by_cases he2 : e2 = 0
      · subst he2
        by_cases hb : v = 0 ∨ was = some (M.zag (u : Int))
        · rw [getR_form h0 hu hv hb] at h; simp at h
        · obtain ⟨r2, k2, e3, hc⟩ : ∃ r2 k2 e3, getR (s.drop (j + i)) (lack - v) (some (M.zag (u : Int))) = (r2, k2, e3) := ⟨_, _, _, rfl⟩
          rw [getR_next h0 hu hv hb hc] at h
          by_cases he3 : e3 = 0
          · subst he3
            rw [if_neg (by simp)] at h
            simp only [Prod.mk.injEq, and_true] at h
            obtain ⟨rfl, rfl⟩ := h
            obtain ⟨n1, n2, n3, n4⟩ := num_of hu
            obtain ⟨hv1, hvl⟩ := numM_some hv
            obtain ⟨m1, m2, m3, m4⟩ := num_of hv1
            obtain ⟨c1, c2, c3, c4, c5⟩ := ih (lack - v) (by omega) _ _ _ _ hc
            have hzb := M.zag_bd (u : Int) (by omega) (by omega)
            rw [List.length_drop] at m2 c4
            refine ⟨⟨by show 1 ≤ v; omega, fun a => hb (.inr a), c1⟩, by show v + total r2 = lack; omega, ?_, by omega, fun p hp => ?_⟩
            · show M.enc (M.zig (M.zag (u : Int))).toNat ++ M.enc v ++ encR r2 = _
              rw [M.zig_zag _ (by omega), Int.toNat_natCast, n1, m1, c3, List.append_assoc, List.take_add, List.take_add, List.append_assoc]
            · rcases List.mem_cons.1 hp with rfl | hp
              · exact hzb
              · exact c5 p hp
          · rw [if_pos he3] at h
            simp only [Prod.mk.injEq] at h
            exact absurd h.2.2 he3
      · rw [getR_e2 h0 hu hv he2] at h
        simp only [Prod.mk.injEq] at h
        exact absurd h.2.2 he2
    · rw [getR_e1 h0 hu he] at h
      simp only [Prod.mk.injEq] at h
      exact absurd h.2.2 he

/-- The column of bytes: the numbers, how many bytes, the first fault. -/
def getS (s : List UInt8) (most : Nat) : List Int × Nat × Int :=
  if (numM s most).2.2 ≠ 0 then ([], 0, (numM s most).2.2)
  else if (getR (s.drop (numM s most).2.1) (numM s most).1 none).2.2 ≠ 0 then ([], 0, (getR (s.drop (numM s most).2.1) (numM s most).1 none).2.2)
  else (undiff 0 (expand (getR (s.drop (numM s most).2.1) (numM s most).1 none).1), (numM s most).2.1 + (getR (s.drop (numM s most).2.1) (numM s most).1 none).2.1, 0)
theorem getS_is {s : List UInt8} {most n i : Nat} {e : Int} {r : List RunT} {k : Nat} {f : Int} (hn : numM s most = (n, i, e)) (hr : getR (s.drop i) n none = (r, k, f)) : getS s most = if e ≠ 0 then ([], 0, e) else if f ≠ 0 then ([], 0, f) else (undiff 0 (expand r), i + k, 0) := by
  unfold getS
  rw [hn]
  dsimp only
  rw [hr]
/-- What is put is got again. -/
theorem get_put {l : List Int} (h : ∀ x ∈ l, in64 x) {m : Nat} (hl : l.length ≤ m) (hb : l.length < 18446744073709551616) (R : List UInt8) : getS (putL l ++ R) m = (l, (putL l).length, 0) := by
  have e1 : putL l ++ R = M.enc l.length ++ (encR (runsS l) ++ R) := by simp [putL]
  have hn : numM (putL l ++ R) m = (l.length, (M.enc l.length).length, 0) := by rw [e1]; exact numM_enc hl hb _
  have hr : getR ((putL l ++ R).drop (M.enc l.length).length) l.length none = (runsS l, (encR (runsS l)).length, 0) := by
    rw [e1, List.drop_left]
    have h2 := getR_enc (runsS l) none R (runsS_canon l) (runsS_in l) (by rw [runsS_total]; exact hb)
    rwa [runsS_total] at h2
  rw [getS_is hn hr, if_neg (by simp), if_neg (by simp), runsS_expand, undiff_diffs l 0 h]
  simp [putL]
/-- What is got is put as it was. -/
theorem put_get {s : List UInt8} {m k : Nat} {l : List Int} (h : getS s m = (l, k, 0)) : putL l = s.take k ∧ k ≤ s.length ∧ l.length ≤ m ∧ ∀ x ∈ l, in64 x := by
  obtain ⟨n, i, e, hn⟩ : ∃ n i e, numM s m = (n, i, e) := ⟨_, _, _, rfl⟩
  obtain ⟨r, k2, f, hr⟩ : ∃ r k2 f, getR (s.drop i) n none = (r, k2, f) := ⟨_, _, _, rfl⟩
  rw [getS_is hn hr] at h
  by_cases he : e = 0
  · subst he
    rw [if_neg (by simp)] at h
    by_cases hf : f = 0
    · subst hf
      rw [if_neg (by simp)] at h
      simp only [Prod.mk.injEq, and_true] at h
      obtain ⟨rfl, rfl⟩ := h
      obtain ⟨hn1, hnm⟩ := numM_some hn
      obtain ⟨n1, n2, n3, n4⟩ := num_of hn1
      obtain ⟨c1, c2, c3, c4, c5⟩ := getR_one _ _ _ _ _ hr
      have hin : ∀ x ∈ expand r, in64 x := by
        intro x hx
        clear hr c1 c2 c3
        induction r with
        | nil => cases hx
        | cons p r ih =>
          rcases List.mem_append.1 hx with hx | hx
          · rw [(List.mem_replicate.1 hx).2]; exact c5 p (List.mem_cons_self ..)
          · exact ih (fun q hq => c5 q (List.mem_cons_of_mem _ hq)) hx
      have hlen : (undiff 0 (expand r)).length = n := by rw [undiff_len, expand_len, c2]
      have hruns : runsS (undiff 0 (expand r)) = r := runsS_is c1 (diffs_undiff _ 0 hin).symm
      rw [List.length_drop] at c4
      refine ⟨?_, by omega, by omega, undiff_in _ _⟩
      unfold putL
      rw [hlen, hruns, n1, c3, List.take_add]
    · rw [if_pos hf] at h
      simp only [Prod.mk.injEq] at h
      exact absurd h.2.2 hf
  · rw [if_pos he] at h
    simp only [Prod.mk.injEq] at h
    exact absurd h.2.2 he
end Go.Proofs.Ytellifcjamedkaa
