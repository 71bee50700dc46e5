/- The plain mathematics of torn frames: those ahead of the first one that isn't whole are told, and no more. Nothing here speaks of the program. -/
import Derived.Test.YtbaajabiimckoaaFrMath
namespace Go.Proofs.Ytbaajabiimckoaa

def bytesB (l : List UInt8) : ByteArray := ⟨l.toArray⟩
theorem bytesB_list (l : List UInt8) : (bytesB l).data.toList = l := rfl
theorem bytesB_size (l : List UInt8) : (bytesB l).size = l.length := by simp [bytesB, ByteArray.size]
theorem bytesB_of (s : ByteArray) : bytesB s.data.toList = s := by apply ByteArray.ext; simp [bytesB]
theorem bytesB_app (a b : List UInt8) : bytesB (a ++ b) = bytesB a ++ bytesB b := by
  apply ByteArray.ext; apply Array.toList_inj.1; rw [app_toList]; rfl
/-- Some of the first bytes, and noughts in the place of the others. -/
def tornL (f : List UInt8) (k : Nat) : List UInt8 := f.take k ++ List.replicate (f.length - k) 0
theorem tornL_len (f : List UInt8) (k : Nat) : (tornL f k).length = f.length := by simp [tornL]; omega
theorem tornL_all (f : List UInt8) (k : Nat) (h : f.length ≤ k) : tornL f k = f := by
  unfold tornL; rw [List.take_of_length_le h, Nat.sub_eq_zero_of_le h]; simp
/-- A row's frame, as a list. -/
def wrapL (s : ByteArray) : List UInt8 := (wrapS s).data.toList
theorem wrapL_len (s : ByteArray) : (wrapL s).length = (wrapS s).size := (Lib.size_eq _).symm
theorem wrapL_eq (s : ByteArray) : wrapL s = M.enc s.size ++ (s.data.toList ++ [165]) := wrap_list s

/-- WHAT IS TORN, OR CUT, IS AN ERROR. -/
theorem torn_next (s : ByteArray) (R : List UInt8) (k c : Nat) (h1 : 1 ≤ s.size) (h2 : s.size ≤ 65536) (h : k < (wrapL s).length ∨ c < (wrapL s).length) :
    (nextS (bytesB ((tornL (wrapL s) k ++ R).take c))).2.2 ≠ 0 := by
  obtain ⟨me, hme⟩ : ∃ me, (M.enc s.size).length = me := ⟨_, rfl⟩
  have hp := (M.enc_len s.size).1
  have hsl : s.data.toList.length = s.size := (Lib.size_eq _).symm
  have hl : (wrapL s).length = me + s.size + 1 := by
    rw [wrapL_eq, List.length_append, List.length_append, hme, hsl]; rfl
  obtain ⟨X, hX⟩ : ∃ X, (tornL (wrapL s) k ++ R).take c = X := ⟨_, rfl⟩
  rw [hX]
  by_cases hx0 : X.length = 0
  · rw [nextS_none _ (by rw [bytesB_size]; exact hx0)]; decide
  have hz : (bytesB X).size ≠ 0 := by rw [bytesB_size]; exact hx0
  have hc0 : 0 < c := by
    apply Nat.pos_of_ne_zero; rintro rfl; rw [List.take_zero] at hX; subst hX; exact hx0 rfl
  have fault : ∀ er : Int, er ≠ 0 → M.num X = (0, 0, er) → (nextS (bytesB X)).2.2 ≠ 0 := by
    intro er he hn
    have hto : numTo (bytesB X).data.toList rowN = (0, 0, er) := by
      rw [bytesB_list, numTo_ok (.inl (by rw [hn]; exact he)), hn]
    rw [nextS_fault hz hto he]; exact he
  by_cases hj : min k c < me
  · by_cases hkc : c ≤ k
    · have hcm : c < me := by omega
      have e : X = (M.enc s.size).take c := by
        rw [← hX, List.take_append_of_le_length (by rw [tornL_len, hl]; omega)]
        unfold tornL
        rw [List.take_append_of_le_length (by rw [List.length_take, hl]; omega), List.take_take, Nat.min_eq_left hkc, wrapL_eq, List.take_append_of_le_length (by omega)]
      exact fault 2 (by decide) (by rw [e]; exact num_cut _ _ (by omega))
    · have hkm : k < me := by omega
      have e : ∃ r, X = (M.enc s.size).take k ++ 0 :: r := by
        obtain ⟨m, hm⟩ : ∃ m, (wrapL s).length - k = m + 1 := ⟨(wrapL s).length - k - 1, by omega⟩
        obtain ⟨d, hd⟩ : ∃ d, c - k = d + 1 := ⟨c - k - 1, by omega⟩
        refine ⟨(List.replicate m 0 ++ R).take d, ?_⟩
        have hk2 : ((wrapL s).take k).length = k := by rw [List.length_take]; omega
        rw [← hX]
        unfold tornL
        rw [hm, List.replicate_succ, List.append_assoc, List.take_append, hk2, hd, List.take_of_length_le (by omega)]
        simp only [List.cons_append, List.take_succ_cons]
        congr 1
        rw [wrapL_eq, List.take_append_of_le_length (by omega)]
      obtain ⟨r, e⟩ := e
      by_cases hk0 : k = 0
      · subst hk0
        rw [List.take_zero, List.nil_append] at e
        have hto : numTo (bytesB X).data.toList rowN = (0, 1, 0) := by
          rw [bytesB_list, numTo_ok (.inr (by rw [e, num_nought]; simp [rowN])), e, num_nought]
        rw [nextS_zero hz hto rfl]; decide
      · exact fault 3 (by decide) (by rw [e]; exact num_torn _ _ _ (by omega) (by omega))
  · have hk : me ≤ k := by omega
    have hcm : me ≤ c := by omega
    have e : ∃ Y, X = M.enc s.size ++ Y := by
      refine ⟨X.drop me, ?_⟩
      have : X.take me = M.enc s.size := by
        rw [← hX, List.take_take, Nat.min_eq_left hcm, List.take_append_of_le_length (by rw [tornL_len, hl]; omega)]
        unfold tornL
        rw [List.take_append_of_le_length (by rw [List.length_take, hl]; omega), List.take_take, Nat.min_eq_left hk, wrapL_eq, List.take_append_of_le_length (by omega), List.take_of_length_le (by omega)]
      rw [← this, List.take_append_drop]
    obtain ⟨Y, e⟩ := e
    have hto : numTo (bytesB X).data.toList rowN = (s.size, me, 0) := by
      rw [bytesB_list, numTo_ok (.inr (by rw [e, M.num_enc _ _ (by omega)]; simp [rowN]; omega)), e, M.num_enc _ _ (by omega), hme]
    by_cases hsh : X.length < me + s.size + 1
    · rw [nextS_short hz hto (by omega) (by rw [bytesB_size]; exact hsh)]; decide
    · have hlen : X.length ≤ c := by rw [← hX, List.length_take]; omega
      have hkl : k < (wrapL s).length := by omega
      have hat : X[me + s.size]? = some 0 := by
        rw [← hX, List.getElem?_take_of_lt (by omega), List.getElem?_append_left (by rw [tornL_len, hl]; omega)]
        unfold tornL
        have hk2 : ((wrapL s).take k).length = k := by rw [List.length_take]; omega
        rw [List.getElem?_append_right (by omega), hk2, List.getElem?_replicate]
        rw [if_pos (by omega)]
      have hlt : me + s.size < (bytesB X).size := by rw [bytesB_size]; omega
      have hc : (bytesB X)[me + s.size] ≠ 165 := by
        have h5 : (bytesB X)[me + s.size] = X[me + s.size]'(by omega) := rfl
        rw [List.getElem?_eq_getElem (by omega)] at hat
        rw [h5, Option.some.inj hat]; decide
      rw [nextS_last hz hto (by omega) hlt hc]; decide

/-- Frames, each with how many of its first bytes are kept: all bytes; how many stand whole ahead of the place c. -/
def allP : List (ByteArray × Nat) → List UInt8
  | [] => []
  | p :: P => tornL (wrapL p.1) p.2 ++ allP P
def standP : List (ByteArray × Nat) → Nat → Nat
  | [], _ => 0
  | p :: P, c => if (wrapS p.1).size ≤ p.2 ∧ (wrapS p.1).size ≤ c then 1 + standP P (c - (wrapS p.1).size) else 0
theorem standP_le (P : List (ByteArray × Nat)) : ∀ c, standP P c ≤ P.length := by
  induction P with
  | nil => intro c; exact Nat.le_refl _
  | cons p P ih => intro c; unfold standP; have := ih (c - (wrapS p.1).size); split <;> simp <;> omega
/-- WHAT IS TORN IS TOLD. -/
theorem scan_torn (P : List (ByteArray × Nat)) (hP : ∀ p ∈ P, 1 ≤ p.1.size ∧ p.1.size ≤ 65536) : ∀ c, scanS (bytesB ((allP P).take c)) = (P.take (standP P c)).map fun p => (p.1, (wrapS p.1).size) := by
  induction P with
  | nil =>
    intro c
    rw [scanS_bad _ (by rw [nextS_none _ (by rw [bytesB_size]; simp [allP])]; decide)]
    rfl
  | cons p P ih =>
    intro c
    obtain ⟨h1, h2⟩ := hP p (List.mem_cons_self ..)
    unfold standP allP
    by_cases h : (wrapS p.1).size ≤ p.2 ∧ (wrapS p.1).size ≤ c
    · rw [if_pos h, tornL_all _ _ (by rw [wrapL_len]; exact h.1)]
      have e : bytesB ((wrapL p.1 ++ allP P).take c) = wrapS p.1 ++ bytesB ((allP P).take (c - (wrapS p.1).size)) := by
        rw [List.take_append, List.take_of_length_le (by rw [wrapL_len]; exact h.2), bytesB_app, wrapL_len, show bytesB (wrapL p.1) = wrapS p.1 from bytesB_of _]
      rw [e, scanS_next, nextS_wrap _ _ h1 h2]
      simp only [if_true]
      rw [ext_app, ih (fun q hq => hP q (List.mem_cons_of_mem _ hq)), Nat.add_comm 1, List.take_succ_cons, List.map_cons]
    · rw [if_neg h, scanS_bad]
      · rfl
      · refine torn_next p.1 _ p.2 c h1 h2 ?_
        rw [wrapL_len]; omega

/-! ### What the loops reckon -/
def whP (p : ByteArray × Nat) : Bool := decide ((wrapS p.1).size ≤ p.2)
def wantP (P : List (ByteArray × Nat)) : Nat := (P.takeWhile whP).length
def sumP : List (ByteArray × Nat) → Nat
  | [] => 0
  | p :: P => (wrapS p.1).size + sumP P
def cntP : List (ByteArray × Nat) → Nat → Nat
  | [], _ => 0
  | p :: P, c => if (wrapS p.1).size ≤ c then 1 + cntP P (c - (wrapS p.1).size) else 0
theorem allP_app (A B : List (ByteArray × Nat)) : allP (A ++ B) = allP A ++ allP B := by
  induction A with
  | nil => rfl
  | cons p A ih => show tornL _ _ ++ allP (A ++ B) = (tornL _ _ ++ allP A) ++ allP B; rw [ih, List.append_assoc]
theorem sumP_app (A B : List (ByteArray × Nat)) : sumP (A ++ B) = sumP A + sumP B := by
  induction A with
  | nil => simp [sumP]
  | cons p A ih => show _ + sumP (A ++ B) = (_ + sumP A) + sumP B; omega
theorem allP_len (P : List (ByteArray × Nat)) : (allP P).length = sumP P := by
  induction P with
  | nil => rfl
  | cons p P ih => unfold allP sumP; rw [List.length_append, tornL_len, wrapL_len, ih]
theorem wantP_le (P : List (ByteArray × Nat)) : wantP P ≤ P.length := (List.takeWhile_sublist whP).length_le
/-- One frame more: the count of those that are whole ahead of the first that isn't. -/
theorem wantP_snoc (A : List (ByteArray × Nat)) (p : ByteArray × Nat) : wantP (A ++ [p]) = if A.all whP && whP p then wantP A + 1 else wantP A := by
  induction A with
  | nil => simp [wantP, List.takeWhile]; cases whP p <;> rfl
  | cons q A ih =>
    unfold wantP at ih ⊢
    rw [List.cons_append, List.takeWhile_cons, List.takeWhile_cons, List.all_cons]
    cases hq : whP q with
    | false => simp
    | true =>
      simp only [if_true, List.length_cons, Bool.true_and]
      rw [ih]
      split <;> omega
theorem cntP_snoc (A : List (ByteArray × Nat)) (p : ByteArray × Nat) : ∀ c, cntP (A ++ [p]) c = cntP A c + (if sumP A + (wrapS p.1).size ≤ c then 1 else 0) := by
  induction A with
  | nil => intro c; simp [cntP, sumP]
  | cons q A ih =>
    intro c
    rw [List.cons_append]
    unfold cntP sumP
    by_cases h : (wrapS q.1).size ≤ c
    · rw [if_pos h, if_pos h, ih]
      by_cases h2 : sumP A + (wrapS p.1).size ≤ c - (wrapS q.1).size
      · rw [if_pos h2, if_pos (by omega)]; omega
      · rw [if_neg h2, if_neg (by omega)]; rfl
    · rw [if_neg h, if_neg h, if_neg (by omega)]
theorem standP_cnt (P : List (ByteArray × Nat)) : ∀ c, standP P c = cntP (P.take (wantP P)) c := by
  induction P with
  | nil => intro c; rfl
  | cons p P ih =>
    intro c
    unfold standP
    by_cases h : (wrapS p.1).size ≤ p.2
    · have hw : wantP (p :: P) = wantP P + 1 := by
        unfold wantP; rw [List.takeWhile_cons, show whP p = true from decide_eq_true h]; rfl
      rw [hw, List.take_succ_cons]
      unfold cntP
      by_cases h2 : (wrapS p.1).size ≤ c
      · rw [if_pos ⟨h, h2⟩, if_pos h2, ih]
      · rw [if_neg (by omega), if_neg h2]
    · have hw : wantP (p :: P) = 0 := by
        unfold wantP; rw [List.takeWhile_cons, show whP p = false from decide_eq_false h]; rfl
      rw [hw, if_neg (by omega)]; rfl
theorem cntP_le (A : List (ByteArray × Nat)) : ∀ c, cntP A c ≤ A.length := by
  induction A with
  | nil => intro c; exact Nat.le_refl _
  | cons p A ih => intro c; unfold cntP; have := ih (c - (wrapS p.1).size); split <;> simp <;> omega
/-- Rows, and how many first bytes of each frame are kept (all, where nothing is said). -/
def pairsT : List ByteArray → List Nat → List (ByteArray × Nat)
  | [], _ => []
  | r :: rs, [] => (r, (wrapS r).size) :: pairsT rs []
  | r :: rs, k :: ks => (r, min (wrapS r).size k) :: pairsT rs ks
def keptT (f : Nat) (o : Option Nat) : Nat := match o with
  | none => f
  | some k => min f k
theorem pairsT_at (rows : List ByteArray) : ∀ (kept : List Nat) (i : Nat), (pairsT rows kept)[i]? = (rows[i]?).map fun r => (r, keptT (wrapS r).size kept[i]?) := by
  induction rows with
  | nil => intro kept i; simp [pairsT]
  | cons r rs ih =>
    intro kept i
    cases kept with
    | nil =>
      cases i with
      | zero => rfl
      | succ i => simp only [pairsT, List.getElem?_cons_succ]; rw [ih]; simp
    | cons k ks =>
      cases i with
      | zero => rfl
      | succ i => simp only [pairsT, List.getElem?_cons_succ]; rw [ih]
theorem pairsT_len (rows : List ByteArray) : ∀ kept, (pairsT rows kept).length = rows.length := by
  induction rows with
  | nil => intro kept; rfl
  | cons r rs ih => intro kept; cases kept <;> simp [pairsT, ih]
theorem pairsT_rows (rows : List ByteArray) : ∀ kept, (pairsT rows kept).map (·.1) = rows := by
  induction rows with
  | nil => intro kept; rfl
  | cons r rs ih => intro kept; cases kept <;> simp [pairsT, ih]
/-- The rows that stand, and their frames' sizes in all. -/
theorem scan_rows (rows : List ByteArray) (kept : List Nat) (c : Nat) (h : ∀ r ∈ rows, 1 ≤ r.size ∧ r.size ≤ 65536) :
    scanS (bytesB ((allP (pairsT rows kept)).take c)) = ((rows.take (standP (pairsT rows kept) c)).map fun r => (r, (wrapS r).size)) := by
  rw [scan_torn]
  · rw [show (rows.take (standP (pairsT rows kept) c)) = ((pairsT rows kept).take (standP (pairsT rows kept) c)).map (·.1) by rw [List.map_take, pairsT_rows], List.map_map]
    rfl
  · intro p hp
    exact h p.1 (by have := List.mem_map_of_mem (f := (·.1)) hp; rwa [pairsT_rows] at this)
end Go.Proofs.Ytbaajabiimckoaa
