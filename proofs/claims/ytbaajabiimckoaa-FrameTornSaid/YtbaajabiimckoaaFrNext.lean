/- Contracts of the program's Wrap and Next: the frame of a row, or the error; the next frame, or the error. -/
import Derived.Test.YtbaajabiimckoaaFrRef
import Derived.Test.YtbaajabiimckoaaOneWalk
import Derived.Test.YtbaajabiimckoaaRefRow
namespace Go.Proofs.Ytbaajabiimckoaa
open Go.RowKit Base

/-- What Wrap answers. -/
def wrapR (s : ByteArray) : ByteArray × Int := if s.size = 0 then (⟨#[]⟩, 1) else if 65536 < s.size then (⟨#[]⟩, 4) else (wrapS s, 0)
theorem empty_of {t : ByteArray} (h : t.size = 0) : t = ⟨#[]⟩ := by
  apply ByteArray.ext; apply Array.toList_inj.1; apply List.eq_nil_of_length_eq_zero
  have := Lib.size_eq t; omega
theorem not_empty {t : ByteArray} (h : t.size ≠ 0) : (t.toList == (⟨#[]⟩ : ByteArray).toList) = false ∧ t.toList.isEmpty = false := by
  have h5 := Lib.size_eq t
  have h1 : (t.toList == (⟨#[]⟩ : ByteArray).toList) = false := by
    rw [beq_eq_false_iff_ne, ByteArray.toList_eq, ByteArray.toList_eq]
    intro h2
    rw [h2] at h5
    exact h h5
  refine ⟨h1, ?_⟩
  cases hq : t.toList with
  | nil => rw [hq] at h1; simp [ByteArray.toList_eq] at h1
  | cons a b => rfl

set_option maxRecDepth 100000 in
theorem wrap7 (s : ByteArray) (w : World) : Calls Try.prog 7 #[.string s] w fun e w' => e = .returned (.tuple #[.string (wrapR s).1, .int .i64 (wrapR s).2]) ∧ Below w.heap.size w w' := by
  by_cases h0 : s.size = 0
  · have hr : wrapR s = (⟨#[]⟩, 1) := if_pos h0
    rw [hr]
    obtain rfl := empty_of h0
    clear h0 hr
    go_enter Try.func7, Try.ntmps7
    go_wp2
    go_ret2
    exact ⟨rfl, Below.refl _ _⟩
  obtain ⟨hne, hne2⟩ := not_empty h0
  by_cases h1 : 65536 < s.size
  · have hr : wrapR s = (⟨#[]⟩, 4) := by unfold wrapR; rw [if_neg h0, if_pos h1]
    rw [hr]
    have h1' : (65536 : Int) < (s.size : Int) := by omega
    clear h0 hr h1
    go_enter Try.func7, Try.ntmps7
    go_wp2
    go_ret2
    exact ⟨rfl, Below.refl _ _⟩
  · have hr : wrapR s = (wrapS s, 0) := by unfold wrapR; rw [if_neg h0, if_neg h1]
    rw [hr]
    have h1' : ¬ (65536 : Int) < (s.size : Int) := by omega
    have HR := Lib.hid (row12 s w (by omega))
    have hz : (rowB s).size ≤ 1000010 := by
      unfold rowB; rw [ByteArray.size_append]; have := encB_size s.size; omega
    have HW := Lib.hid (show wrapS s = rowB s ++ ⟨#[165]⟩ from rfl)
    rw [HW.out]
    generalize rowB s = x at *
    clear h0 hr h1
    go_enter Try.func7, Try.ntmps7
    go_wp2_with (go_at_call 16; refine HR.out.mono ?_; rintro e w1 ⟨rfl, hb⟩; have HB := Lib.hid hb; clear hb)
    go_ret2
    exact ⟨rfl, HB.out⟩

theorem rowMay_rowN : rowMay 65536 = rowN := by
  funext n; unfold rowMay rowN; simp
/-- The next frame, told by what Row and Take answer. -/
theorem next_cases (S : ByteArray) (h0 : S.size ≠ 0) :
    ((rowR S 65536).1.size = 0 ∧ nextS S = (⟨#[]⟩, 0, orZ (rowR S 65536).2.2 3 (rowR S 65536).2.2)) ∨
    ((rowR S 65536).1.size ≠ 0 ∧ (rowR S 65536).2.2 = 0 ∧ ∃ m : Nat, (rowR S 65536).2.1 = (m : Int) ∧
      ((m = S.size ∧ nextS S = (⟨#[]⟩, 0, 2)) ∨ (∃ h : m < S.size, (S[m] ≠ 165 ∧ nextS S = (⟨#[]⟩, 0, 3)) ∨ (S[m] = 165 ∧ nextS S = ((rowR S 65536).1, m + 1, 0))))) := by
  have hk := numTo_le S rowN
  obtain ⟨⟨n, k, er⟩, hq⟩ : ∃ q, numTo S.data.toList rowN = q := ⟨_, rfl⟩
  rw [hq] at hk
  simp only at hk
  have hq2 : numTo S.data.toList (rowMay 65536) = (n, k, er) := by rw [rowMay_rowN]; exact hq
  by_cases he : er = 0
  · subst he
    have hR := rowR_ok S 65536 _ hq2 rfl
    simp only at hR
    have hx : (S.extract k S.size).size = S.size - k := by simp [ByteArray.size_extract]
    by_cases hn : S.size - k < n
    · have ht : takeR (S.extract k S.size) (n : Int) = (⟨#[]⟩, 2) := by
        unfold takeR; rw [if_neg (by omega), if_pos (by rw [hx]; omega)]
      rw [ht] at hR
      rw [hR]
      left
      refine ⟨rfl, ?_⟩
      show nextS S = (⟨#[]⟩, 0, 2)
      exact nextS_short h0 hq (by omega) (by omega)
    · have ht : takeR (S.extract k S.size) (n : Int) = (S.extract k (k + n), 0) := by
        unfold takeR; rw [if_neg (by omega), if_neg (by rw [hx]; omega), Int.toNat_natCast, ext0 S k n hk (by omega)]
      rw [ht] at hR
      simp only at hR
      have hz : (S.extract k (k + n)).size = n := by simp [ByteArray.size_extract]; omega
      rw [hz] at hR
      rw [hR]
      by_cases hn0 : n = 0
      · left
        subst hn0
        exact ⟨hz, nextS_zero h0 hq rfl⟩
      · right
        refine ⟨by show (S.extract k (k + n)).size ≠ 0; omega, rfl, k + n, by simp, ?_⟩
        by_cases hs : k + n = S.size
        · exact .inl ⟨hs, nextS_short h0 hq hn0 (by omega)⟩
        · have hlt : k + n < S.size := by omega
          refine .inr ⟨hlt, ?_⟩
          by_cases hc : S[k + n] = 165
          · exact .inr ⟨hc, nextS_good h0 hq hn0 hlt hc⟩
          · exact .inl ⟨hc, nextS_last h0 hq hn0 hlt hc⟩
  · have hR := rowR_bad S 65536 (by rw [hq2]; exact he)
    rw [hq2] at hR
    simp only at hR
    rw [hR]
    left
    refine ⟨rfl, ?_⟩
    rw [orZ_no _ _ _ he]
    exact nextS_fault h0 hq he
theorem take_one (S : ByteArray) (m : Nat) (h : m < S.size) : takeR (S.extract m S.size) 1 = (⟨#[S[m]]⟩, 0) := by
  unfold takeR
  have hx : (S.extract m S.size).size = S.size - m := by simp [ByteArray.size_extract]
  rw [if_neg (by omega), if_neg (by rw [hx]; omega)]
  rw [show ((1 : Int).toNat) = 1 from rfl, ext0 S m 1 (by omega) (by omega)]
  congr 1
  apply ByteArray.ext; apply Array.toList_inj.1
  rw [Lib.extract_data]
  have hl : m < S.data.toList.length := by simpa using h
  rw [List.drop_eq_getElem_cons hl, show m + 1 - m = 1 by omega]
  rfl
theorem take_none (S : ByteArray) : takeR (S.extract S.size S.size) 1 = (⟨#[]⟩, 2) := by
  unfold takeR
  have hx : (S.extract S.size S.size).size = 0 := by simp
  rw [if_neg (by omega), if_pos (by rw [hx]; omega)]

set_option maxRecDepth 100000 in
set_option maxHeartbeats 4000000 in
theorem next8 (S : ByteArray) (w : World) (hs : S.size ≤ 1000000) : Calls Try.prog 8 #[.string S] w fun e w' => e = .returned (nextV (nextS S)) ∧ Below w.heap.size w w' := by
  by_cases h0 : S.size = 0
  · rw [nextS_none S h0]
    obtain rfl := empty_of h0
    clear h0 hs
    go_enter Try.func8, Try.ntmps8
    go_wp2
    go_ret3
    exact ⟨rfl, Below.refl _ _⟩
  obtain ⟨hne, hne2⟩ := not_empty h0
  have HO := Lib.hid (read18 S w)
  have hN := fun (W : World) (h : RdX W w.heap.size S 0) => row21 w.heap.size S 0 65536 W hs (by omega) h
  simp only [orZ_ok] at hN
  have hC := next_cases S h0
  obtain ⟨⟨t, k, er⟩, hq⟩ : ∃ q, rowR S 65536 = q := ⟨_, rfl⟩
  rw [hq] at hN hC
  simp only at hN hC
  rcases hC with ⟨ht, hX⟩ | ⟨ht, he, m, hm, hX⟩
  · rw [hX]
    obtain rfl := empty_of ht
    obtain ⟨⟨s1, e1⟩, ha⟩ : ∃ q, AfterX S 0 k er = q := ⟨_, rfl⟩
    have he1 : e1 = er := by
      unfold AfterX at ha
      rw [if_pos rfl] at ha
      split at ha
      · rename_i h; rw [h]; exact (congrArg Prod.snd ha).symm
      · exact (congrArg Prod.snd ha).symm
    have hsz : s1.size ≤ 1000000 := by
      unfold AfterX at ha
      rw [if_pos rfl] at ha
      split at ha
      · have := congrArg (fun p => p.1.size) ha
        simp [ByteArray.size_extract] at this
        omega
      · have := congrArg (fun p => p.1.size) ha
        simp at this
        omega
    rw [ha] at hN
    simp only at hN
    subst he1
    obtain ⟨e2, he2⟩ : ∃ q, orZ e1 3 e1 = q := ⟨_, rfl⟩
    have h2 : e2 ≠ 0 := by
      rw [← he2]; unfold orZ
      split
      · decide
      · assumption
    have HF1 := Lib.hid (fun (W : World) (h : RdX W w.heap.size s1 e1) => by have := fail30 w.heap.size s1 e1 3 W h; rw [he2] at this; exact this)
    have HT := Lib.hid (fun (W : World) (h : RdX W w.heap.size s1 e2) => by have := take24 w.heap.size s1 e2 1 W hsz h; rw [orZ_no _ _ _ h2, AfterX_stop _ _ _ _ h2] at this; exact this)
    have HF2 := Lib.hid (fun (W : World) (h : RdX W w.heap.size s1 e2) => by have := fail30 w.heap.size s1 e2 3 W h; rw [orZ_no _ _ _ h2] at this; exact this)
    have HL := Lib.hid (fun (W : World) (h : RdX W w.heap.size s1 e2) => fault22 w.heap.size s1 e2 W h)
    have HN := Lib.hid hN
    have hb2 : (e2 != 0) = true := by simpa using h2
    rw [he2]
    clear hN hX ht hq ha hsz he2 h0 hs h2
    go_enter Try.func8, Try.ntmps8
    go_wp2_with (first
      | (go_at_call 17; refine HO.out.mono ?_; rintro e w1 ⟨rfl, hr1, hb1⟩; have HR1 := Lib.hid hr1; have HB1 := Lib.hid hb1; clear hr1 hb1)
      | (go_at_call 18; refine (HN.out _ HR1.out).mono ?_; rintro e w2 ⟨rfl, hr2, hg2⟩; have HR2 := Lib.hid hr2; have HB2 := Lib.hid (HB1.out.grown hg2 HB1.out.size (fun k hk => by simp at hk; omega)); clear hr2 hg2)
      | (go_at_call 19; refine (HF1.out _ HR2.out).mono ?_; rintro e w3 ⟨rfl, hr3, hg3⟩; clear HF1; have HR3 := Lib.hid hr3; have HB3 := Lib.hid (HB2.out.grown hg3 HB2.out.size (fun k hk => by simp at hk; omega)); clear hr3 hg3)
      | (go_at_call 20; refine (HT.out _ HR3.out).mono ?_; rintro e w4 ⟨rfl, hr4, hg4⟩; have HR4 := Lib.hid hr4; have HB4 := Lib.hid (HB3.out.grown hg4 HB3.out.size (fun k hk => by simp at hk; omega)); clear hr4 hg4)
      | (go_at_call 19; refine (HF2.out _ HR4.out).mono ?_; rintro e w5 ⟨rfl, hr5, hg5⟩; have HR5 := Lib.hid hr5; have HB5 := Lib.hid (HB4.out.grown hg5 HB4.out.size (fun k hk => by simp at hk; omega)); clear hr5 hg5)
      | (go_at_call 21; refine (HL.out _ HR5.out).mono ?_; rintro e w6 ⟨rfl, rfl⟩))
    go_ret3
    exact ⟨rfl, HB5.out⟩
  · obtain ⟨hne3, hne4⟩ := not_empty ht
    subst he hm
    have ha : AfterX S 0 (m : Int) 0 = (S.extract m S.size, 0) := rfl
    rw [ha] at hN
    simp only at hN
    have hx : (S.extract m S.size).size ≤ 1000000 := by simp [ByteArray.size_extract]; omega
    have HN := Lib.hid hN
    have hTk := fun (W : World) (h : RdX W w.heap.size (S.extract m S.size) 0) => take24 w.heap.size (S.extract m S.size) 0 1 W hx h
    rcases hX with ⟨hms, hX⟩ | ⟨hlt, ⟨hc, hX⟩ | ⟨hc, hX⟩⟩
    · subst hms
      rw [hX]
      rw [take_none] at hTk
      rw [show AfterX (S.extract S.size S.size) 0 (((⟨#[]⟩ : ByteArray), (2 : Int)).1.size : Int) ((⟨#[]⟩ : ByteArray), (2 : Int)).2 = (S.extract S.size S.size, 2) from rfl] at hTk
      simp only [orZ_ok] at hTk
      generalize S.extract S.size S.size = s1 at *
      have HT := Lib.hid hTk
      have HF := Lib.hid (fun (W : World) (h : RdX W w.heap.size s1 2) => fail30 w.heap.size s1 2 3 W h)
      have HL := Lib.hid (fun (W : World) (h : RdX W w.heap.size s1 2) => fault22 w.heap.size s1 2 W h)
      clear hN hX hx hq ha h0 hs hTk
      go_enter Try.func8, Try.ntmps8
      go_wp2_with (first
        | (go_at_call 17; refine HO.out.mono ?_; rintro e w1 ⟨rfl, hr1, hb1⟩; have HR1 := Lib.hid hr1; have HB1 := Lib.hid hb1; clear hr1 hb1)
        | (go_at_call 18; refine (HN.out _ HR1.out).mono ?_; rintro e w2 ⟨rfl, hr2, hg2⟩; have HR2 := Lib.hid hr2; have HB2 := Lib.hid (HB1.out.grown hg2 HB1.out.size (fun k hk => by simp at hk; omega)); clear hr2 hg2)
        | (go_at_call 20; refine (HT.out _ HR2.out).mono ?_; rintro e w4 ⟨rfl, hr4, hg4⟩; have HR4 := Lib.hid hr4; have HB4 := Lib.hid (HB2.out.grown hg4 HB2.out.size (fun k hk => by simp at hk; omega)); clear hr4 hg4)
        | (go_at_call 19; refine (HF.out _ HR4.out).mono ?_; rintro e w5 ⟨rfl, hr5, hg5⟩; have HR5 := Lib.hid hr5; have HB5 := Lib.hid (HB4.out.grown hg5 HB4.out.size (fun k hk => by simp at hk; omega)); clear hr5 hg5)
        | (go_at_call 21; refine (HL.out _ HR5.out).mono ?_; rintro e w6 ⟨rfl, rfl⟩))
      go_ret3
      exact ⟨rfl, HB5.out⟩
    · rw [hX]
      have hc1 : ((⟨#[S[m]]⟩ : ByteArray).toList == [165]) = false := by
        rw [beq_eq_false_iff_ne, ByteArray.toList_eq]
        intro h2; exact hc (by simpa using h2)
      rw [take_one S m hlt] at hTk
      simp only [orZ_ok] at hTk
      generalize (⟨#[S[m]]⟩ : ByteArray) = u at *
      obtain ⟨⟨s1, e1⟩, ha1⟩ : ∃ q, AfterX (S.extract m S.size) 0 (u.size : Int) 0 = q := ⟨_, rfl⟩
      have he1 : e1 = 0 := (congrArg Prod.snd ha1).symm
      subst he1
      rw [ha1] at hTk
      simp only at hTk
      generalize S.extract m S.size = s0 at *
      have HT := Lib.hid hTk
      have HF := Lib.hid (fun (W : World) (h : RdX W w.heap.size s1 0) => fail30 w.heap.size s1 0 3 W h)
      have HL := Lib.hid (fun (W : World) (h : RdX W w.heap.size s1 3) => fault22 w.heap.size s1 3 W h)
      clear hN hX hx hq ha h0 hs hTk ha1 hc
      go_enter Try.func8, Try.ntmps8
      go_wp2_with (first
        | (go_at_call 17; refine HO.out.mono ?_; rintro e w1 ⟨rfl, hr1, hb1⟩; have HR1 := Lib.hid hr1; have HB1 := Lib.hid hb1; clear hr1 hb1)
        | (go_at_call 18; refine (HN.out _ HR1.out).mono ?_; rintro e w2 ⟨rfl, hr2, hg2⟩; have HR2 := Lib.hid hr2; have HB2 := Lib.hid (HB1.out.grown hg2 HB1.out.size (fun k hk => by simp at hk; omega)); clear hr2 hg2)
        | (go_at_call 20; refine (HT.out _ HR2.out).mono ?_; rintro e w4 ⟨rfl, hr4, hg4⟩; have HR4 := Lib.hid hr4; have HB4 := Lib.hid (HB2.out.grown hg4 HB2.out.size (fun k hk => by simp at hk; omega)); clear hr4 hg4)
        | (go_at_call 19; refine (HF.out _ HR4.out).mono ?_; rintro e w5 ⟨rfl, hr5, hg5⟩; have HR5 := Lib.hid hr5; have HB5 := Lib.hid (HB4.out.grown hg5 HB4.out.size (fun k hk => by simp at hk; omega)); clear hr5 hg5)
        | (go_at_call 21; refine (HL.out _ HR5.out).mono ?_; rintro e w6 ⟨rfl, rfl⟩))
      go_ret3
      exact ⟨rfl, HB5.out⟩
    · rw [hX]
      have hz1 : (S.extract m S.size).size = S.size - m := by simp [ByteArray.size_extract]
      rw [take_one S m hlt, hc] at hTk
      simp only [orZ_ok] at hTk
      obtain ⟨⟨s1, e1⟩, ha1⟩ : ∃ q, AfterX (S.extract m S.size) 0 (((⟨#[165]⟩ : ByteArray).size : Nat) : Int) 0 = q := ⟨_, rfl⟩
      have he1 : e1 = 0 := (congrArg Prod.snd ha1).symm
      subst he1
      have hs1 : (S.size : Int) - (s1.size : Int) = ((m + 1 : Nat) : Int) := by
        have h6 := congrArg (fun p => p.1.size) ha1
        simp only [AfterX, if_true] at h6
        have h7 : ((S.extract m S.size).extract ((((⟨#[165]⟩ : ByteArray).size : Nat) : Int).toNat) (S.extract m S.size).size).size = S.size - m - 1 := by
          rw [show ((((⟨#[165]⟩ : ByteArray).size : Nat) : Int).toNat) = 1 from rfl, ByteArray.size_extract, hz1]; omega
        rw [h7] at h6
        omega
      rw [ha1] at hTk
      simp only at hTk
      generalize S.extract m S.size = s0 at *
      have HT := Lib.hid hTk
      have HV := Lib.hid (fun (W : World) (h : RdX W w.heap.size s1 0) => left23 w.heap.size s1 0 W h)
      have HL := Lib.hid (fun (W : World) (h : RdX W w.heap.size s1 0) => fault22 w.heap.size s1 0 W h)
      have hs2 : wrap64 ((S.size : Int) - (s1.size : Int)) = ((m + 1 : Nat) : Int) := by rw [hs1]; exact IntWalk.wrap64_in _ (by omega)
      have HS2 := Lib.hid hs2
      clear hN hX hx hq ha h0 hs hTk ha1 hc hz1 hs1 hs2
      go_enter Try.func8, Try.ntmps8
      go_wp2_with (first
        | (go_at_call 17; refine HO.out.mono ?_; rintro e w1 ⟨rfl, hr1, hb1⟩; have HR1 := Lib.hid hr1; have HB1 := Lib.hid hb1; clear hr1 hb1)
        | (go_at_call 18; refine (HN.out _ HR1.out).mono ?_; rintro e w2 ⟨rfl, hr2, hg2⟩; have HR2 := Lib.hid hr2; have HB2 := Lib.hid (HB1.out.grown hg2 HB1.out.size (fun k hk => by simp at hk; omega)); clear hr2 hg2)
        | (go_at_call 20; refine (HT.out _ HR2.out).mono ?_; rintro e w4 ⟨rfl, hr4, hg4⟩; have HR4 := Lib.hid hr4; have HB4 := Lib.hid (HB2.out.grown hg4 HB2.out.size (fun k hk => by simp at hk; omega)); clear hr4 hg4)
        | (go_at_call 21; refine (HL.out _ HR4.out).mono ?_; rintro e w6 ⟨rfl, rfl⟩)
        | (go_at_call 22; refine (HV.out _ HR4.out).mono ?_; rintro e w7 ⟨rfl, rfl⟩))
      go_ret3
      exact ⟨own_ret3 (b' := .int .i64 ((m + 1 : Nat) : Int)) rfl (congrArg (Value.int .i64) HS2.out) rfl, HB4.out⟩
end Go.Proofs.Ytbaajabiimckoaa
