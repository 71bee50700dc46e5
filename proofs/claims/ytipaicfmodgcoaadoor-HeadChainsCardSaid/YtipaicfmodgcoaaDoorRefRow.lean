/- The contract of the document's reader: Row. -/
import Derived.Test.YtipaicfmodgcoaaDoorRefs2
namespace Go.Proofs.YtipaicfmodgcoaaDoor
open Go.RowKit

/-- Row's look, by its cases. -/
theorem rowR_bad (r : ByteArray) (most : Int) (h : (numTo r.data.toList (rowMay most)).2.2 ≠ 0) : rowR r most = (⟨#[]⟩, 0, (numTo r.data.toList (rowMay most)).2.2) := by
  unfold rowR; rw [if_neg h]
theorem rowR_ok (r : ByteArray) (most : Int) (N : Nat × Nat × Int) (hN : numTo r.data.toList (rowMay most) = N) (h : N.2.2 = 0) :
    rowR r most = ((takeR (r.extract N.2.1 r.size) N.1).1, N.2.1 + ((takeR (r.extract N.2.1 r.size) N.1).1.size : Int), (takeR (r.extract N.2.1 r.size) N.1).2) := by
  unfold rowR; rw [hN, if_pos h]

theorem ext2 (S : ByteArray) (P k n : Nat) (hP : P ≤ S.size) (hk : k ≤ S.size - P) (h : n ≤ S.size - P - k) :
    ((S.extract P S.size).extract k (S.extract P S.size).size).extract 0 n = S.extract (P + k) (P + k + n) := by
  apply ByteArray.ext
  have e : (S.extract P S.size).size = S.size - P := by simp [ByteArray.size_extract]
  rw [e]
  simp only [ByteArray.data_extract, Array.extract_extract]
  congr 1 <;> omega

set_option maxRecDepth 100000 in
set_option maxHeartbeats 2000000 in
theorem row28 (q : Nat) (S : ByteArray) (P : Nat) (e : Int) (most : Int) (w : World) (hs : S.size ≤ 1000000) (hP : P ≤ S.size) (hm1 : -9223372036854775808 ≤ most) (hm2 : most ≤ 9223372036854775807) (hY : RdY w q S P e) :
    Calls Tryd.prog 34 #[.pointer (some ⟨q, 0, none⟩), .int .i64 most] w fun x w' => x = .returned (.string (orZ e (rowR (S.extract P S.size) most).1 ⟨#[]⟩)) ∧
      RdY w' q S (AfterY P e (rowR (S.extract P S.size) most).2.1 (rowR (S.extract P S.size) most).2.2).1 (AfterY P e (rowR (S.extract P S.size) most).2.1 (rowR (S.extract P S.size) most).2.2).2 ∧ w.grownBy w' (some q) := by
  have c0 := hY.c0; have c1 := hY.c1; have c2 := hY.c2
  by_cases he : e = 0
  · subst he
    rw [orZ_ok]
    have f1 := hY.f 1; have f2 := hY.f 2
    obtain ⟨r, hr⟩ : ∃ r, r = S.extract P S.size := ⟨_, rfl⟩
    have hrs : r.size ≤ maxLen := by rw [hr]; unfold maxLen; simp [ByteArray.size_extract]; omega
    have hle := num_le r
    have hrz : r.size = S.size - P := by rw [hr]; simp [ByteArray.size_extract]
    have HD := Lib.hid (fun W => digits45q r W hrs)
    obtain ⟨N, hN⟩ : ∃ N, N = M.num r.data.toList := ⟨_, rfl⟩
    have hbad : N.2.2 = 0 → rowMay most N.1 = false → numTo r.data.toList (rowMay most) = (0, 0, 4) := fun a b => numTo_bad (by rw [← hN]; exact a) (by rw [← hN]; exact b)
    have hok : N.2.2 ≠ 0 ∨ rowMay most N.1 = true → numTo r.data.toList (rowMay most) = N := fun a => (numTo_ok (by rw [← hN]; exact a)).trans hN.symm
    rw [← hN] at hle HD
    rw [hr] at HD
    have HS := Lib.hid (hY.drewN)
    by_cases he : N.2.2 = 0
    · have hb : (N.2.2 == 0) = true := by simpa using he
      have hbn : (N.2.2 != 0) = false := by simpa using he
      by_cases hm : rowMay most N.1 = true
      · have hR := rowR_ok r most N (hok (.inr hm)) he
        have hma : 0 ≤ most ∧ (N.1 : Int) ≤ most := by simpa [rowMay] using hm
        obtain ⟨ha, hb'⟩ := hma
        have hmn : decide (most < 0) = false := by simpa using ha
        have hwm : IntKind.u64.wrap most = most := by rw [IntKind.wrap_u64]; omega
        have hw1 : IntKind.i64.wrap ((S.size : Int) - (P : Int)) = (S.size : Int) - (P : Int) := IntWalk.i64_in _ (by omega)
        have hw2 : IntKind.i64.wrap ((S.size : Int) - (P : Int) - (N.2.1 : Int)) = (S.size : Int) - (P : Int) - (N.2.1 : Int) := IntWalk.i64_in _ (by omega)
        have hw3 : IntKind.u64.wrap ((S.size : Int) - (P : Int) - (N.2.1 : Int)) = (S.size : Int) - (P : Int) - (N.2.1 : Int) := by rw [IntKind.wrap_u64]; omega
        have hez : (r.extract N.2.1 r.size).size = S.size - P - N.2.1 := by simp [ByteArray.size_extract]; omega
        by_cases hl : ((S.size : Int) - (P : Int) - (N.2.1 : Int)) < (N.1 : Int)
        · have hT : takeR (r.extract N.2.1 r.size) N.1 = (⟨#[]⟩, 2) := by unfold takeR; rw [if_neg (by omega), if_pos (by rw [hez]; omega)]
          rw [← hr, hR, hT, AfterY_no _ _ _ (by show (2 : Int) ≠ 0; decide)]
          clear hY hN hbad hok hrs hr hR he hm hT hez hrz
          go_enter Tryd.func34, Tryd.ntmps34
          go_wp2
          go_quiet ((go_at_call 56; exact Calls.quiet_of_same (HD.out _)))
          go_wp2
          go_quiet (fail)
          go_wp2
          go_ret
          exact ⟨rfl, (HS.out _).set2 2, grown_drewN _ _ (grown_setN _ q 2 _)⟩
        · have hT : takeR (r.extract N.2.1 r.size) N.1 = (S.extract (P + N.2.1) (P + N.2.1 + N.1), 0) := by
            unfold takeR
            rw [if_neg (by omega), if_neg (by rw [hez]; omega), Int.toNat_natCast, hr, ext2 S P N.2.1 N.1 hP (by omega) (by omega)]
          have hTz : (S.extract (P + N.2.1) (P + N.2.1 + N.1)).size = N.1 := by simp [ByteArray.size_extract]; omega
          have hAF : AfterY P 0 ((N.2.1 : Int) + (N.1 : Int)) 0 = (P + N.2.1 + N.1, 0) := by
            rw [AfterY_ok, show ((N.2.1 : Int) + (N.1 : Int)).toNat = N.2.1 + N.1 from by omega, Nat.add_assoc]
          rw [← hr, hR, hT]
          simp only
          rw [hTz, hAF]
          have hkb : N.2.1 ≤ S.size - P := by omega
          have hnb : (N.1 : Int) ≤ (S.size : Int) - (P : Int) - (N.2.1 : Int) := by omega
          clear hY hN hbad hok hrs hr hR he hm hT hez hrz hTz hAF
          go_enter Tryd.func34, Tryd.ntmps34
          go_wp2
          go_quiet ((go_at_call 56; exact Calls.quiet_of_same (HD.out _)))
          go_wp2
          generalize nq = n1 at *
          go_quiet (fail)
          go_wp2
          have HY2 : RdY ((w.drewN (n1 + nq)).setCell ⟨q, 1, none⟩ (.int .i64 ((P : Int) + (N.2.1 : Int) + (N.1 : Int)))) q S (P + N.2.1 + N.1) 0 := (HS.out _).set1 (P + N.2.1 + N.1)
          have hg2 : w.grownBy ((w.drewN (n1 + nq)).setCell ⟨q, 1, none⟩ (.int .i64 ((P : Int) + (N.2.1 : Int) + (N.1 : Int)))) (some q) := grown_drewN _ _ (grown_setN _ q 1 _)
          have d0 := HY2.c0
          have d1 := HY2.c1
          rw [Int.natCast_add, Int.natCast_add] at d1
          generalize (w.drewN (n1 + nq)).setCell ⟨q, 1, none⟩ (.int .i64 ((P : Int) + (N.2.1 : Int) + (N.1 : Int))) = W at *
          have HY3 := Lib.hid HY2; clear HY2
          have hwn : IntKind.i64.wrap (N.1 : Int) = (N.1 : Int) := IntWalk.i64_in _ (by omega)
          have hwa : IntKind.i64.wrap ((P : Int) + (N.2.1 : Int) + (N.1 : Int) - (N.1 : Int)) = (P : Int) + (N.2.1 : Int) := by rw [IntWalk.i64_in _ (by omega)]; omega
          have hb1 : (0 : Int) ≤ (P : Int) + (N.2.1 : Int) + (N.1 : Int) := by omega
          have hb0 : (0 : Int) ≤ (P : Int) + (N.2.1 : Int) := by omega
          have hb2 : (P : Int) + (N.2.1 : Int) ≤ (P : Int) + (N.2.1 : Int) + (N.1 : Int) := by omega
          have hb3 : (P : Int) + (N.2.1 : Int) + (N.1 : Int) ≤ (S.size : Int) := by omega
          have hb4 : ((P : Int) + (N.2.1 : Int) + (N.1 : Int)).toNat = P + N.2.1 + N.1 := by omega
          have hb5 : ((P : Int) + (N.2.1 : Int)).toNat = P + N.2.1 := by omega
          go_quiet (fail)
          go_wp2
          go_ret
          exact ⟨rfl, HY3.out.drewN _, grown_transN hg2 (grown_drew0 W _ _)⟩
      · have hm' : rowMay most N.1 = false := by simpa using hm
        have hR := rowR_bad r most (by rw [hbad he hm']; decide)
        rw [← hr, hR, hbad he hm', AfterY_no _ _ _ (by decide)]
        have h4 : ((4 : Int) == 0) = false := by decide
        have hmm : most < 0 ∨ (0 ≤ most ∧ most < (N.1 : Int)) := by
          simp only [rowMay, Bool.and_eq_false_iff, decide_eq_false_iff_not] at hm'; omega
        clear hY hN hbad hok hrs hr hR he hm hm' hrz
        rcases hmm with hmm | ⟨hm3, hm4⟩
        · go_enter Tryd.func34, Tryd.ntmps34
          go_wp2
          go_quiet ((go_at_call 56; exact Calls.quiet_of_same (HD.out _)))
          go_wp2
          go_quiet (fail)
          go_wp2
          go_ret
          exact ⟨rfl, (HS.out _).set2 4, grown_drewN _ _ (grown_setN _ q 2 _)⟩
        · have hwm : IntKind.u64.wrap most = most := by rw [IntKind.wrap_u64]; omega
          go_enter Tryd.func34, Tryd.ntmps34
          go_wp2
          go_quiet ((go_at_call 56; exact Calls.quiet_of_same (HD.out _)))
          go_wp2
          go_quiet (fail)
          go_wp2
          go_ret
          exact ⟨rfl, (HS.out _).set2 4, grown_drewN _ _ (grown_setN _ q 2 _)⟩
    · have hb : (N.2.2 == 0) = false := by simpa using he
      have hbn : (N.2.2 != 0) = true := by simpa using he
      have hR := rowR_bad r most (by rw [hok (.inl he)]; exact he)
      rw [← hr, hR, hok (.inl he), AfterY_no _ _ _ he]
      clear hY hN hbad hok hrs hr hR he hrz
      go_enter Tryd.func34, Tryd.ntmps34
      go_wp2
      go_quiet ((go_at_call 56; exact Calls.quiet_of_same (HD.out _)))
      go_wp2
      go_quiet (fail)
      go_wp2
      go_ret
      exact ⟨rfl, (HS.out _).set2 N.2.2, grown_drewN _ _ (grown_setN _ q 2 _)⟩
  · rw [orZ_no _ _ _ he, AfterY_stop _ _ _ _ he]
    have hb : (e != 0) = true := by simpa using he
    have HY := Lib.hid hY
    clear hY he
    go_enter Tryd.func34, Tryd.ntmps34
    go_wp2
    go_ret
    exact ⟨rfl, HY.out, ⟨rfl, rfl, rfl, Nat.le_refl _, fun _ _ _ => rfl⟩⟩
end Go.Proofs.YtipaicfmodgcoaaDoor
