/- Contracts of the other calls of the document's reader but Row. -/
import Derived.Test.YtedkjiheanmkeaaRefs
namespace Go.Proofs.Ytedkjiheanmkeaa
open Go.RowKit

theorem numTo_all (s : List UInt8) : numTo s (fun n => decide ((n : Int) ≤ 18446744073709551615)) = M.num s :=
  numTo_ok (.inr (by have := M.num_lt s; simp; omega))

theorem int27 (q : Nat) (S : ByteArray) (P : Nat) (e : Int) (w : World) (hs : S.size ≤ 1000000) (hP : P ≤ S.size) (hY : RdY w q S P e) :
    Calls Try.prog 27 #[.pointer (some ⟨q, 0, none⟩)] w fun x w' => x = .returned (.int .i64 (orZ e (M.zag (M.num (S.extract P S.size).data.toList).1) 0)) ∧
      RdY w' q S (AfterY P e (M.num (S.extract P S.size).data.toList).2.1 (M.num (S.extract P S.size).data.toList).2.2).1
        (AfterY P e (M.num (S.extract P S.size).data.toList).2.1 (M.num (S.extract P S.size).data.toList).2.2).2 ∧ w.grownBy w' (some q) := by
  have HA := Lib.hid (num26 q S P e 18446744073709551615 w hs hP hY)
  rw [numTo_all] at HA
  have hlt := M.num_lt (S.extract P S.size).data.toList
  obtain ⟨N, hN⟩ : ∃ N, N = M.num (S.extract P S.size).data.toList := ⟨_, rfl⟩
  rw [← hN] at HA hlt ⊢
  obtain ⟨v, hv⟩ : ∃ v, v = orZ e (N.1 : Int) 0 := ⟨_, rfl⟩
  have hvz : M.zag v = orZ e (M.zag N.1) 0 := by
    rw [hv]
    by_cases he : e = 0
    · subst he; rfl
    · rw [orZ_no _ _ _ he, orZ_no _ _ _ he]; rfl
  have hvb : 0 ≤ v ∧ v ≤ 18446744073709551615 := by
    rw [hv]
    by_cases he : e = 0
    · subst he; rw [orZ_ok]; omega
    · rw [orZ_no _ _ _ he]; omega
  rw [← hv] at HA
  rw [← hvz]
  obtain ⟨hv1, hv2⟩ := hvb
  have HZ := Lib.hid (fun W => zag17 v W hv1 hv2)
  clear hN hv hvz hlt hY
  go_enter Try.func27, Try.ntmps27
  go_wp2_with (first
    | (go_at_call 26; refine HA.out.mono ?_; rintro x w1 ⟨rfl, hr, hg⟩; have HR := Lib.hid hr; clear hr)
    | (go_at_call 17; refine (HZ.out _).mono ?_; rintro x w2 ⟨rfl, rfl⟩))
  go_ret
  exact ⟨rfl, HR.out, hg⟩

theorem fail31 (q : Nat) (S : ByteArray) (P : Nat) (e f : Int) (w : World) (hY : RdY w q S P e) :
    Calls Try.prog 31 #[.pointer (some ⟨q, 0, none⟩), .int .i64 f] w fun x w' => x = .returned (.tuple #[]) ∧ RdY w' q S P (orZ e f e) ∧ w.grownBy w' (some q) := by
  have c2 := hY.c2
  have f2 := hY.f 2
  by_cases he : e = 0
  · subst he
    rw [orZ_ok]
    have HY := Lib.hid hY; clear hY
    go_enter Try.func31, Try.ntmps31
    go_wp2
    go_end0
    exact ⟨rfl, HY.out.set2 f, grown_set _ q 2 _⟩
  · rw [orZ_no _ _ _ he]
    have hb : (e == 0) = false := by simpa using he
    have HY := Lib.hid hY; clear hY he
    go_enter Try.func31, Try.ntmps31
    go_wp2
    go_end0
    exact ⟨rfl, HY.out, ⟨rfl, rfl, rfl, Nat.le_refl _, fun _ _ _ => rfl⟩⟩

theorem left32 (q : Nat) (S : ByteArray) (P : Nat) (e : Int) (w : World) (hs : S.size ≤ 1000000) (hP : P ≤ S.size) (hY : RdY w q S P e) :
    Calls Try.prog 32 #[.pointer (some ⟨q, 0, none⟩)] w fun x w' => x = .returned (.int .i64 ((S.extract P S.size).size : Int)) ∧ ∃ n, w' = w.drewN n := by
  have c0 := hY.c0; have c1 := hY.c1
  have hrz : ((S.extract P S.size).size : Int) = (S.size : Int) - (P : Int) := by
    simp [ByteArray.size_extract]; omega
  rw [hrz]
  have hw1 : IntKind.i64.wrap ((S.size : Int) - (P : Int)) = (S.size : Int) - (P : Int) := IntWalk.i64_in _ (by omega)
  clear hY hrz
  go_enter Try.func32, Try.ntmps32
  go_wp2
  go_quiet (fail)
  go_wp2
  go_ret
  exact ⟨rfl, _, rfl⟩

theorem ext0 (S : ByteArray) (P n : Nat) (hP : P ≤ S.size) (h : n ≤ S.size - P) : (S.extract P S.size).extract 0 n = S.extract P (P + n) := by
  apply ByteArray.ext
  simp only [ByteArray.data_extract, Array.extract_extract]
  congr 1 <;> omega

set_option maxRecDepth 100000 in
set_option maxHeartbeats 1000000 in
theorem take29 (q : Nat) (S : ByteArray) (P : Nat) (e : Int) (n : Int) (w : World) (hs : S.size ≤ 1000000) (hP : P ≤ S.size) (hY : RdY w q S P e) :
    Calls Try.prog 29 #[.pointer (some ⟨q, 0, none⟩), .int .i64 n] w fun x w' => x = .returned (.string (orZ e (takeR (S.extract P S.size) n).1 ⟨#[]⟩)) ∧
      RdY w' q S (AfterY P e ((takeR (S.extract P S.size) n).1.size : Int) (takeR (S.extract P S.size) n).2).1 (AfterY P e ((takeR (S.extract P S.size) n).1.size : Int) (takeR (S.extract P S.size) n).2).2 ∧ w.grownBy w' (some q) := by
  have c0 := hY.c0; have c1 := hY.c1; have c2 := hY.c2
  by_cases he : e = 0
  · subst he
    rw [orZ_ok]
    have f1 := hY.f 1; have f2 := hY.f 2
    have hrz : (S.extract P S.size).size = S.size - P := by simp [ByteArray.size_extract]
    by_cases h1 : n < 0
    · have hR : takeR (S.extract P S.size) n = (⟨#[]⟩, 1) := by unfold takeR; rw [if_pos h1]
      rw [hR, AfterY_no _ _ _ (by decide)]
      have HS := Lib.hid hY
      clear hY hrz hR
      go_enter Try.func29, Try.ntmps29
      go_wp2
      go_ret
      exact ⟨rfl, HS.out.set2 1, grown_set _ q 2 _⟩
    · have hw1 : IntKind.i64.wrap ((S.size : Int) - (P : Int)) = (S.size : Int) - (P : Int) := IntWalk.i64_in _ (by omega)
      by_cases h2 : ((S.extract P S.size).size : Int) < n
      · have hR : takeR (S.extract P S.size) n = (⟨#[]⟩, 2) := by unfold takeR; rw [if_neg h1, if_pos h2]
        rw [hR, AfterY_no _ _ _ (by decide)]
        have HS := Lib.hid (hY.drewN)
        have h3 : (S.size : Int) - (P : Int) < n := by rw [hrz] at h2; omega
        clear hY hrz hR h2
        go_enter Try.func29, Try.ntmps29
        go_wp2
        go_quiet (fail)
        go_wp2
        go_ret
        exact ⟨rfl, (HS.out nq).set2 2, grown_drewN w nq (grown_set _ q 2 _)⟩
      · obtain ⟨k, rfl⟩ := Int.eq_ofNat_of_zero_le (show 0 ≤ n by omega)
        have hR : takeR (S.extract P S.size) (k : Int) = (S.extract P (P + k), 0) := by unfold takeR; rw [if_neg h1, if_neg h2, Int.toNat_natCast, ext0 _ _ _ hP (by rw [hrz] at h2; omega)]
        have hRz : (S.extract P (P + k)).size = k := by simp [ByteArray.size_extract]; rw [hrz] at h2; omega
        rw [hR]
        rw [hRz]
        rw [AfterY_ok]
        have HS := Lib.hid (hY.drewN)
        have h3 : (k : Int) ≤ (S.size : Int) - (P : Int) := by rw [hrz] at h2; omega
        clear hY hrz hR h2 hRz h1
        go_enter Try.func29, Try.ntmps29
        go_wp2
        go_quiet (fail)
        go_wp2
        have HY2 : RdY ((w.drewN nq).setCell ⟨q, 1, none⟩ (.int .i64 ((P : Int) + (k : Int)))) q S (P + k) 0 := (HS.out nq).set1 (P + k)
        have hg2 : w.grownBy ((w.drewN nq).setCell ⟨q, 1, none⟩ (.int .i64 ((P : Int) + (k : Int)))) (some q) := grown_drewN w nq (grown_set _ q 1 _)
        have d0 := HY2.c0
        have d1 := HY2.c1
        rw [Int.natCast_add] at d1
        generalize (w.drewN nq).setCell ⟨q, 1, none⟩ (.int .i64 ((P : Int) + (k : Int))) = W at *
        have HY3 := Lib.hid HY2; clear HY2
        have hw2 : IntKind.i64.wrap ((P : Int) + (k : Int) - (k : Int)) = (P : Int) := by rw [IntWalk.i64_in _ (by omega)]; omega
        have hb1 : (0 : Int) ≤ (P : Int) + (k : Int) := by omega
        have hb2 : (P : Int) ≤ (P : Int) + (k : Int) := by omega
        have hb3 : (P : Int) + (k : Int) ≤ (S.size : Int) := by omega
        have hb4 : ((P : Int) + (k : Int)).toNat = P + k := by omega
        go_quiet (fail)
        go_wp2
        go_ret
        exact ⟨rfl, HY3.out.drewN _, grown_trans hg2 (grown_drew0 W _ _)⟩
  · rw [orZ_no _ _ _ he, AfterY_stop _ _ _ _ he]
    have hb : (e != 0) = true := by simpa using he
    have HY := Lib.hid hY
    clear hY he
    go_enter Try.func29, Try.ntmps29
    go_wp2
    go_ret
    exact ⟨rfl, HY.out, ⟨rfl, rfl, rfl, Nat.le_refl _, fun _ _ _ => rfl⟩⟩
end Go.Proofs.Ytedkjiheanmkeaa
