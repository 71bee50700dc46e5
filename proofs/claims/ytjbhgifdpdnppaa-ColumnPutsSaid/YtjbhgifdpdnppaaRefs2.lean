/- Contracts of the other calls of the document's reader but Row. -/
import Derived.Test.YtjbhgifdpdnppaaRefs
namespace Go.Proofs.Ytjbhgifdpdnppaa
open Go.RowKit

theorem numTo_all (s : List UInt8) : numTo s (fun n => decide ((n : Int) ≤ 18446744073709551615)) = M.num s :=
  numTo_ok (.inr (by have := M.num_lt s; simp; omega))

theorem int27 (q : Nat) (S : ByteArray) (P : Nat) (e : Int) (w : World) (hs : S.size ≤ 1000000) (hP : P ≤ S.size) (hY : RdY w q S P e) :
    Calls Try.prog 29 #[.pointer (some ⟨q, 0, none⟩)] w fun x w' => x = .returned (.int .i64 (orZ e (M.zag (M.num (S.extract P S.size).data.toList).1) 0)) ∧
      RdY w' q S (AfterY P e (M.num (S.extract P S.size).data.toList).2.1 (M.num (S.extract P S.size).data.toList).2.2).1
        (AfterY P e (M.num (S.extract P S.size).data.toList).2.1 (M.num (S.extract P S.size).data.toList).2.2).2 ∧ w.grownBy w' (some q) := by
  have HA := Lib.hid (num26 q S P e 18446744073709551615 w hs hP hY)
  rw [numTo_all] at HA
  have hlt := M.num_lt (S.extract P S.size).data.toList
  obtain ⟨N, hN⟩ : ∃ N, N = M.num (S.extract P S.size).data.toList := ⟨_, rfl⟩
  rw [← hN] at HA hlt ⊢
  obtain ⟨v, hv⟩ : ∃ v, v = orZ e (N.1 : Int) 0 := ⟨_, rfl⟩
  have hvz : M.zag v = orZ e (M.zag N.1) 0 := by
    rw [hv]
    by_cases he : e = 0
    · subst he; rfl
    · rw [orZ_no _ _ _ he, orZ_no _ _ _ he]; rfl
  have hvb : 0 ≤ v ∧ v ≤ 18446744073709551615 := by
    rw [hv]
    by_cases he : e = 0
    · subst he; rw [orZ_ok]; omega
    · rw [orZ_no _ _ _ he]; omega
  rw [← hv] at HA
  rw [← hvz]
  obtain ⟨hv1, hv2⟩ := hvb
  have HZ := Lib.hid (fun W => zag17 v W hv1 hv2)
  clear hN hv hvz hlt hY
  go_enter Try.func29, Try.ntmps29
  go_wp2_with (first
    | (go_at_call 28; refine HA.out.mono ?_; rintro x w1 ⟨rfl, hr, hg⟩; have HR := Lib.hid hr; clear hr)
    | (go_at_call 44; refine (HZ.out _).mono ?_; rintro x w2 ⟨rfl, rfl⟩))
  go_ret
  exact ⟨rfl, HR.out, hg⟩

theorem ext0 (S : ByteArray) (P n : Nat) (hP : P ≤ S.size) (h : n ≤ S.size - P) : (S.extract P S.size).extract 0 n = S.extract P (P + n) := by
  apply ByteArray.ext
  simp only [ByteArray.data_extract, Array.extract_extract]
  congr 1 <;> omega
end Go.Proofs.Ytjbhgifdpdnppaa
