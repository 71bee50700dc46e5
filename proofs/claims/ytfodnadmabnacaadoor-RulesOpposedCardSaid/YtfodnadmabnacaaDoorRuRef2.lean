/- The document's digits of a number with a sign: the contract. -/
import Derived.Test.YtfodnadmabnacaaDoorRuRef1
namespace Go.Proofs.YtfodnadmabnacaaDoor
open Go.RowKit Base Base2

theorem tmod_negT (M : Nat) : (-(M : Int)).tmod 10 = -((M % 10 : Nat) : Int) := by rw [Int.neg_tmod, Int.tmod_eq_emod_of_nonneg (by omega)]; omega
theorem tdiv_negT (M : Nat) : (-(M : Int)).tdiv 10 = -((M / 10 : Nat) : Int) := by rw [Int.neg_tdiv, Int.tdiv_eq_ediv_of_nonneg (by omega)]; omega
theorem decB_small {n : Nat} (h : n < 10) : decB n = ⟨#[UInt8.ofNat (48 + n)]⟩ := by unfold decB; rw [decL_small h]
/-- What is left to be told of a number's digits. -/
def headB (m : Nat) : ByteArray := if m = 0 then ⟨#[]⟩ else decB m
theorem headB_next {m : Nat} (h : m ≠ 0) : headB m = headB (m / 10) ++ decB (m % 10) := by
  unfold headB
  rw [if_neg h]
  by_cases h1 : m < 10
  · rw [if_pos (by omega), show m % 10 = m by omega]
    apply ByteArray.ext; simp
  · rw [if_neg (by omega), decB_more h1]
theorem app_assocB (a b c : ByteArray) : a ++ b ++ c = a ++ (b ++ c) := by apply ByteArray.ext; simp
theorem app_nilB (a : ByteArray) : a ++ (⟨#[]⟩ : ByteArray) = a := by apply ByteArray.ext; simp
theorem nil_appB (a : ByteArray) : (⟨#[]⟩ : ByteArray) ++ a = a := by apply ByteArray.ext; simp
theorem size_appB (a b : ByteArray) : (a ++ b).size = a.size + b.size := ByteArray.size_append
set_option maxRecDepth 100000 in
theorem dec21n (n : Nat) (h64 : n < 9223372036854775808) : ∀ (w : World), Calls Tryd.prog 22 #[.int .i64 (n : Int)] w fun e w' => e = .returned (.string (decB n)) ∧ w' = w := by
  induction n using Nat.strongRecOn with
  | _ n ih =>
    intro w
    by_cases h : n < 10
    · rcases (show n = 0 ∨ n = 1 ∨ n = 2 ∨ n = 3 ∨ n = 4 ∨ n = 5 ∨ n = 6 ∨ n = 7 ∨ n = 8 ∨ n = 9 by omega) with rfl | rfl | rfl | rfl | rfl | rfl | rfl | rfl | rfl | rfl
      · have hd : decB 0 = ⟨#[48]⟩ := by rw [decB_small (by omega)]; rfl
        rw [hd]
        clear hd ih h64
        go_enter Tryd.func22, Tryd.ntmps22
        go_wp2
        go_ret
        exact ⟨rfl, rfl⟩
      · have hd : decB 1 = ⟨#[49]⟩ := by rw [decB_small (by omega)]; rfl
        rw [hd]
        clear hd ih h64
        go_enter Tryd.func22, Tryd.ntmps22
        go_wp2
        go_ret
        exact ⟨rfl, rfl⟩
      · have hd : decB 2 = ⟨#[50]⟩ := by rw [decB_small (by omega)]; rfl
        rw [hd]
        clear hd ih h64
        go_enter Tryd.func22, Tryd.ntmps22
        go_wp2
        go_ret
        exact ⟨rfl, rfl⟩
      · have hd : decB 3 = ⟨#[51]⟩ := by rw [decB_small (by omega)]; rfl
        rw [hd]
        clear hd ih h64
        go_enter Tryd.func22, Tryd.ntmps22
        go_wp2
        go_ret
        exact ⟨rfl, rfl⟩
      · have hd : decB 4 = ⟨#[52]⟩ := by rw [decB_small (by omega)]; rfl
        rw [hd]
        clear hd ih h64
        go_enter Tryd.func22, Tryd.ntmps22
        go_wp2
        go_ret
        exact ⟨rfl, rfl⟩
      · have hd : decB 5 = ⟨#[53]⟩ := by rw [decB_small (by omega)]; rfl
        rw [hd]
        clear hd ih h64
        go_enter Tryd.func22, Tryd.ntmps22
        go_wp2
        go_ret
        exact ⟨rfl, rfl⟩
      · have hd : decB 6 = ⟨#[54]⟩ := by rw [decB_small (by omega)]; rfl
        rw [hd]
        clear hd ih h64
        go_enter Tryd.func22, Tryd.ntmps22
        go_wp2
        go_ret
        exact ⟨rfl, rfl⟩
      · have hd : decB 7 = ⟨#[55]⟩ := by rw [decB_small (by omega)]; rfl
        rw [hd]
        clear hd ih h64
        go_enter Tryd.func22, Tryd.ntmps22
        go_wp2
        go_ret
        exact ⟨rfl, rfl⟩
      · have hd : decB 8 = ⟨#[56]⟩ := by rw [decB_small (by omega)]; rfl
        rw [hd]
        clear hd ih h64
        go_enter Tryd.func22, Tryd.ntmps22
        go_wp2
        go_ret
        exact ⟨rfl, rfl⟩
      · have hd : decB 9 = ⟨#[57]⟩ := by rw [decB_small (by omega)]; rfl
        rw [hd]
        clear hd ih h64
        go_enter Tryd.func22, Tryd.ntmps22
        go_wp2
        go_ret
        exact ⟨rfl, rfl⟩
    · have H1 := Lib.hid (ih (n / 10) (by omega) (by omega))
      have H2 := Lib.hid (ih (n % 10) (by omega) (by omega))
      rw [decB_more h]
      have hq : (n : Int) / 10 = ((n / 10 : Nat) : Int) := by omega
      have hr : (n : Int) % 10 = ((n % 10 : Nat) : Int) := by omega
      have hq1 : ((n / 10 : Nat) : Int) ≤ 9223372036854775807 := by omega
      have hr1 : ((n % 10 : Nat) : Int) < 10 := by omega
      have hge : ¬ (n : Int) < 10 := by omega
      have hg0 : ¬ (n : Int) < 0 := by omega
      have h0 : 0 ≤ (n : Int) := by omega
      have hs1 := decB_len (n / 10) (by omega)
      have hs2 := decB_len (n % 10) (by omega)
      have hsum : ¬ 9223372036854775807 < (decB (n / 10)).size + (decB (n % 10)).size := by omega
      clear hs1 hs2
      generalize decB (n / 10) = A at *
      generalize decB (n % 10) = B at *
      generalize n / 10 = q at *
      generalize n % 10 = r at *
      clear ih h
      go_enter Tryd.func22, Tryd.ntmps22
      go_wp2_with (first
        | (go_at_call 22; refine (H1.out _).mono ?_; rintro e w1 ⟨rfl, rfl⟩; clear H1)
        | (go_at_call 22; refine (H2.out _).mono ?_; rintro e w2 ⟨rfl, rfl⟩))
      go_ret
      exact ⟨rfl, rfl⟩
set_option maxRecDepth 100000 in
set_option maxHeartbeats 4000000 in
theorem dec21m (N : Nat) (h0 : 0 < N) (h64 : N ≤ 9223372036854775808) (w : World) : Calls Tryd.prog 22 #[.int .i64 (-(N : Int))] w fun e w' => e = .returned (.string (⟨#[45]⟩ ++ decB N)) ∧ w' = w := by
  have g0 : -(N : Int) < 0 := by omega
  have hdl : (decB N).size ≤ 20 := by
    have := decL_len 20 N (by omega) (by omega)
    have e : (decB N).size = (decL N).length := by simp [decB, ByteArray.size]
    omega
  have HDL := Lib.hid hdl
  have HM := Lib.hid tmod_negT
  have HD := Lib.hid tdiv_negT
  clear hdl
  go_enter Tryd.func22, Tryd.ntmps22
  go_wp2
  clear g0
  go_loopw [0, 3] (fun vi vs W => ∃ (m : Nat) (s : ByteArray), vi = .int .i64 (-(m : Int)) ∧ vs = .string s ∧ m ≤ N ∧ headB m ++ s = decB N ∧ W = w) (fun vi _ _ => (-(intOf vi)).toNat)
  case atStart => exact ⟨N, _, rfl, rfl, Nat.le_refl _, by unfold headB; rw [if_neg (by omega), app_nilB], rfl⟩
  case round =>
    obtain ⟨m, s, rfl, rfl, hm, hs, rfl⟩ := hrel
    have hsz : s.size ≤ 20 := by have h1 := HDL.out; rw [← hs, size_appB] at h1; omega
    have HS := Lib.hid hs
    clear hs
    by_cases hz : m = 0
    · subst hz
      have HE := Lib.hid (show s = decB N by rw [← HS.out]; exact (nil_appB s).symm)
      have hsum : ¬ 9223372036854775807 < 1 + s.size := by omega
      clear hm
      go_wp2
      go_ret
      exact ⟨by rw [HE.out]; rfl, rfl⟩
    · have HNX := Lib.hid (headB_next hz)
      have e1 : (-(m : Int)).tmod 10 = -((m % 10 : Nat) : Int) := HM.out m
      have e2 : (-(m : Int)).tdiv 10 = -((m / 10 : Nat) : Int) := HD.out m
      have g0 : ¬ -(m : Int) = 0 := by omega
      have g1 : (-(m : Int) == 0) = false := by simpa using hz
      have g2 : (-(m : Int) != 0) = true := by simpa using hz
      have hq : m / 10 ≤ N := by omega
      have hq2 : m / 10 < m := by omega
      have hq3 : ((m / 10 : Nat) : Int) ≤ 9223372036854775808 := by omega
      have hsum : ¬ 9223372036854775807 < 1 + s.size := by omega
      rcases (show m % 10 = 0 ∨ m % 10 = 1 ∨ m % 10 = 2 ∨ m % 10 = 3 ∨ m % 10 = 4 ∨ m % 10 = 5 ∨ m % 10 = 6 ∨ m % 10 = 7 ∨ m % 10 = 8 ∨ m % 10 = 9 by omega) with h | h | h | h | h | h | h | h | h | h
      · rw [h] at e1 HNX
        have HF := Lib.hid (show headB (m / 10) ++ (⟨#[48]⟩ ++ s) = decB N by rw [← HS.out, HNX.out, app_assocB, decB_small (by omega)]; rfl)
        clear h HNX HS
        generalize m / 10 = q at *
        go_wp2
        go_roundw
        case rel => exact ⟨q, _, rfl, rfl, hq, HF.out, by trivial⟩
        case measure => simp [intOf]; omega
      · rw [h] at e1 HNX
        have HF := Lib.hid (show headB (m / 10) ++ (⟨#[49]⟩ ++ s) = decB N by rw [← HS.out, HNX.out, app_assocB, decB_small (by omega)]; rfl)
        clear h HNX HS
        generalize m / 10 = q at *
        go_wp2
        go_roundw
        case rel => exact ⟨q, _, rfl, rfl, hq, HF.out, by trivial⟩
        case measure => simp [intOf]; omega
      · rw [h] at e1 HNX
        have HF := Lib.hid (show headB (m / 10) ++ (⟨#[50]⟩ ++ s) = decB N by rw [← HS.out, HNX.out, app_assocB, decB_small (by omega)]; rfl)
        clear h HNX HS
        generalize m / 10 = q at *
        go_wp2
        go_roundw
        case rel => exact ⟨q, _, rfl, rfl, hq, HF.out, by trivial⟩
        case measure => simp [intOf]; omega
      · rw [h] at e1 HNX
        have HF := Lib.hid (show headB (m / 10) ++ (⟨#[51]⟩ ++ s) = decB N by rw [← HS.out, HNX.out, app_assocB, decB_small (by omega)]; rfl)
        clear h HNX HS
        generalize m / 10 = q at *
        go_wp2
        go_roundw
        case rel => exact ⟨q, _, rfl, rfl, hq, HF.out, by trivial⟩
        case measure => simp [intOf]; omega
      · rw [h] at e1 HNX
        have HF := Lib.hid (show headB (m / 10) ++ (⟨#[52]⟩ ++ s) = decB N by rw [← HS.out, HNX.out, app_assocB, decB_small (by omega)]; rfl)
        clear h HNX HS
        generalize m / 10 = q at *
        go_wp2
        go_roundw
        case rel => exact ⟨q, _, rfl, rfl, hq, HF.out, by trivial⟩
        case measure => simp [intOf]; omega
      · rw [h] at e1 HNX
        have HF := Lib.hid (show headB (m / 10) ++ (⟨#[53]⟩ ++ s) = decB N by rw [← HS.out, HNX.out, app_assocB, decB_small (by omega)]; rfl)
        clear h HNX HS
        generalize m / 10 = q at *
        go_wp2
        go_roundw
        case rel => exact ⟨q, _, rfl, rfl, hq, HF.out, by trivial⟩
        case measure => simp [intOf]; omega
      · rw [h] at e1 HNX
        have HF := Lib.hid (show headB (m / 10) ++ (⟨#[54]⟩ ++ s) = decB N by rw [← HS.out, HNX.out, app_assocB, decB_small (by omega)]; rfl)
        clear h HNX HS
        generalize m / 10 = q at *
        go_wp2
        go_roundw
        case rel => exact ⟨q, _, rfl, rfl, hq, HF.out, by trivial⟩
        case measure => simp [intOf]; omega
      · rw [h] at e1 HNX
        have HF := Lib.hid (show headB (m / 10) ++ (⟨#[55]⟩ ++ s) = decB N by rw [← HS.out, HNX.out, app_assocB, decB_small (by omega)]; rfl)
        clear h HNX HS
        generalize m / 10 = q at *
        go_wp2
        go_roundw
        case rel => exact ⟨q, _, rfl, rfl, hq, HF.out, by trivial⟩
        case measure => simp [intOf]; omega
      · rw [h] at e1 HNX
        have HF := Lib.hid (show headB (m / 10) ++ (⟨#[56]⟩ ++ s) = decB N by rw [← HS.out, HNX.out, app_assocB, decB_small (by omega)]; rfl)
        clear h HNX HS
        generalize m / 10 = q at *
        go_wp2
        go_roundw
        case rel => exact ⟨q, _, rfl, rfl, hq, HF.out, by trivial⟩
        case measure => simp [intOf]; omega
      · rw [h] at e1 HNX
        have HF := Lib.hid (show headB (m / 10) ++ (⟨#[57]⟩ ++ s) = decB N by rw [← HS.out, HNX.out, app_assocB, decB_small (by omega)]; rfl)
        clear h HNX HS
        generalize m / 10 = q at *
        go_wp2
        go_roundw
        case rel => exact ⟨q, _, rfl, rfl, hq, HF.out, by trivial⟩
        case measure => simp [intOf]; omega
theorem dec21 (n : Int) (h1 : -9223372036854775808 ≤ n) (h2 : n ≤ 9223372036854775807) (w : World) : Calls Tryd.prog 22 #[.int .i64 n] w fun e w' => e = .returned (.string (decZ n)) ∧ w' = w := by
  unfold decZ
  by_cases h : n < 0
  · rw [if_pos h]
    have k := dec21m n.natAbs (by omega) (by omega) w
    rw [show -((n.natAbs : Nat) : Int) = n by omega] at k
    exact k
  · rw [if_neg h]
    have k := dec21n n.toNat (by omega) w
    rw [show ((n.toNat : Nat) : Int) = n by omega] at k
    exact k
theorem decZ_len {n : Int} (h1 : -9223372036854775808 ≤ n) (h2 : n ≤ 9223372036854775807) : (decZ n).size ≤ 21 := by
  have hd : ∀ k : Nat, k ≤ 9223372036854775808 → (decB k).size ≤ 20 := fun k hk => by
    have := decL_len 20 k (by omega) (by omega)
    have e : (decB k).size = (decL k).length := by simp [decB, ByteArray.size]
    omega
  unfold decZ
  split
  · have := hd n.natAbs (by omega)
    rw [size_appB]
    show 1 + _ ≤ 21
    omega
  · have := hd n.toNat (by omega)
    omega
end Go.Proofs.YtfodnadmabnacaaDoor
