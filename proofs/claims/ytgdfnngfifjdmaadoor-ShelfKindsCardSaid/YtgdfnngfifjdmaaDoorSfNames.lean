/- The document's names of files, and what kind a name is of. -/
import Derived.Test.YtgdfnngfifjdmaaDoorSfMath
import Derived.Lib.Strings
namespace Go.Proofs.YtgdfnngfifjdmaaDoor
open Go.RowKit Base Base2

/-- A letter and a number's digits; nothing of a number that is none of them. -/
def nameB (c : UInt8) (n : Int) : ByteArray := if n < 0 ∨ 1099511627776 < n then ⟨#[]⟩ else ⟨#[c]⟩ ++ decB n.toNat
theorem nameB_no {c : UInt8} {n : Int} (h : n < 0 ∨ 1099511627776 < n) : nameB c n = ⟨#[]⟩ := if_pos h
theorem nameB_yes (c : UInt8) (k : Nat) (h : k ≤ 1099511627776) : nameB c (k : Int) = ⟨#[c]⟩ ++ decB k := by unfold nameB; rw [if_neg (by omega), Int.toNat_natCast]

set_option maxRecDepth 100000 in
theorem rseg9 (n : Int) (w : World) (hn : n ≤ 9223372036854775807) : Calls Tryd.prog 9 #[.int .i64 n] w fun e w' => e = .returned (.string (nameB 115 n)) ∧ w' = w := by
  by_cases h1 : n < 0
  · rw [nameB_no (.inl h1)]
    go_enter Tryd.func9, Tryd.ntmps9
    go_wp2
    go_ret
    exact ⟨rfl, rfl⟩
  by_cases h2 : 1099511627776 < n
  · rw [nameB_no (.inr h2)]
    go_enter Tryd.func9, Tryd.ntmps9
    go_wp2
    go_ret
    exact ⟨rfl, rfl⟩
  obtain ⟨k, rfl⟩ := Int.eq_ofNat_of_zero_le (show 0 ≤ n by omega)
  rw [nameB_yes _ k (by omega)]
  have HD := Lib.hid (dec16 k (by omega) w)
  have hs := decB_len k (by omega)
  have hsum : ¬ 9223372036854775807 < 1 + (decB k).size := by omega
  generalize decB k = D at *
  clear hs hn
  go_enter Tryd.func9, Tryd.ntmps9
  go_wp2_with (go_at_call 17; refine HD.out.mono ?_; rintro e w1 ⟨rfl, rfl⟩)
  go_ret
  exact ⟨rfl, rfl⟩

set_option maxRecDepth 100000 in
theorem rcol10 (n : Int) (w : World) (hn : n ≤ 9223372036854775807) : Calls Tryd.prog 10 #[.int .i64 n] w fun e w' => e = .returned (.string (nameB 99 n)) ∧ w' = w := by
  by_cases h1 : n < 0
  · rw [nameB_no (.inl h1)]
    go_enter Tryd.func10, Tryd.ntmps10
    go_wp2
    go_ret
    exact ⟨rfl, rfl⟩
  by_cases h2 : 1099511627776 < n
  · rw [nameB_no (.inr h2)]
    go_enter Tryd.func10, Tryd.ntmps10
    go_wp2
    go_ret
    exact ⟨rfl, rfl⟩
  obtain ⟨k, rfl⟩ := Int.eq_ofNat_of_zero_le (show 0 ≤ n by omega)
  rw [nameB_yes _ k (by omega)]
  have HD := Lib.hid (dec16 k (by omega) w)
  have hs := decB_len k (by omega)
  have hsum : ¬ 9223372036854775807 < 1 + (decB k).size := by omega
  generalize decB k = D at *
  clear hs hn
  go_enter Tryd.func10, Tryd.ntmps10
  go_wp2_with (go_at_call 17; refine HD.out.mono ?_; rintro e w1 ⟨rfl, rfl⟩)
  go_ret
  exact ⟨rfl, rfl⟩

def headsB : ByteArray := ⟨#[104, 101, 97, 100, 115]⟩
/-- What kind and number a name is of. -/
def kindS (s : ByteArray) : Int × Int × Bool :=
  if s = headsB then (3, 0, true)
  else if s.size < 2 ∨ 14 < s.size ∨ (s.data.toList.getD 0 0 ≠ 115 ∧ s.data.toList.getD 0 0 ≠ 99) then (0, 0, false)
  else match valL 0 (s.data.toList.drop 1) with
    | none => (0, 0, false)
    | some n => if 1099511627776 < n then (0, 0, false) else if nameB 115 n = s then (1, n, true) else if nameB 99 n = s then (2, n, true) else (0, 0, false)
theorem kindS_heads : kindS headsB = (3, 0, true) := if_pos rfl
theorem kindS_no {s : ByteArray} (h0 : s ≠ headsB) (h : s.size < 2 ∨ 14 < s.size ∨ (s.data.toList.getD 0 0 ≠ 115 ∧ s.data.toList.getD 0 0 ≠ 99)) : kindS s = (0, 0, false) := by unfold kindS; rw [if_neg h0, if_pos h]
theorem kindS_none {s : ByteArray} (h0 : s ≠ headsB) (h : ¬ (s.size < 2 ∨ 14 < s.size ∨ (s.data.toList.getD 0 0 ≠ 115 ∧ s.data.toList.getD 0 0 ≠ 99))) (hv : valL 0 (s.data.toList.drop 1) = none) : kindS s = (0, 0, false) := by unfold kindS; rw [if_neg h0, if_neg h, hv]
theorem kindS_some {s : ByteArray} {n : Nat} (h0 : s ≠ headsB) (h : ¬ (s.size < 2 ∨ 14 < s.size ∨ (s.data.toList.getD 0 0 ≠ 115 ∧ s.data.toList.getD 0 0 ≠ 99))) (hv : valL 0 (s.data.toList.drop 1) = some n) : kindS s = if 1099511627776 < n then (0, 0, false) else if nameB 115 n = s then (1, (n : Int), true) else if nameB 99 n = s then (2, (n : Int), true) else (0, 0, false) := by unfold kindS; rw [if_neg h0, if_neg h, hv]
def kindV (r : Int × Int × Bool) : Value := .tuple #[.int .i64 r.1, .int .i64 r.2.1, .bool r.2.2]
theorem str_neS {a b : ByteArray} (h : a ≠ b) : (a.toList == b.toList) = false := by
  rw [beq_eq_false_iff_ne, ByteArray.toList_eq, ByteArray.toList_eq]
  intro h2; exact h (by apply ByteArray.ext; exact Array.toList_inj.1 h2)
theorem str_eqS {a b : ByteArray} (h : a = b) : (a.toList == b.toList) = true := by rw [h]; simp
theorem dropL (s : ByteArray) (k : Nat) (h : k < s.size) : s.data.toList.drop k = s[k] :: s.data.toList.drop (k + 1) := by
  have hl : s.data.toList.length = s.size := (Lib.size_eq s).symm
  rw [List.drop_eq_getElem_cons (by omega)]; rfl
theorem first_at (s : ByteArray) (h : 0 < s.size) : s.data.toList.getD 0 0 = s[0] := by
  have hl : s.data.toList.length = s.size := (Lib.size_eq s).symm
  rw [List.getD_eq_getElem?_getD, List.getElem?_eq_getElem (by omega)]; rfl
theorem u8_ne {a : UInt8} {c : Int} {k : Nat} (hk : k < 256) (hc : (a.toNat : Int) = c) (h : c ≠ (k : Int)) : a ≠ UInt8.ofNat k := by
  rintro rfl
  rw [UInt8.toNat_ofNat'] at hc; omega
theorem pow13 : (10 : Nat) ^ 13 = 10000000000000 := by decide

set_option maxRecDepth 100000 in
set_option maxHeartbeats 4000000 in
theorem rkind12 (s : ByteArray) (w : World) (hs : s.size ≤ maxLen) : Calls Tryd.prog 12 #[.string s] w fun e w' => e = .returned (kindV (kindS s)) ∧ w' = w := by
  unfold maxLen at hs
  by_cases h0 : s = headsB
  · subst h0
    rw [kindS_heads]
    unfold headsB
    go_enter Tryd.func12, Tryd.ntmps12
    go_wp2
    go_ret3
    exact ⟨rfl, rfl⟩
  have g0 : (s.toList == [104, 101, 97, 100, 115]) = false := by
    have h := str_neS h0
    rwa [show headsB.toList = [104, 101, 97, 100, 115] by rw [ByteArray.toList_eq]; rfl] at h
  by_cases h1 : (s.size : Int) < 2
  · rw [kindS_no h0 (.inl (by omega))]
    clear h0
    go_enter Tryd.func12, Tryd.ntmps12
    go_wp2
    go_ret3
    exact ⟨rfl, rfl⟩
  by_cases h2 : (14 : Int) < (s.size : Int)
  · rw [kindS_no h0 (.inr (.inl (by omega)))]
    clear h0
    go_enter Tryd.func12, Tryd.ntmps12
    go_wp2
    go_ret3
    exact ⟨rfl, rfl⟩
  have hz : 0 < s.size := by omega
  obtain ⟨c, hc⟩ : ∃ c : Int, (s[0].toNat : Int) = c := ⟨_, rfl⟩
  have hfirst := first_at s hz
  by_cases h3 : c = 115
  · have hgood : ¬ (s.size < 2 ∨ 14 < s.size ∨ (s.data.toList.getD 0 0 ≠ 115 ∧ s.data.toList.getD 0 0 ≠ 99)) := by
      have e : s.data.toList.getD 0 0 = 115 := by rw [hfirst]; apply UInt8.toNat_inj.1; show s[0].toNat = 115; omega
      rintro (h | h | ⟨h, _⟩)
      · omega
      · omega
      · exact h e
    have k1 : (c != 115) = false := by simpa using h3
    clear h3
    have HV := Lib.hid (fun n => kindS_some (n := n) h0 hgood)
    have HNV := Lib.hid (kindS_none h0 hgood)
    obtain ⟨VAL, hVAL⟩ : ∃ v, valL 0 (s.data.toList.drop 1) = v := ⟨_, rfl⟩
    rw [hVAL] at HV HNV
    obtain ⟨RES, hRES⟩ : ∃ R, kindS s = R := ⟨_, rfl⟩
    rw [hRES] at HV HNV ⊢
    have HVAL := Lib.hid hVAL
    clear hVAL hRES hgood h0 hfirst
    go_enter Tryd.func12, Tryd.ntmps12
    go_wp2
    go_loopw [5, 6] (fun vn vi W => ∃ k m : Nat, 1 ≤ k ∧ k ≤ s.size ∧ vn = .int .i64 (m : Int) ∧ vi = .int .i64 (k : Int) ∧ m < 10 ^ (k - 1) ∧ valL m (s.data.toList.drop k) = VAL ∧ W = w) (fun _ vi _ => s.size - (intOf vi).toNat)
    case atStart => exact ⟨1, 0, by omega, by omega, rfl, rfl, by simp, HVAL.out, rfl⟩
    case round =>
      obtain ⟨k, m, hk1, hk2, rfl, rfl, hm, hval, rfl⟩ := hrel
      have hp13 : 10 ^ (k - 1) ≤ 10 ^ 13 := Nat.pow_le_pow_right (by omega) (by omega)
      have hps : 10 ^ k = 10 * 10 ^ (k - 1) := by rw [show k = (k - 1) + 1 by omega, Nat.pow_succ, Nat.add_sub_cancel]; omega
      rw [pow13] at hp13
      have HPS := Lib.hid hps
      have HM := Lib.hid hm
      have hm2 : m < 10000000000000 := by omega
      clear hps hp13 hm
      by_cases hlt : k < s.size
      · rw [dropL s k hlt, valL_cons] at hval
        obtain ⟨d, hd⟩ : ∃ d : Int, (s[k].toNat : Int) = d := ⟨_, rfl⟩
        by_cases d1 : d < 48
        · have hn : VAL = none := by rw [if_pos (by omega)] at hval; exact hval.symm
          have hr := HNV.out hn
          subst hr
          clear hval hn
          go_wp2
          go_ret3
          exact ⟨rfl, rfl⟩
        by_cases d2 : 57 < d
        · have hn : VAL = none := by rw [if_pos (by omega)] at hval; exact hval.symm
          have hr := HNV.out hn
          subst hr
          clear hval hn
          go_wp2
          go_ret3
          exact ⟨rfl, rfl⟩
        rw [if_neg (by omega)] at hval
        have HVN := Lib.hid hval
        obtain ⟨t, ht⟩ : ∃ t : Nat, 10 * m + (s[k].toNat - 48) = t := ⟨_, rfl⟩
        rw [ht] at HVN
        have hti : (10 : Int) * (m : Int) + d - 48 = (t : Int) := by omega
        have HT := Lib.hid (show t < 10 ^ (k + 1 - 1) by rw [Nat.add_sub_cancel, HPS.out]; have := HM.out; omega)
        have ht2 : t < 100000000000000 := by omega
        clear hval ht
        go_wp2
        go_roundw
        case rel => exact ⟨k + 1, t, by omega, by omega, by first | (rw [← hti]; done) | (rw [← hti]; go_num), by go_num, HT.out, HVN.out, by trivial⟩
        case measure => simp [intOf]; omega
      · have hke : k = s.size := by omega
        have hl : s.data.toList.length = s.size := (Lib.size_eq s).symm
        rw [List.drop_of_length_le (by omega)] at hval
        have hr := HV.out m hval.symm
        clear hval hl hke HVAL HNV HPS HM
        by_cases hbig : (1099511627776 : Int) < (m : Int)
        · rw [if_pos (by omega)] at hr
          subst hr
          go_wp2
          go_ret3
          exact ⟨rfl, rfl⟩
        rw [if_neg (by omega)] at hr
        have HS := Lib.hid (fun W => rseg9 (m : Int) W (by omega))
        have HC := Lib.hid (fun W => rcol10 (m : Int) W (by omega))
        obtain ⟨A, hA⟩ : ∃ A, nameB 115 (m : Int) = A := ⟨_, rfl⟩
        obtain ⟨B, hB⟩ : ∃ B, nameB 99 (m : Int) = B := ⟨_, rfl⟩
        rw [hA] at HS hr
        rw [hB] at HC hr
        clear hA hB HV
        by_cases e1 : A = s
        · rw [if_pos e1] at hr
          subst hr
          have q1 := str_eqS e1
          clear e1 HC
          go_wp2_with (go_at_call 9; refine (HS.out _).mono ?_; rintro e w1 ⟨rfl, rfl⟩)
          go_ret3
          exact ⟨rfl, rfl⟩
        rw [if_neg e1] at hr
        have q1 := str_neS e1
        by_cases e2 : B = s
        · rw [if_pos e2] at hr
          subst hr
          have q2 := str_eqS e2
          clear e1 e2
          go_wp2_with (first
            | (go_at_call 9; refine (HS.out _).mono ?_; rintro e w1 ⟨rfl, rfl⟩)
            | (go_at_call 10; refine (HC.out _).mono ?_; rintro e w1 ⟨rfl, rfl⟩))
          go_ret3
          exact ⟨rfl, rfl⟩
        rw [if_neg e2] at hr
        subst hr
        have q2 := str_neS e2
        clear e1 e2
        go_wp2_with (first
          | (go_at_call 9; refine (HS.out _).mono ?_; rintro e w1 ⟨rfl, rfl⟩)
          | (go_at_call 10; refine (HC.out _).mono ?_; rintro e w1 ⟨rfl, rfl⟩))
        go_ret3
        exact ⟨rfl, rfl⟩
  by_cases h4 : c = 99
  · have hgood : ¬ (s.size < 2 ∨ 14 < s.size ∨ (s.data.toList.getD 0 0 ≠ 115 ∧ s.data.toList.getD 0 0 ≠ 99)) := by
      have e : s.data.toList.getD 0 0 = 99 := by rw [hfirst]; apply UInt8.toNat_inj.1; show s[0].toNat = 99; omega
      rintro (h | h | ⟨_, h⟩)
      · omega
      · omega
      · exact h e
    have k1 : (c != 115) = true := by simpa using h3
    have k2 : (c != 99) = false := by simpa using h4
    clear h3 h4
    have HV := Lib.hid (fun n => kindS_some (n := n) h0 hgood)
    have HNV := Lib.hid (kindS_none h0 hgood)
    obtain ⟨VAL, hVAL⟩ : ∃ v, valL 0 (s.data.toList.drop 1) = v := ⟨_, rfl⟩
    rw [hVAL] at HV HNV
    obtain ⟨RES, hRES⟩ : ∃ R, kindS s = R := ⟨_, rfl⟩
    rw [hRES] at HV HNV ⊢
    have HVAL := Lib.hid hVAL
    clear hVAL hRES hgood h0 hfirst
    go_enter Tryd.func12, Tryd.ntmps12
    go_wp2
    go_loopw [5, 6] (fun vn vi W => ∃ k m : Nat, 1 ≤ k ∧ k ≤ s.size ∧ vn = .int .i64 (m : Int) ∧ vi = .int .i64 (k : Int) ∧ m < 10 ^ (k - 1) ∧ valL m (s.data.toList.drop k) = VAL ∧ W = w) (fun _ vi _ => s.size - (intOf vi).toNat)
    case atStart => exact ⟨1, 0, by omega, by omega, rfl, rfl, by simp, HVAL.out, rfl⟩
    case round =>
      obtain ⟨k, m, hk1, hk2, rfl, rfl, hm, hval, rfl⟩ := hrel
      have hp13 : 10 ^ (k - 1) ≤ 10 ^ 13 := Nat.pow_le_pow_right (by omega) (by omega)
      have hps : 10 ^ k = 10 * 10 ^ (k - 1) := by rw [show k = (k - 1) + 1 by omega, Nat.pow_succ, Nat.add_sub_cancel]; omega
      rw [pow13] at hp13
      have HPS := Lib.hid hps
      have HM := Lib.hid hm
      have hm2 : m < 10000000000000 := by omega
      clear hps hp13 hm
      by_cases hlt : k < s.size
      · rw [dropL s k hlt, valL_cons] at hval
        obtain ⟨d, hd⟩ : ∃ d : Int, (s[k].toNat : Int) = d := ⟨_, rfl⟩
        by_cases d1 : d < 48
        · have hn : VAL = none := by rw [if_pos (by omega)] at hval; exact hval.symm
          have hr := HNV.out hn
          subst hr
          clear hval hn
          go_wp2
          go_ret3
          exact ⟨rfl, rfl⟩
        by_cases d2 : 57 < d
        · have hn : VAL = none := by rw [if_pos (by omega)] at hval; exact hval.symm
          have hr := HNV.out hn
          subst hr
          clear hval hn
          go_wp2
          go_ret3
          exact ⟨rfl, rfl⟩
        rw [if_neg (by omega)] at hval
        have HVN := Lib.hid hval
        obtain ⟨t, ht⟩ : ∃ t : Nat, 10 * m + (s[k].toNat - 48) = t := ⟨_, rfl⟩
        rw [ht] at HVN
        have hti : (10 : Int) * (m : Int) + d - 48 = (t : Int) := by omega
        have HT := Lib.hid (show t < 10 ^ (k + 1 - 1) by rw [Nat.add_sub_cancel, HPS.out]; have := HM.out; omega)
        have ht2 : t < 100000000000000 := by omega
        clear hval ht
        go_wp2
        go_roundw
        case rel => exact ⟨k + 1, t, by omega, by omega, by first | (rw [← hti]; done) | (rw [← hti]; go_num), by go_num, HT.out, HVN.out, by trivial⟩
        case measure => simp [intOf]; omega
      · have hke : k = s.size := by omega
        have hl : s.data.toList.length = s.size := (Lib.size_eq s).symm
        rw [List.drop_of_length_le (by omega)] at hval
        have hr := HV.out m hval.symm
        clear hval hl hke HVAL HNV HPS HM
        by_cases hbig : (1099511627776 : Int) < (m : Int)
        · rw [if_pos (by omega)] at hr
          subst hr
          go_wp2
          go_ret3
          exact ⟨rfl, rfl⟩
        rw [if_neg (by omega)] at hr
        have HS := Lib.hid (fun W => rseg9 (m : Int) W (by omega))
        have HC := Lib.hid (fun W => rcol10 (m : Int) W (by omega))
        obtain ⟨A, hA⟩ : ∃ A, nameB 115 (m : Int) = A := ⟨_, rfl⟩
        obtain ⟨B, hB⟩ : ∃ B, nameB 99 (m : Int) = B := ⟨_, rfl⟩
        rw [hA] at HS hr
        rw [hB] at HC hr
        clear hA hB HV
        by_cases e1 : A = s
        · rw [if_pos e1] at hr
          subst hr
          have q1 := str_eqS e1
          clear e1 HC
          go_wp2_with (go_at_call 9; refine (HS.out _).mono ?_; rintro e w1 ⟨rfl, rfl⟩)
          go_ret3
          exact ⟨rfl, rfl⟩
        rw [if_neg e1] at hr
        have q1 := str_neS e1
        by_cases e2 : B = s
        · rw [if_pos e2] at hr
          subst hr
          have q2 := str_eqS e2
          clear e1 e2
          go_wp2_with (first
            | (go_at_call 9; refine (HS.out _).mono ?_; rintro e w1 ⟨rfl, rfl⟩)
            | (go_at_call 10; refine (HC.out _).mono ?_; rintro e w1 ⟨rfl, rfl⟩))
          go_ret3
          exact ⟨rfl, rfl⟩
        rw [if_neg e2] at hr
        subst hr
        have q2 := str_neS e2
        clear e1 e2
        go_wp2_with (first
          | (go_at_call 9; refine (HS.out _).mono ?_; rintro e w1 ⟨rfl, rfl⟩)
          | (go_at_call 10; refine (HC.out _).mono ?_; rintro e w1 ⟨rfl, rfl⟩))
        go_ret3
        exact ⟨rfl, rfl⟩
  have hk := kindS_no h0 (.inr (.inr ⟨by rw [hfirst]; exact u8_ne (k := 115) (by omega) hc h3, by rw [hfirst]; exact u8_ne (k := 99) (by omega) hc h4⟩))
  rw [hk]
  have k1 : (c != 115) = true := by simpa using h3
  have k2 : (c != 99) = true := by simpa using h4
  clear hk h3 h4 h0 hfirst
  go_enter Tryd.func12, Tryd.ntmps12
  go_wp2
  go_ret3
  exact ⟨rfl, rfl⟩
end Go.Proofs.YtgdfnngfifjdmaaDoor
