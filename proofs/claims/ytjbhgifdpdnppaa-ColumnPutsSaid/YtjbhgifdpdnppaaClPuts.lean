/- The walk of ColumnPuts, given a contract for each call of the program. -/
import Derived.Test.YtjbhgifdpdnppaaClGets
namespace Go.Proofs.Ytjbhgifdpdnppaa
open Go.RowKit Base Base2

set_option maxRecDepth 100000 in
set_option maxHeartbeats 8000000 in
theorem puts3C {K : World → Prop} (C : ColC K) (a : Option Addr) (n c : Nat) (l : List Int) (more : ByteArray) (w : World) (hK : K w) (hn : l.length = n) (hr : I64s w a l) (hl : n ≤ maxLen) (hin : ∀ x ∈ l, in64 x) (hm : more.size ≤ maxLen) :
    Calls Try.prog 3 #[.slice a n c, .string more] w fun e w' => e = .returned (.bool true) ∧ Below w.heap.size w w' := by
  subst hn
  have HA := Lib.hid (alive6C C w hK)
  have HI := Lib.hid hr
  unfold maxLen at hm hl
  by_cases h3 : (300 : Int) < (more.size : Int)
  · have key : ∀ (b d : Bool) (_ : decide ((500 : Int) < (l.length : Int)) = b) (_ : decide ((l.length : Int) ≤ 65536) = d), Calls Try.prog 3 #[.slice a l.length c, .string more] w fun e w' => e = .returned (.bool true) ∧ Below w.heap.size w w' := by
      intro b d hb hd
      cases b with
      | true =>
        have k1 : (500 : Int) < (l.length : Int) := of_decide_eq_true hb
        cases d with
        | true =>
          have k2 : (l.length : Int) ≤ 65536 := of_decide_eq_true hd
          clear C hb hd
          go_enter Try.func3, Try.ntmps3
          go_wp2_with ((go_at_call 6; refine HA.out.mono ?_; rintro e w1 ⟨rfl, hb⟩; have L1 := Lib.hid hb; have I1 := Lib.hid (HI.out.below hb); clear hb))
          go_ret
          exact ⟨rfl, L1.out⟩
        | false =>
          have k2 : ¬ (l.length : Int) ≤ 65536 := of_decide_eq_false hd
          clear C hb hd
          go_enter Try.func3, Try.ntmps3
          go_wp2_with ((go_at_call 6; refine HA.out.mono ?_; rintro e w1 ⟨rfl, hb⟩; have L1 := Lib.hid hb; have I1 := Lib.hid (HI.out.below hb); clear hb))
          go_ret
          exact ⟨rfl, L1.out⟩
      | false =>
        have k1 : ¬ (500 : Int) < (l.length : Int) := of_decide_eq_false hb
        clear C hb hd
        go_enter Try.func3, Try.ntmps3
        go_wp2_with ((go_at_call 6; refine HA.out.mono ?_; rintro e w1 ⟨rfl, hb⟩; have L1 := Lib.hid hb; have I1 := Lib.hid (HI.out.below hb); clear hb))
        go_ret
        exact ⟨rfl, L1.out⟩
    exact key _ _ rfl rfl
  have HP := Lib.hid (fun W (hb : Below w.heap.size w W) hi => C.put a c l W (C.keep w W hK hb) hi (by unfold maxLen; omega) hin)
  by_cases h5 : (500 : Int) < (l.length : Int)
  · by_cases h6 : (l.length : Int) ≤ 65536
    · clear C HP
      go_enter Try.func3, Try.ntmps3
      go_wp2_with ((go_at_call 6; refine HA.out.mono ?_; rintro e w1 ⟨rfl, hb⟩; have L1 := Lib.hid hb; have I1 := Lib.hid (HI.out.below hb); clear hb))
      go_ret
      exact ⟨rfl, L1.out⟩
    · rw [show putV l = (⟨#[]⟩, 4) by unfold putV; rw [if_neg (by omega)]] at HP
      have h7 : (65536 : Int) < (l.length : Int) := by omega
      clear C hin
      go_enter Try.func3, Try.ntmps3
      go_wp2_with (first | (go_at_call 6; refine HA.out.mono ?_; rintro e w1 ⟨rfl, hb⟩; have L1 := Lib.hid hb; have I1 := Lib.hid (HI.out.below hb); clear hb) | (go_at_call 7; refine (HP.out _ L1.out I1.out).mono ?_; rintro e w2 ⟨rfl, hb⟩; have L2 := Lib.hid (L1.out.trans (hb.mono L1.out.size)); have I2 := Lib.hid (I1.out.below hb); clear hb))
      go_ret
      exact ⟨rfl, L2.out⟩
  have h6 : (l.length : Int) ≤ 65536 := by omega
  have h7 : ¬ (65536 : Int) < (l.length : Int) := by omega
  rw [show putV l = (putB l, 0) by unfold putV; rw [if_pos (by omega)]] at HP
  have HRU := Lib.hid (fun W (hb : Below w.heap.size w W) hi => C.runs a c l W (C.keep w W hK hb) hi (by omega) hin)
  have HRR := Lib.hid (fun W hi => rruns9 a l c W hi (by omega) hin)
  have HRP := Lib.hid (fun W hi => rput10 a l c W hi (by omega) hin)
  have hsz : (putB l).size ≤ 10 + 20 * l.length := by rw [putB_size]; exact putL_len l
  have hgv : getV (putB l ++ more) (l.length : Int) = (l, (putB l).size, 0) := by
    unfold getV
    rw [if_neg (by omega), Int.toNat_natCast, ByteArray.data_append, Array.toList_append, putB_list, get_put hin (Nat.le_refl _) (by omega), putB_size]
  have HG := Lib.hid (fun W (hb : Below w.heap.size w W) => C.get (putB l ++ more) (l.length : Int) W (C.keep w W hK hb) (by rw [ByteArray.size_append]; omega) (by unfold in64; omega))
  rw [hgv] at HG
  have HS := Lib.hid (fun (a b : Option Addr) (c d : Nat) W h1 h2 => rsame12 a b l l c d W h1 h2 (by omega))
  rw [decide_eq_true rfl] at HS
  have hrl := runsS_len l
  obtain ⟨R, hR⟩ : ∃ R, runsS l = R := ⟨_, rfl⟩
  obtain ⟨Z, hZ⟩ : ∃ Z, putB l = Z := ⟨_, rfl⟩
  rw [hR] at HRU HRR hrl
  rw [hZ] at HP HRP hsz HG
  dsimp only at HP HG
  have geq : (Z.toList != Z.toList) = false := by simp
  have grl : ((R.length : Int) != (R.length : Int)) = false := by simp
  have gzs : ((Z.size : Int) == (Z.size : Int)) = true := by simp
  have hsum : ¬ 9223372036854775807 < Z.size + more.size := by omega
  clear C hR hZ hgv hin
  go_enter Try.func3, Try.ntmps3
  go_wp2_with (first
    | (go_at_call 6; refine HA.out.mono ?_; rintro e w1 ⟨rfl, hb⟩; have L1 := Lib.hid hb; have I1 := Lib.hid (HI.out.below hb); clear hb)
    | (go_at_call 7; refine (HP.out _ L1.out I1.out).mono ?_; rintro e w2 ⟨rfl, hb⟩; have L2 := Lib.hid (L1.out.trans (hb.mono L1.out.size)); have I2 := Lib.hid (I1.out.below hb); clear hb)
    | (go_at_call 8; refine (HRU.out _ L2.out I2.out).mono ?_; rintro e w3 ⟨⟨a3, c3, rfl, hi3⟩, hb⟩; have L3 := Lib.hid (L2.out.trans (hb.mono L2.out.size)); have I3 := Lib.hid (I2.out.below hb); have J3 := Lib.hid hi3; clear hb hi3)
    | (go_at_call 9; refine (HRR.out _ I3.out).mono ?_; rintro e w4 ⟨⟨v4, rfl, ho4⟩, hb⟩; obtain ⟨a4, c4, hv4, hi4⟩ := runs_own ho4; subst hv4; have L4 := Lib.hid (L3.out.trans (hb.mono L3.out.size)); have I4 := Lib.hid (I3.out.below hb); have J4 := Lib.hid (J3.out.below hb); have M4 := Lib.hid hi4; clear hb ho4 hi4)
    | (go_at_call 10; refine (HRP.out _ I4.out).mono ?_; rintro e w5 ⟨rfl, hb⟩; have L5 := Lib.hid (L4.out.trans (hb.mono L4.out.size)); have I5 := Lib.hid (I4.out.below hb); have J5 := Lib.hid (J4.out.below hb); have M5 := Lib.hid (M4.out.below hb); clear hb))
  go_loopw [9] (fun vi W => ∃ i : Nat, i ≤ R.length ∧ vi = .int .i64 (i : Int) ∧ ∃ m, W = w5.drewN m) (fun vi _ => R.length - (intOf vi).toNat)
  case atStart => exact ⟨0, by omega, rfl, 0, rfl⟩
  case round =>
    obtain ⟨i, hi, rfl, m, hW⟩ := hrel
    have hBW : Below w5.heap.size w5 wr := by rw [hW]; exact below_drews m
    have HW := Lib.hid hW
    have HBN := Lib.hid hBW
    by_cases hlt : i < R.length
    · obtain ⟨⟨pd, pk⟩, hz⟩ : ∃ p, R[i]? = Option.some p := ⟨R[i], by simp [hlt]⟩
      rcases J5.out.below hBW with h1 | ⟨b1, o1, rfl, hb1, hc1⟩
      · rw [h1] at hlt; simp at hlt
      rcases M5.out.below hBW with h2 | ⟨b2, o2, rfl, hb2, hc2⟩
      · rw [h2] at hlt; simp at hlt
      have d1 := (hc1 i _ hz).1
      have d2 := (hc1 i _ hz).2
      have d3 := (hc2 i _ hz).1
      have d4 := (hc2 i _ hz).2
      dsimp only at d1 d2 d3 d4
      have hne := neq_run pd (pk : Int)
      clear hc1 hc2 hz hW hBW
      go_upto_region 14 with (fail)
      go_quiet (fail)
      go_wp2
      go_roundw
      case rel => exact ⟨i + 1, by omega, by go_num, m + nq, by rw [HW.out, World.drewN_drewN]⟩
      case measure => simp [intOf]; omega
    · have hie : i = R.length := by omega
      subst hie
      have L6 : Hid (Below w.heap.size w wr) := L5.out.trans (HBN.out.mono L5.out.size)
      have I6 := Lib.hid (I5.out.below HBN.out)
      clear hW hBW hlt hi
      go_wp2_with (first
        | (go_at_call 11; refine (HG.out _ L6.out).mono ?_; rintro e w7 ⟨⟨a7, c7, rfl, hi7⟩, hb⟩; have L7 := Lib.hid (L6.out.trans (hb.mono L6.out.size)); have I7 := Lib.hid (I6.out.below hb); have J7 := Lib.hid hi7; clear hb hi7)
        | (go_at_call 12; refine (HS.out _ _ _ _ _ J7.out I7.out).mono ?_; rintro e w8 ⟨rfl, m8, rfl⟩; have L8 := Lib.hid (below_drewN' L7.out m8)))
      go_ret
      exact ⟨rfl, L8.out⟩
end Go.Proofs.Ytjbhgifdpdnppaa
