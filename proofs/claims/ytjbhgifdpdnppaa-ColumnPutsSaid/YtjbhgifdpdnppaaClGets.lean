/- The walk of ColumnGets, given a contract for each call of the program. -/
import Derived.Test.YtjbhgifdpdnppaaClLaw
namespace Go.Proofs.Ytjbhgifdpdnppaa
open Go.RowKit Base Base2

theorem take_ext {s t : ByteArray} {n : Nat} (h : t.data.toList = s.data.toList.take n) (_hn : n ≤ s.size) : t = s.extract 0 n := by
  apply ByteArray.ext; apply Array.ext'
  rw [h, ByteArray.data_extract, Array.toList_extract, List.extract_eq_take_drop]
  simp

theorem getS_bad {s : List UInt8} {m n : Nat} {L : List Int} {e : Int} (h : getS s m = (L, n, e)) (he : e ≠ 0) : L = [] := by
  unfold getS at h
  split at h
  · simp only [Prod.mk.injEq] at h; exact h.1.symm
  · split at h
    · simp only [Prod.mk.injEq] at h; exact h.1.symm
    · simp only [Prod.mk.injEq] at h; exact absurd h.2.2.symm he

set_option maxRecDepth 100000 in
set_option maxHeartbeats 4000000 in
theorem gets4C {K : World → Prop} (C : ColC K) (s : ByteArray) (most : Int) (w : World) (hK : K w) (hs : s.size ≤ maxLen) (hm : in64 most) : Calls Try.prog 4 #[.string s, .int .i64 most] w fun e w' => e = .returned (.bool true) ∧ Below w.heap.size w w' := by
  have HA := Lib.hid (alive6C C w hK)
  unfold maxLen at hs
  by_cases h3 : (300 : Int) < (s.size : Int)
  · clear C
    go_enter Try.func4, Try.ntmps4
    go_wp2_with (go_at_call 6; refine HA.out.mono ?_; rintro e w1 ⟨rfl, hb⟩; have L1 := Lib.hid hb; clear hb)
    go_ret
    exact ⟨rfl, L1.out⟩
  have HG := Lib.hid (fun W (hb : Below w.heap.size w W) => C.get s most W (C.keep w W hK hb) (by omega) hm)
  by_cases hno : most < 0 ∨ 65536 < most
  · rw [show getV s most = ([], 0, 1) by unfold getV; rw [if_pos hno]] at HG
    have HNO := Lib.hid hno
    clear C hm
    have key : ∀ (b : Bool) (_ : decide (most < 0) = b) (_ : b = false → (65536 : Int) < most), Calls Try.prog 4 #[.string s, .int .i64 most] w fun e w' => e = .returned (.bool true) ∧ Below w.heap.size w w' := by
      intro b hb hb2
      cases b with
      | true =>
        have k1 : most < 0 := of_decide_eq_true hb
        clear hb hb2 hno
        go_enter Try.func4, Try.ntmps4
        go_wp2_with (first
          | (go_at_call 6; refine HA.out.mono ?_; rintro e w1 ⟨rfl, hb⟩; have L1 := Lib.hid hb; clear hb)
          | (go_at_call 11; refine (HG.out _ L1.out).mono ?_; rintro e w2 ⟨⟨a2, c2, rfl, hi2⟩, hb⟩; have L2 := Lib.hid (L1.out.trans (hb.mono L1.out.size)); clear hb hi2))
        go_ret
        exact ⟨rfl, L2.out⟩
      | false =>
        have k1 : ¬ most < 0 := of_decide_eq_false hb
        have k2 := hb2 rfl
        clear hb hb2 hno
        go_enter Try.func4, Try.ntmps4
        go_wp2_with (first
          | (go_at_call 6; refine HA.out.mono ?_; rintro e w1 ⟨rfl, hb⟩; have L1 := Lib.hid hb; clear hb)
          | (go_at_call 11; refine (HG.out _ L1.out).mono ?_; rintro e w2 ⟨⟨a2, c2, rfl, hi2⟩, hb⟩; have L2 := Lib.hid (L1.out.trans (hb.mono L1.out.size)); clear hb hi2))
        go_ret
        exact ⟨rfl, L2.out⟩
    exact key _ rfl (fun h => hno.resolve_left (of_decide_eq_false h))
  obtain ⟨k, rfl⟩ : ∃ k : Nat, most = (k : Int) := ⟨most.toNat, by omega⟩
  have hk : k ≤ 65536 := by omega
  have hk0 : ¬ (k : Int) < 0 := by omega
  have hk1 : ¬ (65536 : Int) < (k : Int) := by omega
  rw [show getV s (k : Int) = getS s.data.toList k by unfold getV; rw [if_neg hno, Int.toNat_natCast]] at HG
  obtain ⟨L, n, er, hg⟩ : ∃ L n e, getS s.data.toList k = (L, n, e) := ⟨_, _, _, rfl⟩
  have HR := Lib.hid (fun W => rget13 s k W (by omega) hk)
  rw [hg] at HG HR
  dsimp only at HG
  unfold GetQ at HR
  dsimp only at HR
  have gn : ((n : Int) != (n : Int)) = false := by simp
  have ger : (er != er) = false := by simp
  have hLb : L.length ≤ 1000000 := by
    by_cases he : er = 0
    · subst he; have := (put_get hg).2.2.1; omega
    · have : L = [] := getS_bad hg he
      subst this; simp
  have HS := Lib.hid (fun (a b : Option Addr) (c d : Nat) W h1 h2 => rsame12 a b L L c d W h1 h2 hLb)
  rw [decide_eq_true rfl] at HS
  by_cases he : er = 0
  · subst he
    have hpg := put_get hg
    have hput := fun a c W hk hi => C.put a c L W hk hi (by unfold maxLen; omega) hpg.2.2.2
    rw [show putV L = (putB L, 0) by unfold putV; rw [if_pos (by omega)]] at hput
    have hns : (n : Int) ≤ (s.size : Int) := by have := hpg.2.1; rw [← Lib.size_eq] at this; omega
    have hpe : putB L = s.extract 0 n := take_ext (by rw [putB_list]; exact hpg.1) (by omega)
    rw [hpe] at hput
    dsimp only at hput
    have HP := Lib.hid (fun a c W (hb : Below w.heap.size w W) hi => hput a c W (C.keep w W hK hb) hi)
    have geq : ((s.extract 0 n).toList == (s.extract 0 n).toList) = true := by simp
    clear C hput hpg hpe hg hm hno hk
    go_enter Try.func4, Try.ntmps4
    go_wp2_with (first
      | (go_at_call 6; refine HA.out.mono ?_; rintro e w1 ⟨rfl, hb⟩; have L1 := Lib.hid hb; clear hb)
      | (go_at_call 11; refine (HG.out _ L1.out).mono ?_; rintro e w2 ⟨⟨a2, c2, rfl, hi2⟩, hb⟩; have L2 := Lib.hid (L1.out.trans (hb.mono L1.out.size)); have I2 := Lib.hid hi2; clear hb hi2)
      | (go_at_call 13; refine (HR.out _).mono ?_; rintro e w3 ⟨⟨v3, rfl, ho3⟩, hb⟩; obtain ⟨a3, c3, hv3, hi3⟩ := i64_own ho3; subst hv3; have L3 := Lib.hid (L2.out.trans (hb.mono L2.out.size)); have I3 := Lib.hid hi3; have J3 := Lib.hid (I2.out.below hb); clear hb hi3 ho3)
      | (go_at_call 12; refine (HS.out _ _ _ _ _ J3.out I3.out).mono ?_; rintro e w4 ⟨rfl, m4, rfl⟩; have L4 := Lib.hid (below_drewN' L3.out m4); have J4 := Lib.hid (J3.out.below (below_drews m4)))
      | (go_at_call 7; refine (HP.out _ _ _ L4.out J4.out).mono ?_; rintro e w5 ⟨rfl, hb⟩; have L5 := Lib.hid (L4.out.trans (hb.mono L4.out.size)); clear hb))
    go_ret
    exact ⟨rfl, L5.out⟩
  · have g0 : (er != 0) = true := by simpa using he
    clear C hg hm hno hk he
    go_enter Try.func4, Try.ntmps4
    go_wp2_with (first
      | (go_at_call 6; refine HA.out.mono ?_; rintro e w1 ⟨rfl, hb⟩; have L1 := Lib.hid hb; clear hb)
      | (go_at_call 11; refine (HG.out _ L1.out).mono ?_; rintro e w2 ⟨⟨a2, c2, rfl, hi2⟩, hb⟩; have L2 := Lib.hid (L1.out.trans (hb.mono L1.out.size)); have I2 := Lib.hid hi2; clear hb hi2)
      | (go_at_call 13; refine (HR.out _).mono ?_; rintro e w3 ⟨⟨v3, rfl, ho3⟩, hb⟩; obtain ⟨a3, c3, hv3, hi3⟩ := i64_own ho3; subst hv3; have L3 := Lib.hid (L2.out.trans (hb.mono L2.out.size)); have I3 := Lib.hid hi3; have J3 := Lib.hid (I2.out.below hb); clear hb hi3 ho3)
      | (go_at_call 12; refine (HS.out _ _ _ _ _ J3.out I3.out).mono ?_; rintro e w4 ⟨rfl, m4, rfl⟩; have L4 := Lib.hid (below_drewN' L3.out m4)))
    go_ret
    exact ⟨rfl, L4.out⟩
end Go.Proofs.Ytjbhgifdpdnppaa
