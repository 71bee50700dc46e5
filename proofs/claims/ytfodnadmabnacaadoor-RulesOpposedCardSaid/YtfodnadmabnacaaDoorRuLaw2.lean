/- RulesOpposed, RulesTable: the walks. -/
import Derived.Test.YtfodnadmabnacaaDoorRuLaw
namespace Go.Proofs.YtfodnadmabnacaaDoor
open Go.RowKit Base Base2

theorem rel_of : ∀ k : Nat, 1 ≤ k → k ≤ 23 → (tabT.getD k (⟨#[]⟩, 0, 0)).2.1 = 1 ∨ (tabT.getD k (⟨#[]⟩, 0, 0)).2.1 = 2 ∨ (tabT.getD k (⟨#[]⟩, 0, 0)).2.1 = 3
  | 0, h, _ => absurd h (by omega)
  | 1, _, _ => .inr (.inl rfl)
  | 2, _, _ => .inl rfl
  | 3, _, _ => .inr (.inl rfl)
  | 4, _, _ => .inl rfl
  | 5, _, _ => .inr (.inl rfl)
  | 6, _, _ => .inr (.inl rfl)
  | 7, _, _ => .inr (.inl rfl)
  | 8, _, _ => .inr (.inl rfl)
  | 9, _, _ => .inr (.inl rfl)
  | 10, _, _ => .inr (.inr rfl)
  | 11, _, _ => .inr (.inr rfl)
  | 12, _, _ => .inr (.inr rfl)
  | 13, _, _ => .inr (.inr rfl)
  | 14, _, _ => .inr (.inr rfl)
  | 15, _, _ => .inl rfl
  | 16, _, _ => .inl rfl
  | 17, _, _ => .inl rfl
  | 18, _, _ => .inl rfl
  | 19, _, _ => .inl rfl
  | 20, _, _ => .inl rfl
  | 21, _, _ => .inl rfl
  | 22, _, _ => .inr (.inr rfl)
  | 23, _, _ => .inr (.inr rfl)
  | k + 24, _, h => absurd h (by omega)
theorem rel_at {n : Int} (h : 1 ≤ n ∧ n ≤ 23) : (rowT n).2.1 = 1 ∨ (rowT n).2.1 = 2 ∨ (rowT n).2.1 = 3 := by
  rw [row_yes h]; exact rel_of n.toNat (by omega) (by omega)
set_option maxRecDepth 100000 in
set_option maxHeartbeats 8000000 in
theorem opposed5 {K : World → Prop} (C : RulesC K) (rt x y : Int) (w : World) (hK : K w) (hrt : 0 ≤ rt ∧ rt ≤ 255) (hx : in8 x) (hy : in8 y) :
    Calls Tryd.prog 5 #[.int .u8 rt, .int .i64 x, .int .i64 y] w fun e w' => e = .returned (.bool true) ∧ Below w.heap.size w w' := by
  have HKP := Lib.hid C.keep
  have HK := Lib.hid hK
  have HC := Lib.hid (Below.refl w.heap.size w)
  have HAL := Lib.hid (aliveR C w hK)
  have hn : 1 ≤ 1 + rt % 23 ∧ 1 + rt % 23 ≤ 23 := by omega
  have hin : in8 (1 + rt % 23) := ⟨by omega, by omega⟩
  have HRL := Lib.hid (fun W hk => C.rel (1 + rt % 23) W hk hin)
  have HH1 := Lib.hid (fun W hk => C.holds ⟨1 + rt % 23, x, y, false⟩ W hk ⟨hin, hx, hy⟩)
  have HH2 := Lib.hid (fun W hk => C.holds ⟨1 + rt % 23, y, x, false⟩ W hk ⟨hin, hy, hx⟩)
  rw [hold_rel (s := ⟨1 + rt % 23, x, y, false⟩) rfl] at HH1
  rw [hold_rel (s := ⟨1 + rt % 23, y, x, false⟩) rfl] at HH2
  dsimp only at HH1 HH2
  have hr := rel_at hn
  generalize (rowT (1 + rt % 23)).2.1 = k at *
  obtain ⟨hr1, hr2⟩ := hrt
  clear hn hin hK C hx hy
  go_enter Tryd.func5, Tryd.ntmps5
  go_upto_region 4 with (go_at_call 6; refine HAL.out.mono ?_; rintro e w1 ⟨rfl, hb⟩; replace HC := Lib.hid (HC.out.trans (hb.mono HC.out.size)); clear hb)
  generalize 1 + rt % 23 = N at *
  clear hr1 hr2 HAL
  rcases hr with rfl | rfl | rfl
  · rcases Int.lt_trichotomy x y with h | h | h
    · have e1 : decide (x ≤ y) = true := by rw [decide_eq_true (by omega)]
      have e2 : decide (y ≤ x) = false := by rw [decide_eq_false (by omega)]
      have e3 : (x == y) = false := by rw [beq_eq_false_iff_ne]; omega
      rw [rel_1, e1] at HH1
      rw [rel_1, e2] at HH2
      clear e1 e2 h
      go_wp2_with (first
        | (have hq := HQ2.out; clear hq; go_at_call 8; refine (HRL.out _ (HKP.out _ _ HK.out HC.out)).mono ?_; rintro e w4 ⟨rfl, hb⟩; replace HC := Lib.hid (HC.out.trans (hb.mono HC.out.size)); clear hb)
        | (have hq := HQ1.out; clear hq; go_at_call 11; refine (HH2.out _ (HKP.out _ _ HK.out HC.out)).mono ?_; rintro e w3 ⟨rfl, hb⟩; replace HC := Lib.hid (HC.out.trans (hb.mono HC.out.size)); have HQ2 := Lib.hid True.intro; clear hb)
        | (go_at_call 11; refine (HH1.out _ (HKP.out _ _ HK.out HC.out)).mono ?_; rintro e w2 ⟨rfl, hb⟩; replace HC := Lib.hid (HC.out.trans (hb.mono HC.out.size)); have HQ1 := Lib.hid True.intro; clear hb))
      go_ret
      exact ⟨rfl, HC.out⟩
    · subst h
      have e1 : decide (x ≤ x) = true := by rw [decide_eq_true (by omega)]
      rw [rel_1, e1] at HH1
      rw [rel_1, e1] at HH2
      clear e1
      go_wp2_with (first
        | (have hq := HQ2.out; clear hq; go_at_call 8; refine (HRL.out _ (HKP.out _ _ HK.out HC.out)).mono ?_; rintro e w4 ⟨rfl, hb⟩; replace HC := Lib.hid (HC.out.trans (hb.mono HC.out.size)); clear hb)
        | (have hq := HQ1.out; clear hq; go_at_call 11; refine (HH2.out _ (HKP.out _ _ HK.out HC.out)).mono ?_; rintro e w3 ⟨rfl, hb⟩; replace HC := Lib.hid (HC.out.trans (hb.mono HC.out.size)); have HQ2 := Lib.hid True.intro; clear hb)
        | (go_at_call 11; refine (HH1.out _ (HKP.out _ _ HK.out HC.out)).mono ?_; rintro e w2 ⟨rfl, hb⟩; replace HC := Lib.hid (HC.out.trans (hb.mono HC.out.size)); have HQ1 := Lib.hid True.intro; clear hb))
      go_ret
      exact ⟨rfl, HC.out⟩
    · have e1 : decide (x ≤ y) = false := by rw [decide_eq_false (by omega)]
      have e2 : decide (y ≤ x) = true := by rw [decide_eq_true (by omega)]
      have e3 : (x == y) = false := by rw [beq_eq_false_iff_ne]; omega
      rw [rel_1, e1] at HH1
      rw [rel_1, e2] at HH2
      clear e1 e2 h
      go_wp2_with (first
        | (have hq := HQ2.out; clear hq; go_at_call 8; refine (HRL.out _ (HKP.out _ _ HK.out HC.out)).mono ?_; rintro e w4 ⟨rfl, hb⟩; replace HC := Lib.hid (HC.out.trans (hb.mono HC.out.size)); clear hb)
        | (have hq := HQ1.out; clear hq; go_at_call 11; refine (HH2.out _ (HKP.out _ _ HK.out HC.out)).mono ?_; rintro e w3 ⟨rfl, hb⟩; replace HC := Lib.hid (HC.out.trans (hb.mono HC.out.size)); have HQ2 := Lib.hid True.intro; clear hb)
        | (go_at_call 11; refine (HH1.out _ (HKP.out _ _ HK.out HC.out)).mono ?_; rintro e w2 ⟨rfl, hb⟩; replace HC := Lib.hid (HC.out.trans (hb.mono HC.out.size)); have HQ1 := Lib.hid True.intro; clear hb))
      go_ret
      exact ⟨rfl, HC.out⟩
  · rcases Int.lt_trichotomy x y with h | h | h
    · have e1 : decide (y ≤ x) = false := by rw [decide_eq_false (by omega)]
      have e2 : decide (x ≤ y) = true := by rw [decide_eq_true (by omega)]
      have e3 : (x == y) = false := by rw [beq_eq_false_iff_ne]; omega
      rw [rel_2, e1] at HH1
      rw [rel_2, e2] at HH2
      clear e1 e2 h
      go_wp2_with (first
        | (have hq := HQ2.out; clear hq; go_at_call 8; refine (HRL.out _ (HKP.out _ _ HK.out HC.out)).mono ?_; rintro e w4 ⟨rfl, hb⟩; replace HC := Lib.hid (HC.out.trans (hb.mono HC.out.size)); clear hb)
        | (have hq := HQ1.out; clear hq; go_at_call 11; refine (HH2.out _ (HKP.out _ _ HK.out HC.out)).mono ?_; rintro e w3 ⟨rfl, hb⟩; replace HC := Lib.hid (HC.out.trans (hb.mono HC.out.size)); have HQ2 := Lib.hid True.intro; clear hb)
        | (go_at_call 11; refine (HH1.out _ (HKP.out _ _ HK.out HC.out)).mono ?_; rintro e w2 ⟨rfl, hb⟩; replace HC := Lib.hid (HC.out.trans (hb.mono HC.out.size)); have HQ1 := Lib.hid True.intro; clear hb))
      go_ret
      exact ⟨rfl, HC.out⟩
    · subst h
      have e1 : decide (x ≤ x) = true := by rw [decide_eq_true (by omega)]
      rw [rel_2, e1] at HH1
      rw [rel_2, e1] at HH2
      clear e1
      go_wp2_with (first
        | (have hq := HQ2.out; clear hq; go_at_call 8; refine (HRL.out _ (HKP.out _ _ HK.out HC.out)).mono ?_; rintro e w4 ⟨rfl, hb⟩; replace HC := Lib.hid (HC.out.trans (hb.mono HC.out.size)); clear hb)
        | (have hq := HQ1.out; clear hq; go_at_call 11; refine (HH2.out _ (HKP.out _ _ HK.out HC.out)).mono ?_; rintro e w3 ⟨rfl, hb⟩; replace HC := Lib.hid (HC.out.trans (hb.mono HC.out.size)); have HQ2 := Lib.hid True.intro; clear hb)
        | (go_at_call 11; refine (HH1.out _ (HKP.out _ _ HK.out HC.out)).mono ?_; rintro e w2 ⟨rfl, hb⟩; replace HC := Lib.hid (HC.out.trans (hb.mono HC.out.size)); have HQ1 := Lib.hid True.intro; clear hb))
      go_ret
      exact ⟨rfl, HC.out⟩
    · have e1 : decide (y ≤ x) = true := by rw [decide_eq_true (by omega)]
      have e2 : decide (x ≤ y) = false := by rw [decide_eq_false (by omega)]
      have e3 : (x == y) = false := by rw [beq_eq_false_iff_ne]; omega
      rw [rel_2, e1] at HH1
      rw [rel_2, e2] at HH2
      clear e1 e2 h
      go_wp2_with (first
        | (have hq := HQ2.out; clear hq; go_at_call 8; refine (HRL.out _ (HKP.out _ _ HK.out HC.out)).mono ?_; rintro e w4 ⟨rfl, hb⟩; replace HC := Lib.hid (HC.out.trans (hb.mono HC.out.size)); clear hb)
        | (have hq := HQ1.out; clear hq; go_at_call 11; refine (HH2.out _ (HKP.out _ _ HK.out HC.out)).mono ?_; rintro e w3 ⟨rfl, hb⟩; replace HC := Lib.hid (HC.out.trans (hb.mono HC.out.size)); have HQ2 := Lib.hid True.intro; clear hb)
        | (go_at_call 11; refine (HH1.out _ (HKP.out _ _ HK.out HC.out)).mono ?_; rintro e w2 ⟨rfl, hb⟩; replace HC := Lib.hid (HC.out.trans (hb.mono HC.out.size)); have HQ1 := Lib.hid True.intro; clear hb))
      go_ret
      exact ⟨rfl, HC.out⟩
  · rcases Int.lt_trichotomy x y with h | h | h
    · have e1 : (x == y) = false := by rw [beq_eq_false_iff_ne]; omega
      have e2 : (y == x) = false := by rw [beq_eq_false_iff_ne]; omega
      have e3 : (x == y) = false := by rw [beq_eq_false_iff_ne]; omega
      rw [rel_3, e1] at HH1
      rw [rel_3, e2] at HH2
      clear e1 e2 h
      go_wp2_with (first
        | (have hq := HQ2.out; clear hq; go_at_call 8; refine (HRL.out _ (HKP.out _ _ HK.out HC.out)).mono ?_; rintro e w4 ⟨rfl, hb⟩; replace HC := Lib.hid (HC.out.trans (hb.mono HC.out.size)); clear hb)
        | (have hq := HQ1.out; clear hq; go_at_call 11; refine (HH2.out _ (HKP.out _ _ HK.out HC.out)).mono ?_; rintro e w3 ⟨rfl, hb⟩; replace HC := Lib.hid (HC.out.trans (hb.mono HC.out.size)); have HQ2 := Lib.hid True.intro; clear hb)
        | (go_at_call 11; refine (HH1.out _ (HKP.out _ _ HK.out HC.out)).mono ?_; rintro e w2 ⟨rfl, hb⟩; replace HC := Lib.hid (HC.out.trans (hb.mono HC.out.size)); have HQ1 := Lib.hid True.intro; clear hb))
      go_ret
      exact ⟨rfl, HC.out⟩
    · subst h
      have e1 : (x == x) = true := by rw [beq_self_eq_true]
      rw [rel_3, e1] at HH1
      rw [rel_3, e1] at HH2
      clear e1
      go_wp2_with (first
        | (have hq := HQ2.out; clear hq; go_at_call 8; refine (HRL.out _ (HKP.out _ _ HK.out HC.out)).mono ?_; rintro e w4 ⟨rfl, hb⟩; replace HC := Lib.hid (HC.out.trans (hb.mono HC.out.size)); clear hb)
        | (have hq := HQ1.out; clear hq; go_at_call 11; refine (HH2.out _ (HKP.out _ _ HK.out HC.out)).mono ?_; rintro e w3 ⟨rfl, hb⟩; replace HC := Lib.hid (HC.out.trans (hb.mono HC.out.size)); have HQ2 := Lib.hid True.intro; clear hb)
        | (go_at_call 11; refine (HH1.out _ (HKP.out _ _ HK.out HC.out)).mono ?_; rintro e w2 ⟨rfl, hb⟩; replace HC := Lib.hid (HC.out.trans (hb.mono HC.out.size)); have HQ1 := Lib.hid True.intro; clear hb))
      go_ret
      exact ⟨rfl, HC.out⟩
    · have e1 : (x == y) = false := by rw [beq_eq_false_iff_ne]; omega
      have e2 : (y == x) = false := by rw [beq_eq_false_iff_ne]; omega
      have e3 : (x == y) = false := by rw [beq_eq_false_iff_ne]; omega
      rw [rel_3, e1] at HH1
      rw [rel_3, e2] at HH2
      clear e1 e2 h
      go_wp2_with (first
        | (have hq := HQ2.out; clear hq; go_at_call 8; refine (HRL.out _ (HKP.out _ _ HK.out HC.out)).mono ?_; rintro e w4 ⟨rfl, hb⟩; replace HC := Lib.hid (HC.out.trans (hb.mono HC.out.size)); clear hb)
        | (have hq := HQ1.out; clear hq; go_at_call 11; refine (HH2.out _ (HKP.out _ _ HK.out HC.out)).mono ?_; rintro e w3 ⟨rfl, hb⟩; replace HC := Lib.hid (HC.out.trans (hb.mono HC.out.size)); have HQ2 := Lib.hid True.intro; clear hb)
        | (go_at_call 11; refine (HH1.out _ (HKP.out _ _ HK.out HC.out)).mono ?_; rintro e w2 ⟨rfl, hb⟩; replace HC := Lib.hid (HC.out.trans (hb.mono HC.out.size)); have HQ1 := Lib.hid True.intro; clear hb))
      go_ret
      exact ⟨rfl, HC.out⟩
end Go.Proofs.YtfodnadmabnacaaDoor
