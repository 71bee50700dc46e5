/- Numbers of three words: the contracts of the program's short, multiply, divide. -/
import Derived.Test.YtmndkbfjmamnfaaMoneyNum
import Derived.Test.YtmndkbfjmamnfaaMoneyDiv
import Derived.Test.YtmndkbfjmamnfaaMoneyFits
namespace Go.Proofs.Ytmndkbfjmamnfaa
open Go.RowKit Base

set_option maxRecDepth 100000 in
set_option maxHeartbeats 1000000 in
theorem short27 (g T : Nat) (z : Int) (w : World) (h : NumAt w g T z) : Calls Try.prog 51 #[.pointer (some ⟨g, 0, none⟩)] w fun e w' => e = .returned (.tuple #[.int .i64 (fitV z), .bool (fitB z)]) ∧ w = w' := by
  obtain ⟨a, b, c, hn, hg⟩ := h
  obtain ⟨c0, c1, c2⟩ := num_cells hg
  obtain ⟨ha, hb, hc, hz⟩ := hn
  have HS := Lib.hid (sign32 a ha)
  obtain ⟨s, hs⟩ : ∃ s, sgnW a = s := ⟨_, rfl⟩
  rw [hs] at HS
  unfold Wd at ha hb hc
  by_cases h1 : b = s
  · by_cases h2 : c = s
    · have hf : -9223372036854775808 ≤ z ∧ z ≤ 9223372036854775807 ∧ wrap64 a = z := by
        subst h1
        unfold wrap64
        unfold sgnW at hs
        split at hs <;> omega
      have e1 := fit_yes ⟨hf.1, hf.2.1⟩
      rw [e1.1, e1.2]
      have hw := hf.2.2
      subst h1; subst h2
      clear hf e1 hz ha hb hc hs
      go_enter Try.func51, Try.ntmps51
      go_wp2_with (go_at_call 84; refine HS.out _ |>.mono ?_; rintro e w1 ⟨rfl, rfl⟩)
      go_ret2
      exact ⟨by rw [← hw]; rfl, rfl⟩
    · have hf : ¬ (-9223372036854775808 ≤ z ∧ z ≤ 9223372036854775807) := by
        unfold sgnW at hs
        split at hs <;> omega
      have e1 := fit_no hf
      rw [e1.1, e1.2]
      have n2 : (c != s) = true := by simpa using h2
      subst h1
      clear hf e1 hz ha hb hc hs
      go_enter Try.func51, Try.ntmps51
      go_wp2_with (go_at_call 84; refine HS.out _ |>.mono ?_; rintro e w1 ⟨rfl, rfl⟩)
      go_ret2
      exact ⟨rfl, rfl⟩
  · have hf : ¬ (-9223372036854775808 ≤ z ∧ z ≤ 9223372036854775807) := by
      unfold sgnW at hs
      split at hs <;> omega
    have e1 := fit_no hf
    rw [e1.1, e1.2]
    have n2 : (b != s) = true := by simpa using h1
    clear hf e1 hz ha hb hc hs
    go_enter Try.func51, Try.ntmps51
    go_wp2_with (go_at_call 84; refine HS.out _ |>.mono ?_; rintro e w1 ⟨rfl, rfl⟩)
    go_ret2
    exact ⟨rfl, rfl⟩

/-- One word's step: x times t, and what is carried. -/
theorem word_step (x t k H L n l k' : Int) (hx : Wd x) (ht : Wd t) (hk : Wd k) (hH : x * t / 18446744073709551616 = H) (hL : x * t % 18446744073709551616 = L)
    (hn : (L + k) % 18446744073709551616 = n) (hl : (L + k) / 18446744073709551616 = l) (hk' : (H + l) % 18446744073709551616 = k') :
    Wd H ∧ Wd L ∧ Wd n ∧ Wd k' ∧ x * t + k = n + 18446744073709551616 * k' := by
  have hb : 0 ≤ x * t ∧ x * t ≤ 18446744073709551615 * 18446744073709551615 := by
    unfold Wd at hx ht
    exact ⟨Int.mul_nonneg hx.1 ht.1, Int.mul_le_mul (by omega) (by omega) ht.1 (by decide)⟩
  generalize x * t = p at *
  unfold Wd at *
  omega
/-- What multiply's loop holds. -/
def MulRel (w : World) (g T : Nat) (a b c a1 b1 c1 k1 k2 k3 : Int) (vc vi : Value) (W : World) : Prop :=
  w.grownBy W (some g) ∧ ((vi = .int .i64 0 ∧ vc = .int .u64 0 ∧ W.heap[g]? = some (.cells (NumC a b c) T (0, 0))) ∨ (vi = .int .i64 1 ∧ vc = .int .u64 k1 ∧ W.heap[g]? = some (.cells (NumC a1 b c) T (0, 0))) ∨
    (vi = .int .i64 2 ∧ vc = .int .u64 k2 ∧ W.heap[g]? = some (.cells (NumC a1 b1 c) T (0, 0))) ∨ (vi = .int .i64 3 ∧ vc = .int .u64 k3 ∧ W.heap[g]? = some (.cells (NumC a1 b1 c1) T (0, 0))))

set_option maxRecDepth 100000 in
set_option maxHeartbeats 1000000 in
theorem multiply29 (g T : Nat) (z t : Int) (w : World) (h : NumAt w g T z) (hz0 : 0 ≤ z) (ht : Wd t) (hr : In192 (z * t)) :
    Calls Try.prog 55 #[.pointer (some ⟨g, 0, none⟩), .int .u64 t] w fun e w' => e = .returned (.tuple #[]) ∧ NumAt w' g T (z * t) ∧ w.grownBy w' (some g) := by
  obtain ⟨a, b, c, hn, hg⟩ := h
  obtain ⟨ha, hb, hc, hz⟩ := hn
  obtain ⟨Ha, hHa⟩ : ∃ s, a * t / 18446744073709551616 = s := ⟨_, rfl⟩
  obtain ⟨La, hLa⟩ : ∃ s, a * t % 18446744073709551616 = s := ⟨_, rfl⟩
  obtain ⟨a1, hna⟩ : ∃ s, (La + 0) % 18446744073709551616 = s := ⟨_, rfl⟩
  obtain ⟨la, hla⟩ : ∃ s, (La + 0) / 18446744073709551616 = s := ⟨_, rfl⟩
  obtain ⟨k1, hka⟩ : ∃ s, (Ha + la) % 18446744073709551616 = s := ⟨_, rfl⟩
  obtain ⟨Hb, hHb⟩ : ∃ s, b * t / 18446744073709551616 = s := ⟨_, rfl⟩
  obtain ⟨Lb, hLb⟩ : ∃ s, b * t % 18446744073709551616 = s := ⟨_, rfl⟩
  obtain ⟨b1, hnb⟩ : ∃ s, (Lb + k1) % 18446744073709551616 = s := ⟨_, rfl⟩
  obtain ⟨lb, hlb⟩ : ∃ s, (Lb + k1) / 18446744073709551616 = s := ⟨_, rfl⟩
  obtain ⟨k2, hkb⟩ : ∃ s, (Hb + lb) % 18446744073709551616 = s := ⟨_, rfl⟩
  obtain ⟨Hc, hHc⟩ : ∃ s, c * t / 18446744073709551616 = s := ⟨_, rfl⟩
  obtain ⟨Lc, hLc⟩ : ∃ s, c * t % 18446744073709551616 = s := ⟨_, rfl⟩
  obtain ⟨c1, hnc⟩ : ∃ s, (Lc + k2) % 18446744073709551616 = s := ⟨_, rfl⟩
  obtain ⟨lc, hlc⟩ : ∃ s, (Lc + k2) / 18446744073709551616 = s := ⟨_, rfl⟩
  obtain ⟨k3, hkc⟩ : ∃ s, (Hc + lc) % 18446744073709551616 = s := ⟨_, rfl⟩
  have sa := word_step a t 0 Ha La a1 la k1 ha ht (by unfold Wd; omega) hHa hLa hna hla hka
  have sb := word_step b t k1 Hb Lb b1 lb k2 hb ht sa.2.2.2.1 hHb hLb hnb hlb hkb
  have sc := word_step c t k2 Hc Lc c1 lc k3 hc ht sb.2.2.2.1 hHc hLc hnc hlc hkc
  have HN : Hid (Num3 a1 b1 c1 (z * t)) := by
    show Num3 a1 b1 c1 (z * t)
    have e : z * t = a * t + 18446744073709551616 * (b * t) + 340282366920938463463374607431768211456 * (c * t) := by
      rw [show z = a + 18446744073709551616 * b + 340282366920938463463374607431768211456 * c by unfold Wd at ha hb hc; omega, Int.add_mul, Int.add_mul, Int.mul_assoc, Int.mul_assoc]
    have hp : 0 ≤ z * t := Int.mul_nonneg hz0 ht.1
    obtain ⟨_, _, na, ka, ea⟩ := sa
    obtain ⟨_, _, nb, kb, eb⟩ := sb
    obtain ⟨_, _, nc, kc, ec⟩ := sc
    rw [Int.add_zero] at ea
    rw [ea] at e
    generalize a * t = pa at *; generalize b * t = pb at *; generalize c * t = pc at *; generalize z * t = pz at *
    unfold In192 at hr
    refine ⟨na, nb, nc, .inl ?_⟩
    unfold Wd at *
    omega
  have HM0 := Lib.hid (mul33 a t ha ht); have HM1 := Lib.hid (mul33 b t hb ht); have HM2 := Lib.hid (mul33 c t hc ht)
  rw [hHa, hLa] at HM0; rw [hHb, hLb] at HM1; rw [hHc, hLc] at HM2
  have HA0 := fun W => add31_0 La 0 sa.2.1.1 (Int.le_refl 0) W
  have HA1 := fun W => add31_0 Lb k1 sb.2.1.1 sa.2.2.2.1.1 W
  have HA2 := fun W => add31_0 Lc k2 sc.2.1.1 sb.2.2.2.1.1 W
  rw [hna, hla] at HA0; rw [hnb, hlb] at HA1; rw [hnc, hlc] at HA2
  have wa : IntKind.u64.wrap (Ha + la) = k1 := by rw [IntKind.wrap_u64]; exact hka
  have wb : IntKind.u64.wrap (Hb + lb) = k2 := by rw [IntKind.wrap_u64]; exact hkb
  have wc : IntKind.u64.wrap (Hc + lc) = k3 := by rw [IntKind.wrap_u64]; exact hkc
  clear sa sb sc hHa hLa hna hla hka hHb hLb hnb hlb hkb hHc hLc hnc hlc hkc hz hz0 hr ha hb hc ht
  go_enter Try.func55, Try.ntmps55
  go_wp2
  go_loopw [4, 8] (fun vc vi W => MulRel w g T a b c a1 b1 c1 k1 k2 k3 vc vi W) (fun _ vi _ => (3 - intOf vi).toNat)
  case atStart => exact ⟨World.grownBy.refl _ _, .inl ⟨rfl, rfl, hg⟩⟩
  case round =>
    clear hg
    obtain ⟨hw, hrel⟩ := hrel
    rcases hrel with ⟨rfl, rfl, hg⟩ | ⟨rfl, rfl, hg⟩ | ⟨rfl, rfl, hg⟩ | ⟨rfl, rfl, hg⟩
    · have HG := Lib.hid hg; have HW := Lib.hid hw
      clear hg hw
      have c0 := (num_cells HG.out).1; have f0 := free_of_blkN HG.out 0
      go_upto_region 5 with (go_at_call 85; refine HM0.out _ |>.mono ?_; rintro e w1 ⟨rfl, rfl⟩)
      refine wp_region_held_drew (S := fun _ => True) (by kernel_rfl) trivial (fun _ => ?_)
      refine wpAnyH_take (i := 0) (v := .pointer (some ⟨g, 0, none⟩)) rfl (by kernel_rfl) (by kernel_rfl) (by kernel_rfl) (fun _ _ _ h => h) (Or.inl ⟨by simp [Region.wanted], fun W _ => by go_simp⟩) trivial ?_
      simp only [List.getElem_toArray, List.getElem_cons_zero, Act.put, List.setIfInBounds_toArray, List.set_cons_zero, List.set_cons_succ]
      refine wpAnyH_take (i := 1) (v := .int .i64 0) rfl (by kernel_rfl) (by kernel_rfl) (by kernel_rfl) (fun _ _ _ h => h) (Or.inl ⟨by simp [Region.wanted], fun W _ => by go_simp⟩) trivial ?_
      simp only [List.getElem_toArray, List.getElem_cons_zero, List.getElem_cons_succ, Act.put, List.setIfInBounds_toArray, List.set_cons_zero, List.set_cons_succ]
      refine wpAnyH_take (i := 2) (v := .int .u64 La) rfl (by kernel_rfl) (by kernel_rfl) (by kernel_rfl) (fun _ _ _ h => h) (Or.inl ⟨by simp [Region.wanted], fun W _ => by go_simp⟩) trivial ?_
      simp only [List.getElem_toArray, List.getElem_cons_zero, List.getElem_cons_succ, Act.put, List.setIfInBounds_toArray, List.set_cons_zero, List.set_cons_succ]
      refine wpAnyH_take (i := 3) (v := .int .u64 0) rfl (by kernel_rfl) (by kernel_rfl) (by kernel_rfl) (fun _ _ _ h => h) (Or.inl ⟨by simp [Region.wanted], fun W _ => by go_simp⟩) trivial ?_
      simp only [List.getElem_toArray, List.getElem_cons_zero, List.getElem_cons_succ, Act.put, List.setIfInBounds_toArray, List.set_cons_zero, List.set_cons_succ]
      refine wpAnyH_take (i := 8) (v := .pointer (some ⟨g, 0, none⟩)) rfl (by kernel_rfl) (by kernel_rfl) (by kernel_rfl) (fun _ _ _ h => h) (Or.inl ⟨by simp [Region.wanted], fun W _ => by go_simp⟩) trivial ?_
      simp only [List.getElem_toArray, List.getElem_cons_zero, List.getElem_cons_succ, Act.put, List.setIfInBounds_toArray, List.set_cons_zero, List.set_cons_succ]
      refine wpAnyH_ready (rs := [4]) (by kernel_rfl) (by simp) ?_
      refine AllReadyH.cons rfl (fun K hK => ?_) AllReadyH.nil
      refine wanted_go rfl ?_
      simp only [List.getElem_toArray, List.getElem_cons_zero, List.getElem_cons_succ]
      go_wp2_with (simp only [HA0])
      refine hK.out _ _ trivial (fun _ => ?_)
      refine wpAnyH_take (i := 5) (v := .tuple #[.int .u64 a1, .int .u64 la]) rfl (by kernel_rfl) (by kernel_rfl) (by kernel_rfl) (fun _ _ _ h => h) (Or.inl ⟨by simp [Region.wanted], fun W _ => by go_simp⟩) trivial ?_
      simp only [List.getElem_toArray, List.getElem_cons_zero, List.getElem_cons_succ, Act.put, List.setIfInBounds_toArray, List.set_cons_zero, List.set_cons_succ]
      refine wpAnyH_take (i := 6) (v := .int .u64 a1) rfl (by kernel_rfl) (by kernel_rfl) (by kernel_rfl) (fun _ _ _ h => h) (Or.inl ⟨by simp [Region.wanted], fun W _ => by go_simp⟩) trivial ?_
      simp only [List.getElem_toArray, List.getElem_cons_zero, List.getElem_cons_succ, Act.put, List.setIfInBounds_toArray, List.set_cons_zero, List.set_cons_succ]
      refine wpAnyH_take (i := 7) (v := .int .u64 la) rfl (by kernel_rfl) (by kernel_rfl) (by kernel_rfl) (fun _ _ _ h => h) (Or.inl ⟨by simp [Region.wanted], fun W _ => by go_simp⟩) trivial ?_
      simp only [List.getElem_toArray, List.getElem_cons_zero, List.getElem_cons_succ, Act.put, List.setIfInBounds_toArray, List.set_cons_zero, List.set_cons_succ]
      refine wpAnyH_take (i := 9) (v := .pointer (some ⟨g, 0, none⟩)) rfl (by kernel_rfl) (by kernel_rfl) (by kernel_rfl) (fun _ _ _ h => h) (Or.inl ⟨by simp [Region.wanted], fun W _ => by go_simp⟩) trivial ?_
      simp only [List.getElem_toArray, List.getElem_cons_zero, List.getElem_cons_succ, Act.put, List.setIfInBounds_toArray, List.set_cons_zero, List.set_cons_succ]
      refine wpAnyH_ready (rs := [10]) (by kernel_rfl) (by simp) ?_
      refine AllReadyH.cons rfl (fun K hK => ?_) AllReadyH.nil
      refine wanted_go rfl ?_
      simp only [List.getElem_toArray, List.getElem_cons_zero, List.getElem_cons_succ]
      go_wp2
      refine hK.out _ _ trivial (fun _ => ?_)
      refine wpAnyH_take (i := 11) (v := .int .u64 la) rfl (by kernel_rfl) (by kernel_rfl) (by kernel_rfl) (fun _ _ _ h => h) (Or.inl ⟨by simp [Region.wanted], fun W _ => by go_simp⟩) trivial ?_
      simp only [List.getElem_toArray, List.getElem_cons_zero, List.getElem_cons_succ, Act.put, List.setIfInBounds_toArray, List.set_cons_zero, List.set_cons_succ]
      refine wpAnyH_done (by kernel_rfl) ?_ _
      go_wp2
      go_roundw
      case rel => exact ⟨grown_drewN' (grown_cellN HW.out _ _), .inr (.inl ⟨by go_num, by go_num, num_set0 (W := wr) HG.out a1⟩)⟩
      case measure => simp [intOf]
    · have HG := Lib.hid hg; have HW := Lib.hid hw
      clear hg hw
      have c0 := (num_cells HG.out).2.1; have f0 := free_of_blkN HG.out 1
      go_upto_region 5 with (go_at_call 85; refine HM1.out _ |>.mono ?_; rintro e w1 ⟨rfl, rfl⟩)
      refine wp_region_held_drew (S := fun _ => True) (by kernel_rfl) trivial (fun _ => ?_)
      refine wpAnyH_take (i := 0) (v := .pointer (some ⟨g, 0, none⟩)) rfl (by kernel_rfl) (by kernel_rfl) (by kernel_rfl) (fun _ _ _ h => h) (Or.inl ⟨by simp [Region.wanted], fun W _ => by go_simp⟩) trivial ?_
      simp only [List.getElem_toArray, List.getElem_cons_zero, Act.put, List.setIfInBounds_toArray, List.set_cons_zero, List.set_cons_succ]
      refine wpAnyH_take (i := 1) (v := .int .i64 1) rfl (by kernel_rfl) (by kernel_rfl) (by kernel_rfl) (fun _ _ _ h => h) (Or.inl ⟨by simp [Region.wanted], fun W _ => by go_simp⟩) trivial ?_
      simp only [List.getElem_toArray, List.getElem_cons_zero, List.getElem_cons_succ, Act.put, List.setIfInBounds_toArray, List.set_cons_zero, List.set_cons_succ]
      refine wpAnyH_take (i := 2) (v := .int .u64 Lb) rfl (by kernel_rfl) (by kernel_rfl) (by kernel_rfl) (fun _ _ _ h => h) (Or.inl ⟨by simp [Region.wanted], fun W _ => by go_simp⟩) trivial ?_
      simp only [List.getElem_toArray, List.getElem_cons_zero, List.getElem_cons_succ, Act.put, List.setIfInBounds_toArray, List.set_cons_zero, List.set_cons_succ]
      refine wpAnyH_take (i := 3) (v := .int .u64 k1) rfl (by kernel_rfl) (by kernel_rfl) (by kernel_rfl) (fun _ _ _ h => h) (Or.inl ⟨by simp [Region.wanted], fun W _ => by go_simp⟩) trivial ?_
      simp only [List.getElem_toArray, List.getElem_cons_zero, List.getElem_cons_succ, Act.put, List.setIfInBounds_toArray, List.set_cons_zero, List.set_cons_succ]
      refine wpAnyH_take (i := 8) (v := .pointer (some ⟨g, 0, none⟩)) rfl (by kernel_rfl) (by kernel_rfl) (by kernel_rfl) (fun _ _ _ h => h) (Or.inl ⟨by simp [Region.wanted], fun W _ => by go_simp⟩) trivial ?_
      simp only [List.getElem_toArray, List.getElem_cons_zero, List.getElem_cons_succ, Act.put, List.setIfInBounds_toArray, List.set_cons_zero, List.set_cons_succ]
      refine wpAnyH_ready (rs := [4]) (by kernel_rfl) (by simp) ?_
      refine AllReadyH.cons rfl (fun K hK => ?_) AllReadyH.nil
      refine wanted_go rfl ?_
      simp only [List.getElem_toArray, List.getElem_cons_zero, List.getElem_cons_succ]
      go_wp2_with (simp only [HA1])
      refine hK.out _ _ trivial (fun _ => ?_)
      refine wpAnyH_take (i := 5) (v := .tuple #[.int .u64 b1, .int .u64 lb]) rfl (by kernel_rfl) (by kernel_rfl) (by kernel_rfl) (fun _ _ _ h => h) (Or.inl ⟨by simp [Region.wanted], fun W _ => by go_simp⟩) trivial ?_
      simp only [List.getElem_toArray, List.getElem_cons_zero, List.getElem_cons_succ, Act.put, List.setIfInBounds_toArray, List.set_cons_zero, List.set_cons_succ]
      refine wpAnyH_take (i := 6) (v := .int .u64 b1) rfl (by kernel_rfl) (by kernel_rfl) (by kernel_rfl) (fun _ _ _ h => h) (Or.inl ⟨by simp [Region.wanted], fun W _ => by go_simp⟩) trivial ?_
      simp only [List.getElem_toArray, List.getElem_cons_zero, List.getElem_cons_succ, Act.put, List.setIfInBounds_toArray, List.set_cons_zero, List.set_cons_succ]
      refine wpAnyH_take (i := 7) (v := .int .u64 lb) rfl (by kernel_rfl) (by kernel_rfl) (by kernel_rfl) (fun _ _ _ h => h) (Or.inl ⟨by simp [Region.wanted], fun W _ => by go_simp⟩) trivial ?_
      simp only [List.getElem_toArray, List.getElem_cons_zero, List.getElem_cons_succ, Act.put, List.setIfInBounds_toArray, List.set_cons_zero, List.set_cons_succ]
      refine wpAnyH_take (i := 9) (v := .pointer (some ⟨g, 1, none⟩)) rfl (by kernel_rfl) (by kernel_rfl) (by kernel_rfl) (fun _ _ _ h => h) (Or.inl ⟨by simp [Region.wanted], fun W _ => by go_simp⟩) trivial ?_
      simp only [List.getElem_toArray, List.getElem_cons_zero, List.getElem_cons_succ, Act.put, List.setIfInBounds_toArray, List.set_cons_zero, List.set_cons_succ]
      refine wpAnyH_ready (rs := [10]) (by kernel_rfl) (by simp) ?_
      refine AllReadyH.cons rfl (fun K hK => ?_) AllReadyH.nil
      refine wanted_go rfl ?_
      simp only [List.getElem_toArray, List.getElem_cons_zero, List.getElem_cons_succ]
      go_wp2
      refine hK.out _ _ trivial (fun _ => ?_)
      refine wpAnyH_take (i := 11) (v := .int .u64 lb) rfl (by kernel_rfl) (by kernel_rfl) (by kernel_rfl) (fun _ _ _ h => h) (Or.inl ⟨by simp [Region.wanted], fun W _ => by go_simp⟩) trivial ?_
      simp only [List.getElem_toArray, List.getElem_cons_zero, List.getElem_cons_succ, Act.put, List.setIfInBounds_toArray, List.set_cons_zero, List.set_cons_succ]
      refine wpAnyH_done (by kernel_rfl) ?_ _
      go_wp2
      go_roundw
      case rel => exact ⟨grown_drewN' (grown_cellN HW.out _ _), .inr (.inr (.inl ⟨by go_num, by go_num, num_set1 (W := wr) HG.out b1⟩))⟩
      case measure => simp [intOf]
    · have HG := Lib.hid hg; have HW := Lib.hid hw
      clear hg hw
      have c0 := (num_cells HG.out).2.2; have f0 := free_of_blkN HG.out 2
      go_upto_region 5 with (go_at_call 85; refine HM2.out _ |>.mono ?_; rintro e w1 ⟨rfl, rfl⟩)
      refine wp_region_held_drew (S := fun _ => True) (by kernel_rfl) trivial (fun _ => ?_)
      refine wpAnyH_take (i := 0) (v := .pointer (some ⟨g, 0, none⟩)) rfl (by kernel_rfl) (by kernel_rfl) (by kernel_rfl) (fun _ _ _ h => h) (Or.inl ⟨by simp [Region.wanted], fun W _ => by go_simp⟩) trivial ?_
      simp only [List.getElem_toArray, List.getElem_cons_zero, Act.put, List.setIfInBounds_toArray, List.set_cons_zero, List.set_cons_succ]
      refine wpAnyH_take (i := 1) (v := .int .i64 2) rfl (by kernel_rfl) (by kernel_rfl) (by kernel_rfl) (fun _ _ _ h => h) (Or.inl ⟨by simp [Region.wanted], fun W _ => by go_simp⟩) trivial ?_
      simp only [List.getElem_toArray, List.getElem_cons_zero, List.getElem_cons_succ, Act.put, List.setIfInBounds_toArray, List.set_cons_zero, List.set_cons_succ]
      refine wpAnyH_take (i := 2) (v := .int .u64 Lc) rfl (by kernel_rfl) (by kernel_rfl) (by kernel_rfl) (fun _ _ _ h => h) (Or.inl ⟨by simp [Region.wanted], fun W _ => by go_simp⟩) trivial ?_
      simp only [List.getElem_toArray, List.getElem_cons_zero, List.getElem_cons_succ, Act.put, List.setIfInBounds_toArray, List.set_cons_zero, List.set_cons_succ]
      refine wpAnyH_take (i := 3) (v := .int .u64 k2) rfl (by kernel_rfl) (by kernel_rfl) (by kernel_rfl) (fun _ _ _ h => h) (Or.inl ⟨by simp [Region.wanted], fun W _ => by go_simp⟩) trivial ?_
      simp only [List.getElem_toArray, List.getElem_cons_zero, List.getElem_cons_succ, Act.put, List.setIfInBounds_toArray, List.set_cons_zero, List.set_cons_succ]
      refine wpAnyH_take (i := 8) (v := .pointer (some ⟨g, 0, none⟩)) rfl (by kernel_rfl) (by kernel_rfl) (by kernel_rfl) (fun _ _ _ h => h) (Or.inl ⟨by simp [Region.wanted], fun W _ => by go_simp⟩) trivial ?_
      simp only [List.getElem_toArray, List.getElem_cons_zero, List.getElem_cons_succ, Act.put, List.setIfInBounds_toArray, List.set_cons_zero, List.set_cons_succ]
      refine wpAnyH_ready (rs := [4]) (by kernel_rfl) (by simp) ?_
      refine AllReadyH.cons rfl (fun K hK => ?_) AllReadyH.nil
      refine wanted_go rfl ?_
      simp only [List.getElem_toArray, List.getElem_cons_zero, List.getElem_cons_succ]
      go_wp2_with (simp only [HA2])
      refine hK.out _ _ trivial (fun _ => ?_)
      refine wpAnyH_take (i := 5) (v := .tuple #[.int .u64 c1, .int .u64 lc]) rfl (by kernel_rfl) (by kernel_rfl) (by kernel_rfl) (fun _ _ _ h => h) (Or.inl ⟨by simp [Region.wanted], fun W _ => by go_simp⟩) trivial ?_
      simp only [List.getElem_toArray, List.getElem_cons_zero, List.getElem_cons_succ, Act.put, List.setIfInBounds_toArray, List.set_cons_zero, List.set_cons_succ]
      refine wpAnyH_take (i := 6) (v := .int .u64 c1) rfl (by kernel_rfl) (by kernel_rfl) (by kernel_rfl) (fun _ _ _ h => h) (Or.inl ⟨by simp [Region.wanted], fun W _ => by go_simp⟩) trivial ?_
      simp only [List.getElem_toArray, List.getElem_cons_zero, List.getElem_cons_succ, Act.put, List.setIfInBounds_toArray, List.set_cons_zero, List.set_cons_succ]
      refine wpAnyH_take (i := 7) (v := .int .u64 lc) rfl (by kernel_rfl) (by kernel_rfl) (by kernel_rfl) (fun _ _ _ h => h) (Or.inl ⟨by simp [Region.wanted], fun W _ => by go_simp⟩) trivial ?_
      simp only [List.getElem_toArray, List.getElem_cons_zero, List.getElem_cons_succ, Act.put, List.setIfInBounds_toArray, List.set_cons_zero, List.set_cons_succ]
      refine wpAnyH_take (i := 9) (v := .pointer (some ⟨g, 2, none⟩)) rfl (by kernel_rfl) (by kernel_rfl) (by kernel_rfl) (fun _ _ _ h => h) (Or.inl ⟨by simp [Region.wanted], fun W _ => by go_simp⟩) trivial ?_
      simp only [List.getElem_toArray, List.getElem_cons_zero, List.getElem_cons_succ, Act.put, List.setIfInBounds_toArray, List.set_cons_zero, List.set_cons_succ]
      refine wpAnyH_ready (rs := [10]) (by kernel_rfl) (by simp) ?_
      refine AllReadyH.cons rfl (fun K hK => ?_) AllReadyH.nil
      refine wanted_go rfl ?_
      simp only [List.getElem_toArray, List.getElem_cons_zero, List.getElem_cons_succ]
      go_wp2
      refine hK.out _ _ trivial (fun _ => ?_)
      refine wpAnyH_take (i := 11) (v := .int .u64 lc) rfl (by kernel_rfl) (by kernel_rfl) (by kernel_rfl) (fun _ _ _ h => h) (Or.inl ⟨by simp [Region.wanted], fun W _ => by go_simp⟩) trivial ?_
      simp only [List.getElem_toArray, List.getElem_cons_zero, List.getElem_cons_succ, Act.put, List.setIfInBounds_toArray, List.set_cons_zero, List.set_cons_succ]
      refine wpAnyH_done (by kernel_rfl) ?_ _
      go_wp2
      go_roundw
      case rel => exact ⟨grown_drewN' (grown_cellN HW.out _ _), .inr (.inr (.inr ⟨by go_num, by go_num, num_set2 (W := wr) HG.out c1⟩))⟩
      case measure => simp [intOf]
    · go_wp2
      go_end0
      exact ⟨rfl, ⟨a1, b1, c1, HN.out, hg⟩, hw⟩

theorem grown_drewn {w W : World} {r : Option Nat} (h : w.grownBy W r) (n : Nat) : w.grownBy (W.drewN n) r := ⟨h.os, h.tape, h.output, h.size, h.block⟩
/-- What divide's loop holds. -/
def DivRel (w : World) (g T : Nat) (a b c q0 q1 q2 r0 r1 r2 : Int) (vr vi : Value) (W : World) : Prop :=
  w.grownBy W (some g) ∧ ((vi = .int .i64 2 ∧ vr = .int .u64 0 ∧ W.heap[g]? = some (.cells (NumC a b c) T (0, 0))) ∨ (vi = .int .i64 1 ∧ vr = .int .u64 r2 ∧ W.heap[g]? = some (.cells (NumC a b q2) T (0, 0))) ∨
    (vi = .int .i64 0 ∧ vr = .int .u64 r1 ∧ W.heap[g]? = some (.cells (NumC a q1 q2) T (0, 0))) ∨ (vi = .int .i64 (-1) ∧ vr = .int .u64 r0 ∧ W.heap[g]? = some (.cells (NumC q0 q1 q2) T (0, 0))))

set_option maxRecDepth 100000 in
set_option maxHeartbeats 1000000 in
theorem divide30 (g T : Nat) (z : Int) (w : World) (h : NumAt w g T z) (hz0 : 0 ≤ z) :
    Calls Try.prog 56 #[.pointer (some ⟨g, 0, none⟩), .int .u64 100] w fun e w' => e = .returned (.tuple #[]) ∧ NumAt w' g T (z / 100) ∧ w.grownBy w' (some g) := by
  obtain ⟨a, b, c, hn, hg⟩ := h
  obtain ⟨ha, hb, hc, hz⟩ := hn
  have HD2 := Lib.hid (div34 0 c (by decide) hc)
  obtain ⟨q2, hq2⟩ : ∃ s, (0 * 18446744073709551616 + c) / 100 = s := ⟨_, rfl⟩
  obtain ⟨r2, hr2⟩ : ∃ s, (0 * 18446744073709551616 + c) % 100 = s := ⟨_, rfl⟩
  have HD1 := Lib.hid (div34 r2 b (by omega) hb)
  obtain ⟨q1, hq1⟩ : ∃ s, (r2 * 18446744073709551616 + b) / 100 = s := ⟨_, rfl⟩
  obtain ⟨r1, hr1⟩ : ∃ s, (r2 * 18446744073709551616 + b) % 100 = s := ⟨_, rfl⟩
  have HD0 := Lib.hid (div34 r1 a (by omega) ha)
  obtain ⟨q0, hq0⟩ : ∃ s, (r1 * 18446744073709551616 + a) / 100 = s := ⟨_, rfl⟩
  obtain ⟨r0, hr0⟩ : ∃ s, (r1 * 18446744073709551616 + a) % 100 = s := ⟨_, rfl⟩
  rw [hq2, hr2] at HD2; rw [hq1, hr1] at HD1; rw [hq0, hr0] at HD0
  have HN : Hid (Num3 q0 q1 q2 (z / 100)) := by
    show Num3 q0 q1 q2 (z / 100)
    unfold Wd at ha hb hc
    unfold Num3 Wd
    refine ⟨by omega, by omega, by omega, .inl ⟨by omega, by omega⟩⟩
  clear hz hz0 ha hb hc hq2 hr2 hq1 hr1 hq0 hr0
  go_enter Try.func56, Try.ntmps56
  go_wp2
  go_loopw [4, 5] (fun vr vi W => DivRel w g T a b c q0 q1 q2 r0 r1 r2 vr vi W) (fun _ vi _ => (1 + intOf vi).toNat)
  case atStart => exact ⟨World.grownBy.refl _ _, .inl ⟨rfl, rfl, hg⟩⟩
  case round =>
    clear hg
    obtain ⟨hw, hrel⟩ := hrel
    rcases hrel with ⟨rfl, rfl, hg⟩ | ⟨rfl, rfl, hg⟩ | ⟨rfl, rfl, hg⟩ | ⟨rfl, rfl, hg⟩
    · have HG := Lib.hid hg; have HW := Lib.hid hw
      clear hg hw
      have c0 := (num_cells HG.out).2.2; have f0 := free_of_blkN HG.out 2
      go_upto_region 4 with (fail)
      refine wp_region_held_drew (S := fun _ => True) (by kernel_rfl) trivial (fun _ => ?_)
      refine wpAnyH_take (i := 0) (v := .pointer (some ⟨g, 0, none⟩)) rfl (by kernel_rfl) (by kernel_rfl) (by kernel_rfl) (fun _ _ _ h => h) (Or.inl ⟨by simp [Region.wanted], fun W _ => by go_simp⟩) trivial ?_
      simp only [List.getElem_toArray, List.getElem_cons_zero, Act.put, List.setIfInBounds_toArray, List.set_cons_zero, List.set_cons_succ]
      refine wpAnyH_take (i := 1) (v := .int .i64 2) rfl (by kernel_rfl) (by kernel_rfl) (by kernel_rfl) (fun _ _ _ h => h) (Or.inl ⟨by simp [Region.wanted], fun W _ => by go_simp⟩) trivial ?_
      simp only [List.getElem_toArray, List.getElem_cons_zero, List.getElem_cons_succ, Act.put, List.setIfInBounds_toArray, List.set_cons_zero, List.set_cons_succ]
      refine wpAnyH_take (i := 2) (v := .int .u64 0) rfl (by kernel_rfl) (by kernel_rfl) (by kernel_rfl) (fun _ _ _ h => h) (Or.inl ⟨by simp [Region.wanted], fun W _ => by go_simp⟩) trivial ?_
      simp only [List.getElem_toArray, List.getElem_cons_zero, List.getElem_cons_succ, Act.put, List.setIfInBounds_toArray, List.set_cons_zero, List.set_cons_succ]
      refine wpAnyH_take (i := 3) (v := .pointer (some ⟨g, 0, none⟩)) rfl (by kernel_rfl) (by kernel_rfl) (by kernel_rfl) (fun _ _ _ h => h) (Or.inl ⟨by simp [Region.wanted], fun W _ => by go_simp⟩) trivial ?_
      simp only [List.getElem_toArray, List.getElem_cons_zero, List.getElem_cons_succ, Act.put, List.setIfInBounds_toArray, List.set_cons_zero, List.set_cons_succ]
      refine wpAnyH_take (i := 4) (v := .int .i64 2) rfl (by kernel_rfl) (by kernel_rfl) (by kernel_rfl) (fun _ _ _ h => h) (Or.inl ⟨by simp [Region.wanted], fun W _ => by go_simp⟩) trivial ?_
      simp only [List.getElem_toArray, List.getElem_cons_zero, List.getElem_cons_succ, Act.put, List.setIfInBounds_toArray, List.set_cons_zero, List.set_cons_succ]
      refine wpAnyH_take (i := 5) (v := .pointer (some ⟨g, 0, none⟩)) rfl (by kernel_rfl) (by kernel_rfl) (by kernel_rfl) (fun _ _ _ h => h) (Or.inl ⟨by simp [Region.wanted], fun W _ => by go_simp⟩) trivial ?_
      simp only [List.getElem_toArray, List.getElem_cons_zero, List.getElem_cons_succ, Act.put, List.setIfInBounds_toArray, List.set_cons_zero, List.set_cons_succ]
      refine wpAnyH_take (i := 6) (v := .pointer (some ⟨g, 2, none⟩)) rfl (by kernel_rfl) (by kernel_rfl) (by kernel_rfl) (fun _ _ _ h => h) (Or.inl ⟨by simp [Region.wanted], fun W _ => by go_simp⟩) trivial ?_
      simp only [List.getElem_toArray, List.getElem_cons_zero, List.getElem_cons_succ, Act.put, List.setIfInBounds_toArray, List.set_cons_zero, List.set_cons_succ]
      refine wpAnyH_take (i := 8) (v := .int .u64 100) rfl (by kernel_rfl) (by kernel_rfl) (by kernel_rfl) (fun _ _ _ h => h) (Or.inl ⟨by simp [Region.wanted], fun W _ => by go_simp⟩) trivial ?_
      simp only [List.getElem_toArray, List.getElem_cons_zero, List.getElem_cons_succ, Act.put, List.setIfInBounds_toArray, List.set_cons_zero, List.set_cons_succ]
      refine wpAnyH_take (i := 13) (v := .pointer (some ⟨g, 0, none⟩)) rfl (by kernel_rfl) (by kernel_rfl) (by kernel_rfl) (fun _ _ _ h => h) (Or.inl ⟨by simp [Region.wanted], fun W _ => by go_simp⟩) trivial ?_
      simp only [List.getElem_toArray, List.getElem_cons_zero, List.getElem_cons_succ, Act.put, List.setIfInBounds_toArray, List.set_cons_zero, List.set_cons_succ]
      refine wpAnyH_ready (rs := [7]) (by kernel_rfl) (by simp) ?_
      refine AllReadyH.cons rfl (fun K hK => ?_) AllReadyH.nil
      refine wanted_go rfl ?_
      simp only [List.getElem_toArray, List.getElem_cons_zero, List.getElem_cons_succ]
      go_wp2
      refine hK.out _ _ trivial (fun _ => ?_)
      refine wpAnyH_ready (rs := [9]) (by kernel_rfl) (by simp) ?_
      refine AllReadyH.cons rfl (fun K hK => ?_) AllReadyH.nil
      refine wanted_go rfl ?_
      simp only [List.getElem_toArray, List.getElem_cons_zero, List.getElem_cons_succ]
      go_wp2_with (go_at_call 87; refine HD2.out _ |>.mono ?_; rintro e w1 ⟨rfl, n1, rfl⟩)
      refine hK.out _ _ trivial (fun _ => ?_)
      refine wpAnyH_take (i := 10) (v := .tuple #[.int .u64 q2, .int .u64 r2]) rfl (by kernel_rfl) (by kernel_rfl) (by kernel_rfl) (fun _ _ _ h => h) (Or.inl ⟨by simp [Region.wanted], fun W _ => by go_simp⟩) trivial ?_
      simp only [List.getElem_toArray, List.getElem_cons_zero, List.getElem_cons_succ, Act.put, List.setIfInBounds_toArray, List.set_cons_zero, List.set_cons_succ]
      refine wpAnyH_take (i := 11) (v := .int .u64 q2) rfl (by kernel_rfl) (by kernel_rfl) (by kernel_rfl) (fun _ _ _ h => h) (Or.inl ⟨by simp [Region.wanted], fun W _ => by go_simp⟩) trivial ?_
      simp only [List.getElem_toArray, List.getElem_cons_zero, List.getElem_cons_succ, Act.put, List.setIfInBounds_toArray, List.set_cons_zero, List.set_cons_succ]
      refine wpAnyH_take (i := 12) (v := .int .u64 r2) rfl (by kernel_rfl) (by kernel_rfl) (by kernel_rfl) (fun _ _ _ h => h) (Or.inl ⟨by simp [Region.wanted], fun W _ => by go_simp⟩) trivial ?_
      simp only [List.getElem_toArray, List.getElem_cons_zero, List.getElem_cons_succ, Act.put, List.setIfInBounds_toArray, List.set_cons_zero, List.set_cons_succ]
      refine wpAnyH_take (i := 14) (v := .pointer (some ⟨g, 2, none⟩)) rfl (by kernel_rfl) (by kernel_rfl) (by kernel_rfl) (fun _ _ _ h => h) (Or.inl ⟨by simp [Region.wanted], fun W _ => by go_simp⟩) trivial ?_
      simp only [List.getElem_toArray, List.getElem_cons_zero, List.getElem_cons_succ, Act.put, List.setIfInBounds_toArray, List.set_cons_zero, List.set_cons_succ]
      refine wpAnyH_ready (rs := [15]) (by kernel_rfl) (by simp) ?_
      refine AllReadyH.cons rfl (fun K hK => ?_) AllReadyH.nil
      refine wanted_go rfl ?_
      simp only [List.getElem_toArray, List.getElem_cons_zero, List.getElem_cons_succ]
      go_wp2
      refine hK.out _ _ trivial (fun _ => ?_)
      refine wpAnyH_take (i := 16) (v := .int .u64 r2) rfl (by kernel_rfl) (by kernel_rfl) (by kernel_rfl) (fun _ _ _ h => h) (Or.inl ⟨by simp [Region.wanted], fun W _ => by go_simp⟩) trivial ?_
      simp only [List.getElem_toArray, List.getElem_cons_zero, List.getElem_cons_succ, Act.put, List.setIfInBounds_toArray, List.set_cons_zero, List.set_cons_succ]
      refine wpAnyH_done (by kernel_rfl) ?_ _
      go_wp2
      go_roundw
      case rel => exact ⟨grown_drewn (grown_cellN HW.out _ _) _, .inr (.inl ⟨by go_num, by go_num, num_set2 (W := wr) HG.out q2⟩)⟩
      case measure => simp [intOf]
    · have HG := Lib.hid hg; have HW := Lib.hid hw
      clear hg hw
      have c0 := (num_cells HG.out).2.1; have f0 := free_of_blkN HG.out 1
      go_upto_region 4 with (fail)
      refine wp_region_held_drew (S := fun _ => True) (by kernel_rfl) trivial (fun _ => ?_)
      refine wpAnyH_take (i := 0) (v := .pointer (some ⟨g, 0, none⟩)) rfl (by kernel_rfl) (by kernel_rfl) (by kernel_rfl) (fun _ _ _ h => h) (Or.inl ⟨by simp [Region.wanted], fun W _ => by go_simp⟩) trivial ?_
      simp only [List.getElem_toArray, List.getElem_cons_zero, Act.put, List.setIfInBounds_toArray, List.set_cons_zero, List.set_cons_succ]
      refine wpAnyH_take (i := 1) (v := .int .i64 1) rfl (by kernel_rfl) (by kernel_rfl) (by kernel_rfl) (fun _ _ _ h => h) (Or.inl ⟨by simp [Region.wanted], fun W _ => by go_simp⟩) trivial ?_
      simp only [List.getElem_toArray, List.getElem_cons_zero, List.getElem_cons_succ, Act.put, List.setIfInBounds_toArray, List.set_cons_zero, List.set_cons_succ]
      refine wpAnyH_take (i := 2) (v := .int .u64 r2) rfl (by kernel_rfl) (by kernel_rfl) (by kernel_rfl) (fun _ _ _ h => h) (Or.inl ⟨by simp [Region.wanted], fun W _ => by go_simp⟩) trivial ?_
      simp only [List.getElem_toArray, List.getElem_cons_zero, List.getElem_cons_succ, Act.put, List.setIfInBounds_toArray, List.set_cons_zero, List.set_cons_succ]
      refine wpAnyH_take (i := 3) (v := .pointer (some ⟨g, 0, none⟩)) rfl (by kernel_rfl) (by kernel_rfl) (by kernel_rfl) (fun _ _ _ h => h) (Or.inl ⟨by simp [Region.wanted], fun W _ => by go_simp⟩) trivial ?_
      simp only [List.getElem_toArray, List.getElem_cons_zero, List.getElem_cons_succ, Act.put, List.setIfInBounds_toArray, List.set_cons_zero, List.set_cons_succ]
      refine wpAnyH_take (i := 4) (v := .int .i64 1) rfl (by kernel_rfl) (by kernel_rfl) (by kernel_rfl) (fun _ _ _ h => h) (Or.inl ⟨by simp [Region.wanted], fun W _ => by go_simp⟩) trivial ?_
      simp only [List.getElem_toArray, List.getElem_cons_zero, List.getElem_cons_succ, Act.put, List.setIfInBounds_toArray, List.set_cons_zero, List.set_cons_succ]
      refine wpAnyH_take (i := 5) (v := .pointer (some ⟨g, 0, none⟩)) rfl (by kernel_rfl) (by kernel_rfl) (by kernel_rfl) (fun _ _ _ h => h) (Or.inl ⟨by simp [Region.wanted], fun W _ => by go_simp⟩) trivial ?_
      simp only [List.getElem_toArray, List.getElem_cons_zero, List.getElem_cons_succ, Act.put, List.setIfInBounds_toArray, List.set_cons_zero, List.set_cons_succ]
      refine wpAnyH_take (i := 6) (v := .pointer (some ⟨g, 1, none⟩)) rfl (by kernel_rfl) (by kernel_rfl) (by kernel_rfl) (fun _ _ _ h => h) (Or.inl ⟨by simp [Region.wanted], fun W _ => by go_simp⟩) trivial ?_
      simp only [List.getElem_toArray, List.getElem_cons_zero, List.getElem_cons_succ, Act.put, List.setIfInBounds_toArray, List.set_cons_zero, List.set_cons_succ]
      refine wpAnyH_take (i := 8) (v := .int .u64 100) rfl (by kernel_rfl) (by kernel_rfl) (by kernel_rfl) (fun _ _ _ h => h) (Or.inl ⟨by simp [Region.wanted], fun W _ => by go_simp⟩) trivial ?_
      simp only [List.getElem_toArray, List.getElem_cons_zero, List.getElem_cons_succ, Act.put, List.setIfInBounds_toArray, List.set_cons_zero, List.set_cons_succ]
      refine wpAnyH_take (i := 13) (v := .pointer (some ⟨g, 0, none⟩)) rfl (by kernel_rfl) (by kernel_rfl) (by kernel_rfl) (fun _ _ _ h => h) (Or.inl ⟨by simp [Region.wanted], fun W _ => by go_simp⟩) trivial ?_
      simp only [List.getElem_toArray, List.getElem_cons_zero, List.getElem_cons_succ, Act.put, List.setIfInBounds_toArray, List.set_cons_zero, List.set_cons_succ]
      refine wpAnyH_ready (rs := [7]) (by kernel_rfl) (by simp) ?_
      refine AllReadyH.cons rfl (fun K hK => ?_) AllReadyH.nil
      refine wanted_go rfl ?_
      simp only [List.getElem_toArray, List.getElem_cons_zero, List.getElem_cons_succ]
      go_wp2
      refine hK.out _ _ trivial (fun _ => ?_)
      refine wpAnyH_ready (rs := [9]) (by kernel_rfl) (by simp) ?_
      refine AllReadyH.cons rfl (fun K hK => ?_) AllReadyH.nil
      refine wanted_go rfl ?_
      simp only [List.getElem_toArray, List.getElem_cons_zero, List.getElem_cons_succ]
      go_wp2_with (go_at_call 87; refine HD1.out _ |>.mono ?_; rintro e w1 ⟨rfl, n1, rfl⟩)
      refine hK.out _ _ trivial (fun _ => ?_)
      refine wpAnyH_take (i := 10) (v := .tuple #[.int .u64 q1, .int .u64 r1]) rfl (by kernel_rfl) (by kernel_rfl) (by kernel_rfl) (fun _ _ _ h => h) (Or.inl ⟨by simp [Region.wanted], fun W _ => by go_simp⟩) trivial ?_
      simp only [List.getElem_toArray, List.getElem_cons_zero, List.getElem_cons_succ, Act.put, List.setIfInBounds_toArray, List.set_cons_zero, List.set_cons_succ]
      refine wpAnyH_take (i := 11) (v := .int .u64 q1) rfl (by kernel_rfl) (by kernel_rfl) (by kernel_rfl) (fun _ _ _ h => h) (Or.inl ⟨by simp [Region.wanted], fun W _ => by go_simp⟩) trivial ?_
      simp only [List.getElem_toArray, List.getElem_cons_zero, List.getElem_cons_succ, Act.put, List.setIfInBounds_toArray, List.set_cons_zero, List.set_cons_succ]
      refine wpAnyH_take (i := 12) (v := .int .u64 r1) rfl (by kernel_rfl) (by kernel_rfl) (by kernel_rfl) (fun _ _ _ h => h) (Or.inl ⟨by simp [Region.wanted], fun W _ => by go_simp⟩) trivial ?_
      simp only [List.getElem_toArray, List.getElem_cons_zero, List.getElem_cons_succ, Act.put, List.setIfInBounds_toArray, List.set_cons_zero, List.set_cons_succ]
      refine wpAnyH_take (i := 14) (v := .pointer (some ⟨g, 1, none⟩)) rfl (by kernel_rfl) (by kernel_rfl) (by kernel_rfl) (fun _ _ _ h => h) (Or.inl ⟨by simp [Region.wanted], fun W _ => by go_simp⟩) trivial ?_
      simp only [List.getElem_toArray, List.getElem_cons_zero, List.getElem_cons_succ, Act.put, List.setIfInBounds_toArray, List.set_cons_zero, List.set_cons_succ]
      refine wpAnyH_ready (rs := [15]) (by kernel_rfl) (by simp) ?_
      refine AllReadyH.cons rfl (fun K hK => ?_) AllReadyH.nil
      refine wanted_go rfl ?_
      simp only [List.getElem_toArray, List.getElem_cons_zero, List.getElem_cons_succ]
      go_wp2
      refine hK.out _ _ trivial (fun _ => ?_)
      refine wpAnyH_take (i := 16) (v := .int .u64 r1) rfl (by kernel_rfl) (by kernel_rfl) (by kernel_rfl) (fun _ _ _ h => h) (Or.inl ⟨by simp [Region.wanted], fun W _ => by go_simp⟩) trivial ?_
      simp only [List.getElem_toArray, List.getElem_cons_zero, List.getElem_cons_succ, Act.put, List.setIfInBounds_toArray, List.set_cons_zero, List.set_cons_succ]
      refine wpAnyH_done (by kernel_rfl) ?_ _
      go_wp2
      go_roundw
      case rel => exact ⟨grown_drewn (grown_cellN HW.out _ _) _, .inr (.inr (.inl ⟨by go_num, by go_num, num_set1 (W := wr) HG.out q1⟩))⟩
      case measure => simp [intOf]
    · have HG := Lib.hid hg; have HW := Lib.hid hw
      clear hg hw
      have c0 := (num_cells HG.out).1; have f0 := free_of_blkN HG.out 0
      go_upto_region 4 with (fail)
      refine wp_region_held_drew (S := fun _ => True) (by kernel_rfl) trivial (fun _ => ?_)
      refine wpAnyH_take (i := 0) (v := .pointer (some ⟨g, 0, none⟩)) rfl (by kernel_rfl) (by kernel_rfl) (by kernel_rfl) (fun _ _ _ h => h) (Or.inl ⟨by simp [Region.wanted], fun W _ => by go_simp⟩) trivial ?_
      simp only [List.getElem_toArray, List.getElem_cons_zero, Act.put, List.setIfInBounds_toArray, List.set_cons_zero, List.set_cons_succ]
      refine wpAnyH_take (i := 1) (v := .int .i64 0) rfl (by kernel_rfl) (by kernel_rfl) (by kernel_rfl) (fun _ _ _ h => h) (Or.inl ⟨by simp [Region.wanted], fun W _ => by go_simp⟩) trivial ?_
      simp only [List.getElem_toArray, List.getElem_cons_zero, List.getElem_cons_succ, Act.put, List.setIfInBounds_toArray, List.set_cons_zero, List.set_cons_succ]
      refine wpAnyH_take (i := 2) (v := .int .u64 r1) rfl (by kernel_rfl) (by kernel_rfl) (by kernel_rfl) (fun _ _ _ h => h) (Or.inl ⟨by simp [Region.wanted], fun W _ => by go_simp⟩) trivial ?_
      simp only [List.getElem_toArray, List.getElem_cons_zero, List.getElem_cons_succ, Act.put, List.setIfInBounds_toArray, List.set_cons_zero, List.set_cons_succ]
      refine wpAnyH_take (i := 3) (v := .pointer (some ⟨g, 0, none⟩)) rfl (by kernel_rfl) (by kernel_rfl) (by kernel_rfl) (fun _ _ _ h => h) (Or.inl ⟨by simp [Region.wanted], fun W _ => by go_simp⟩) trivial ?_
      simp only [List.getElem_toArray, List.getElem_cons_zero, List.getElem_cons_succ, Act.put, List.setIfInBounds_toArray, List.set_cons_zero, List.set_cons_succ]
      refine wpAnyH_take (i := 4) (v := .int .i64 0) rfl (by kernel_rfl) (by kernel_rfl) (by kernel_rfl) (fun _ _ _ h => h) (Or.inl ⟨by simp [Region.wanted], fun W _ => by go_simp⟩) trivial ?_
      simp only [List.getElem_toArray, List.getElem_cons_zero, List.getElem_cons_succ, Act.put, List.setIfInBounds_toArray, List.set_cons_zero, List.set_cons_succ]
      refine wpAnyH_take (i := 5) (v := .pointer (some ⟨g, 0, none⟩)) rfl (by kernel_rfl) (by kernel_rfl) (by kernel_rfl) (fun _ _ _ h => h) (Or.inl ⟨by simp [Region.wanted], fun W _ => by go_simp⟩) trivial ?_
      simp only [List.getElem_toArray, List.getElem_cons_zero, List.getElem_cons_succ, Act.put, List.setIfInBounds_toArray, List.set_cons_zero, List.set_cons_succ]
      refine wpAnyH_take (i := 6) (v := .pointer (some ⟨g, 0, none⟩)) rfl (by kernel_rfl) (by kernel_rfl) (by kernel_rfl) (fun _ _ _ h => h) (Or.inl ⟨by simp [Region.wanted], fun W _ => by go_simp⟩) trivial ?_
      simp only [List.getElem_toArray, List.getElem_cons_zero, List.getElem_cons_succ, Act.put, List.setIfInBounds_toArray, List.set_cons_zero, List.set_cons_succ]
      refine wpAnyH_take (i := 8) (v := .int .u64 100) rfl (by kernel_rfl) (by kernel_rfl) (by kernel_rfl) (fun _ _ _ h => h) (Or.inl ⟨by simp [Region.wanted], fun W _ => by go_simp⟩) trivial ?_
      simp only [List.getElem_toArray, List.getElem_cons_zero, List.getElem_cons_succ, Act.put, List.setIfInBounds_toArray, List.set_cons_zero, List.set_cons_succ]
      refine wpAnyH_take (i := 13) (v := .pointer (some ⟨g, 0, none⟩)) rfl (by kernel_rfl) (by kernel_rfl) (by kernel_rfl) (fun _ _ _ h => h) (Or.inl ⟨by simp [Region.wanted], fun W _ => by go_simp⟩) trivial ?_
      simp only [List.getElem_toArray, List.getElem_cons_zero, List.getElem_cons_succ, Act.put, List.setIfInBounds_toArray, List.set_cons_zero, List.set_cons_succ]
      refine wpAnyH_ready (rs := [7]) (by kernel_rfl) (by simp) ?_
      refine AllReadyH.cons rfl (fun K hK => ?_) AllReadyH.nil
      refine wanted_go rfl ?_
      simp only [List.getElem_toArray, List.getElem_cons_zero, List.getElem_cons_succ]
      go_wp2
      refine hK.out _ _ trivial (fun _ => ?_)
      refine wpAnyH_ready (rs := [9]) (by kernel_rfl) (by simp) ?_
      refine AllReadyH.cons rfl (fun K hK => ?_) AllReadyH.nil
      refine wanted_go rfl ?_
      simp only [List.getElem_toArray, List.getElem_cons_zero, List.getElem_cons_succ]
      go_wp2_with (go_at_call 87; refine HD0.out _ |>.mono ?_; rintro e w1 ⟨rfl, n1, rfl⟩)
      refine hK.out _ _ trivial (fun _ => ?_)
      refine wpAnyH_take (i := 10) (v := .tuple #[.int .u64 q0, .int .u64 r0]) rfl (by kernel_rfl) (by kernel_rfl) (by kernel_rfl) (fun _ _ _ h => h) (Or.inl ⟨by simp [Region.wanted], fun W _ => by go_simp⟩) trivial ?_
      simp only [List.getElem_toArray, List.getElem_cons_zero, List.getElem_cons_succ, Act.put, List.setIfInBounds_toArray, List.set_cons_zero, List.set_cons_succ]
      refine wpAnyH_take (i := 11) (v := .int .u64 q0) rfl (by kernel_rfl) (by kernel_rfl) (by kernel_rfl) (fun _ _ _ h => h) (Or.inl ⟨by simp [Region.wanted], fun W _ => by go_simp⟩) trivial ?_
      simp only [List.getElem_toArray, List.getElem_cons_zero, List.getElem_cons_succ, Act.put, List.setIfInBounds_toArray, List.set_cons_zero, List.set_cons_succ]
      refine wpAnyH_take (i := 12) (v := .int .u64 r0) rfl (by kernel_rfl) (by kernel_rfl) (by kernel_rfl) (fun _ _ _ h => h) (Or.inl ⟨by simp [Region.wanted], fun W _ => by go_simp⟩) trivial ?_
      simp only [List.getElem_toArray, List.getElem_cons_zero, List.getElem_cons_succ, Act.put, List.setIfInBounds_toArray, List.set_cons_zero, List.set_cons_succ]
      refine wpAnyH_take (i := 14) (v := .pointer (some ⟨g, 0, none⟩)) rfl (by kernel_rfl) (by kernel_rfl) (by kernel_rfl) (fun _ _ _ h => h) (Or.inl ⟨by simp [Region.wanted], fun W _ => by go_simp⟩) trivial ?_
      simp only [List.getElem_toArray, List.getElem_cons_zero, List.getElem_cons_succ, Act.put, List.setIfInBounds_toArray, List.set_cons_zero, List.set_cons_succ]
      refine wpAnyH_ready (rs := [15]) (by kernel_rfl) (by simp) ?_
      refine AllReadyH.cons rfl (fun K hK => ?_) AllReadyH.nil
      refine wanted_go rfl ?_
      simp only [List.getElem_toArray, List.getElem_cons_zero, List.getElem_cons_succ]
      go_wp2
      refine hK.out _ _ trivial (fun _ => ?_)
      refine wpAnyH_take (i := 16) (v := .int .u64 r0) rfl (by kernel_rfl) (by kernel_rfl) (by kernel_rfl) (fun _ _ _ h => h) (Or.inl ⟨by simp [Region.wanted], fun W _ => by go_simp⟩) trivial ?_
      simp only [List.getElem_toArray, List.getElem_cons_zero, List.getElem_cons_succ, Act.put, List.setIfInBounds_toArray, List.set_cons_zero, List.set_cons_succ]
      refine wpAnyH_done (by kernel_rfl) ?_ _
      go_wp2
      go_roundw
      case rel => exact ⟨grown_drewn (grown_cellN HW.out _ _) _, .inr (.inr (.inr ⟨by go_num, by go_num, num_set0 (W := wr) HG.out q0⟩))⟩
      case measure => simp [intOf]
    · go_wp2
      go_end0
      exact ⟨rfl, ⟨q0, q1, q2, HN.out, hg⟩, hw⟩
end Go.Proofs.Ytmndkbfjmamnfaa
