/- The walk of DiskKeeps, given a contract for each call of the program on a disk. -/
import Derived.Test.YtcedkilgfoiifaaDkPlays
namespace Go.Proofs.Ytcedkilgfoiifaa
open Go.RowKit Base Base2

/-- Behind i writes at the ends. -/
def endRel (PD : World → Nat → (Nat → Prop) → DkT → Prop) (w : World) (b n : Nat) (files : List FileT) (vi : Value) (W : World) : Prop :=
  ∃ (i : Nat) (F : Nat → Prop) (d : DkT), i ≤ n ∧ vi = .int .i64 (i : Int) ∧ Below w.heap.size w W ∧ PD W b F d ∧ (∀ k, F k → w.heap.size ≤ k) ∧ PlayOk (60 + i) d ∧ EndsD files d ∧ d.pend.length ≤ i
/-- The first i files begin what stands. -/
def preRel (PD : World → Nat → (Nat → Prop) → DkT → Prop) (w : World) (b n : Nat) (F : Nat → Prop) (d : DkT) (vi : Value) (W : World) : Prop :=
  ∃ i : Nat, i ≤ n ∧ vi = .int .i64 (i : Int) ∧ Below w.heap.size w W ∧ PD W b F d

set_option maxRecDepth 100000 in
set_option maxHeartbeats 16000000 in
theorem keeps4 {PD : World → Nat → (Nat → Prop) → DkT → Prop} (C : ProgC PD) (a a2 ak : Option Addr) (c c2 ck : Nat) (files : List FileT) (l : List ActT) (keep : List Int) (w : World)
    (hf : FilesAt w a files) (hfm : files.length ≤ maxLen) (hsz : ∀ f ∈ files, f.1.size ≤ maxLen ∧ f.2.size ≤ maxLen) (hl : ActsAt w.heap.size w a2 l) (_hlm : l.length ≤ maxLen) (hk : NumsAt w ak keep) (hka : keep = [] ∨ AdrP (fun k => k < w.heap.size) ak) (hkz : ∀ z ∈ keep, In64D z) (_hkm : keep.length ≤ maxLen)
    (HAL : Calls Try.prog 6 #[] w fun e w' => e = .returned (.bool true) ∧ Below w.heap.size w w') :
    Calls Try.prog 4 #[.slice a files.length c, .slice a2 l.length c2, .slice ak keep.length ck] w fun e w' => e = .returned (.bool true) ∧ Below w.heap.size w w' := by
  have HA := Lib.hid HAL
  have HFA := Lib.hid hf
  have HG := Lib.hid (fun W hf => great7F a files c W hf hfm hsz)
  have HRM := Lib.hid (fun W hf => rmay10 a files c W hf hfm hsz)
  clear HAL hf
  obtain ⟨gb, hgb⟩ : ∃ z, greatF files = z := ⟨_, rfl⟩
  rw [hgb] at HG
  cases gb with
  | true =>
    clear HRM hgb hl _hlm hfm hk hka hkz _hkm
    go_enter Try.func4, Try.ntmps4
    go_wp2_with (first
      | (go_at_call 6; refine HA.out.mono ?_; rintro e w1 ⟨rfl, hb⟩; have B1 := Lib.hid hb; clear hb)
      | (go_at_call 7; refine (HG.out _ (HFA.out.below B1.out)).mono ?_; rintro e w2 ⟨rfl, m2, rfl⟩; have B2 := Lib.hid (bt2 B1.out (below_drews m2))))
    go_ret
    exact ⟨rfl, B2.out⟩
  | false =>
    obtain ⟨g1, g2⟩ := greatF_no hgb
    obtain ⟨g3, g4⟩ := looks_used files g2
    clear hgb
    by_cases h30 : (30 : Int) < (l.length : Int)
    · clear HRM hl _hlm hfm g1 g2 g3 g4 hk hka hkz _hkm
      go_enter Try.func4, Try.ntmps4
      go_wp2_with (first
        | (go_at_call 6; refine HA.out.mono ?_; rintro e w1 ⟨rfl, hb⟩; have B1 := Lib.hid hb; clear hb)
        | (go_at_call 7; refine (HG.out _ (HFA.out.below B1.out)).mono ?_; rintro e w2 ⟨rfl, m2, rfl⟩; have B2 := Lib.hid (bt2 B1.out (below_drews m2))))
      go_ret
      exact ⟨rfl, B2.out⟩
    by_cases h100 : (100 : Int) < (keep.length : Int)
    · clear HRM hl _hlm hfm g1 g2 g3 g4 hk hka hkz _hkm
      go_enter Try.func4, Try.ntmps4
      go_wp2_with (first
        | (go_at_call 6; refine HA.out.mono ?_; rintro e w1 ⟨rfl, hb⟩; have B1 := Lib.hid hb; clear hb)
        | (go_at_call 7; refine (HG.out _ (HFA.out.below B1.out)).mono ?_; rintro e w2 ⟨rfl, m2, rfl⟩; have B2 := Lib.hid (bt2 B1.out (below_drews m2))))
      go_ret
      exact ⟨rfl, B2.out⟩
    obtain ⟨mb, hmb⟩ : ∃ z, mayF files = z := ⟨_, rfl⟩
    rw [hmb] at HRM
    cases mb with
    | false =>
      have HOF := Lib.hid (fun (W : World) (hf : FilesAt W a files) => C.ofNo a c files 1048576 hf g1 (by omega) ⟨by omega, by omega⟩ hsz (.inr (.inr hmb)))
      clear hl _hlm hfm g1 g2 g3 g4 hmb hk hka hkz _hkm
      go_enter Try.func4, Try.ntmps4
      go_wp2_with (first
        | (go_at_call 6; refine HA.out.mono ?_; rintro e w1 ⟨rfl, hb⟩; have B1 := Lib.hid hb; clear hb)
        | (go_at_call 7; refine (HG.out _ (HFA.out.below B1.out)).mono ?_; rintro e w2 ⟨rfl, m2, rfl⟩; have B2 := Lib.hid (bt2 B1.out (below_drews m2)))
        | (go_at_call 8; refine (HOF.out _ (HFA.out.below B2.out)).mono ?_; rintro e w3 ⟨rfl, hb⟩; have B3 := Lib.hid (bt2 B2.out hb); clear hb)
        | (go_at_call 10; refine (HRM.out _ (HFA.out.below B3.out)).mono ?_; rintro e w4 ⟨rfl, m4, rfl⟩; have B4 := Lib.hid (bt2 B3.out (below_drews m4))))
      go_ret
      exact ⟨rfl, B4.out⟩
    | true =>
      have HOF := Lib.hid (fun (W : World) (hf : FilesAt W a files) => C.of a c files 1048576 hf g1 (by omega) (by omega) (by omega) hmb (by omega))
      have HPL := Lib.hid (play_start (m := 60) hmb (show (usedF files : Int) ≤ 1048576 by omega) (by omega) g1)
      have HEN := Lib.hid (ends_start hmb 1048576)
      have HMB := Lib.hid hmb
      have HLA := Lib.hid hl
      have HKN := Lib.hid hk
      have HG1 := Lib.hid g1
      clear hl _hlm hfm g1 g2 g3 g4 hmb hk _hkm
      go_enter Try.func4, Try.ntmps4
      go_wp2_with (first
        | (go_at_call 6; refine HA.out.mono ?_; rintro e w1 ⟨rfl, hb⟩; have B1 := Lib.hid hb; clear hb)
        | (go_at_call 7; refine (HG.out _ (HFA.out.below B1.out)).mono ?_; rintro e w2 ⟨rfl, m2, rfl⟩; have B2 := Lib.hid (bt2 B1.out (below_drews m2)))
        | (go_at_call 8; refine (HOF.out _ (HFA.out.below B2.out)).mono ?_; rintro e w3 ⟨⟨b, F0, rfl, hpd, hF⟩, hb⟩; have B3 := Lib.hid (bt2 B2.out hb); have HPD := Lib.hid hpd; have HFF := Lib.hid hF; clear hb hpd hF))
      have hFw : ∀ k, F0 k → w.heap.size ≤ k := fun k hk => Nat.le_trans B2.out.size (HFF.out k hk)
      have HST := Lib.hid (show endRel PD w b l.length files (.int .i64 0) w3 from ⟨0, F0, _, by omega, rfl, B3.out, HPD.out, hFw, HPL.out, HEN.out, Nat.le_refl _⟩)
      clear hFw HPD HFF B1 B2 B3 HG HOF HPL HEN
      go_loopw [9] (fun vi W => endRel PD w b l.length files vi W) (fun vi _ => l.length - (intOf vi).toNat)
      case atStart => exact HST.out
      case round =>
        clear HST
        obtain ⟨i, F, d, hi, rfl, hlo, hpd, hfw, hok, hen, hpl0⟩ := hrel
        have HLO := Lib.hid hlo
        have HPD1 := Lib.hid hpd
        have HFW := Lib.hid hfw
        have HOK1 := Lib.hid hok
        have HOK := Lib.hid (hok.le (show 60 + i ≤ 200 by omega))
        have HEN := Lib.hid hen
        clear hpd hfw hok hen
        by_cases hlt : i < l.length
        · obtain ⟨t, ht⟩ : ∃ t, l[i]? = Option.some t := ⟨l[i], by simp [hlt]⟩
          have hq : ∃ ba oa, a2 = Option.some ⟨ba, oa, none⟩ ∧ (∀ W, Below w.heap.size w W → W.cell? ⟨ba, oa + i * 5 + 1, none⟩ = some (.string t.name)) ∧ (∀ W, Below w.heap.size w W → W.cell? ⟨ba, oa + i * 5 + 3, none⟩ = some (.string t.s)) := by
            rcases HLA.out with h | ⟨ba, oa, h1, h2, h3⟩
            · subst h; simp at ht
            · obtain ⟨k1, _⟩ := h3 i t ht
              exact ⟨ba, oa, h1, fun W hW => rangeAt_belowD k1 hW h2 1 _ rfl, fun W hW => rangeAt_belowD k1 hW h2 3 _ rfl⟩
          obtain ⟨ba, oa, rfl, hq1, hq3⟩ := hq
          obtain ⟨kind, name, pl, s, ka, kc, kp⟩ := t
          dsimp only at hq1 hq3
          have Q1 := Lib.hid hq1
          have Q3 := Lib.hid hq3
          have e1 := hq1 wr hlo
          have e3 := hq3 wr hlo
          clear hq1 hq3 ht hlo
          by_cases hs3 : (300 : Int) < (s.size : Int)
          · clear HPD1 HFW HOK HOK1 HEN
            go_wp2
            go_ret
            exact ⟨rfl, HLO.out⟩
          by_cases hn3 : (100 : Int) < (name.size : Int)
          · clear HPD1 HFW HOK HOK1 HEN
            go_wp2
            go_ret
            exact ⟨rfl, HLO.out⟩
          have hrs := maxF_read HOK.out.ms name
          have HE2 := Lib.hid (writesF_ends HEN.out name s)
          have HOKN := Lib.hid (play_write HOK1.out name s ((readF d.stands name).size : Int))
          go_upto_region 13 with (fail)
          refine wp_region_held_drew (S := fun W => Below w.heap.size w W) (by kernel_rfl) (HLO.out.drew) (fun hS => ?_)
          refine wpAnyH_take (i := 0) (v := .pointer (some ⟨b, 0, none⟩)) rfl (by kernel_rfl) (by kernel_rfl) (by kernel_rfl) (fun _ _ _ h => h) (Or.inl ⟨by simp [Region.wanted], fun W _ => by go_simp⟩) hS ?_
          simp only [List.getElem_toArray, List.getElem_cons_zero, Act.put, List.setIfInBounds_toArray, List.set_cons_zero, List.set_cons_succ]
          refine wpAnyH_take (i := 1) (v := .slice (Option.some ⟨ba, oa, none⟩) l.length c2) rfl (by kernel_rfl) (by kernel_rfl) (by kernel_rfl) (fun _ _ _ h => h) (Or.inl ⟨by simp [Region.wanted], fun W _ => by go_simp⟩) hS ?_
          simp only [List.getElem_toArray, List.getElem_cons_zero, List.getElem_cons_succ, Act.put, List.setIfInBounds_toArray, List.set_cons_zero, List.set_cons_succ]
          refine wpAnyH_take (i := 2) (v := .int .i64 (i : Int)) rfl (by kernel_rfl) (by kernel_rfl) (by kernel_rfl) (fun _ _ _ h => h) (Or.inl ⟨by simp [Region.wanted], fun W _ => by go_simp⟩) hS ?_
          simp only [List.getElem_toArray, List.getElem_cons_zero, List.getElem_cons_succ, Act.put, List.setIfInBounds_toArray, List.set_cons_zero, List.set_cons_succ]
          refine wpAnyH_take (i := 3) (v := .pointer (some ⟨ba, oa + i * 5, none⟩)) rfl (by kernel_rfl) (by kernel_rfl) (by kernel_rfl) (fun _ _ _ h => h) (Or.inl ⟨by simp [Region.wanted], fun W _ => by go_simp⟩) hS ?_
          simp only [List.getElem_toArray, List.getElem_cons_zero, List.getElem_cons_succ, Act.put, List.setIfInBounds_toArray, List.set_cons_zero, List.set_cons_succ]
          refine wpAnyH_take (i := 4) (v := .pointer (some ⟨ba, oa + i * 5 + 1, none⟩)) rfl (by kernel_rfl) (by kernel_rfl) (by kernel_rfl) (fun _ _ _ h => h) (Or.inl ⟨by simp [Region.wanted], fun W _ => by go_simp⟩) hS ?_
          simp only [List.getElem_toArray, List.getElem_cons_zero, List.getElem_cons_succ, Act.put, List.setIfInBounds_toArray, List.set_cons_zero, List.set_cons_succ]
          refine wpAnyH_take (i := 5) (v := .string name) rfl (by kernel_rfl) (by kernel_rfl) (by kernel_rfl) (fun _ _ _ h => h) (Or.inl ⟨by simp [Region.wanted], fun W hW => by have hq := Q1.out W hW; go_simp⟩) hS ?_
          simp only [List.getElem_toArray, List.getElem_cons_zero, List.getElem_cons_succ, Act.put, List.setIfInBounds_toArray, List.set_cons_zero, List.set_cons_succ]
          refine wpAnyH_take (i := 6) (v := .pointer (some ⟨b, 0, none⟩)) rfl (by kernel_rfl) (by kernel_rfl) (by kernel_rfl) (fun _ _ _ h => h) (Or.inl ⟨by simp [Region.wanted], fun W _ => by go_simp⟩) hS ?_
          simp only [List.getElem_toArray, List.getElem_cons_zero, List.getElem_cons_succ, Act.put, List.setIfInBounds_toArray, List.set_cons_zero, List.set_cons_succ]
          refine wpAnyH_take (i := 7) (v := .slice (Option.some ⟨ba, oa, none⟩) l.length c2) rfl (by kernel_rfl) (by kernel_rfl) (by kernel_rfl) (fun _ _ _ h => h) (Or.inl ⟨by simp [Region.wanted], fun W _ => by go_simp⟩) hS ?_
          simp only [List.getElem_toArray, List.getElem_cons_zero, List.getElem_cons_succ, Act.put, List.setIfInBounds_toArray, List.set_cons_zero, List.set_cons_succ]
          refine wpAnyH_take (i := 8) (v := .int .i64 (i : Int)) rfl (by kernel_rfl) (by kernel_rfl) (by kernel_rfl) (fun _ _ _ h => h) (Or.inl ⟨by simp [Region.wanted], fun W _ => by go_simp⟩) hS ?_
          simp only [List.getElem_toArray, List.getElem_cons_zero, List.getElem_cons_succ, Act.put, List.setIfInBounds_toArray, List.set_cons_zero, List.set_cons_succ]
          refine wpAnyH_take (i := 9) (v := .pointer (some ⟨ba, oa + i * 5, none⟩)) rfl (by kernel_rfl) (by kernel_rfl) (by kernel_rfl) (fun _ _ _ h => h) (Or.inl ⟨by simp [Region.wanted], fun W _ => by go_simp⟩) hS ?_
          simp only [List.getElem_toArray, List.getElem_cons_zero, List.getElem_cons_succ, Act.put, List.setIfInBounds_toArray, List.set_cons_zero, List.set_cons_succ]
          refine wpAnyH_take (i := 10) (v := .pointer (some ⟨ba, oa + i * 5 + 1, none⟩)) rfl (by kernel_rfl) (by kernel_rfl) (by kernel_rfl) (fun _ _ _ h => h) (Or.inl ⟨by simp [Region.wanted], fun W _ => by go_simp⟩) hS ?_
          simp only [List.getElem_toArray, List.getElem_cons_zero, List.getElem_cons_succ, Act.put, List.setIfInBounds_toArray, List.set_cons_zero, List.set_cons_succ]
          refine wpAnyH_take (i := 11) (v := .string name) rfl (by kernel_rfl) (by kernel_rfl) (by kernel_rfl) (fun _ _ _ h => h) (Or.inl ⟨by simp [Region.wanted], fun W hW => by have hq := Q1.out W hW; go_simp⟩) hS ?_
          simp only [List.getElem_toArray, List.getElem_cons_zero, List.getElem_cons_succ, Act.put, List.setIfInBounds_toArray, List.set_cons_zero, List.set_cons_succ]
          refine wpAnyH_take (i := 14) (v := .slice (Option.some ⟨ba, oa, none⟩) l.length c2) rfl (by kernel_rfl) (by kernel_rfl) (by kernel_rfl) (fun _ _ _ h => h) (Or.inl ⟨by simp [Region.wanted], fun W _ => by go_simp⟩) hS ?_
          simp only [List.getElem_toArray, List.getElem_cons_zero, List.getElem_cons_succ, Act.put, List.setIfInBounds_toArray, List.set_cons_zero, List.set_cons_succ]
          refine wpAnyH_take (i := 15) (v := .int .i64 (i : Int)) rfl (by kernel_rfl) (by kernel_rfl) (by kernel_rfl) (fun _ _ _ h => h) (Or.inl ⟨by simp [Region.wanted], fun W _ => by go_simp⟩) hS ?_
          simp only [List.getElem_toArray, List.getElem_cons_zero, List.getElem_cons_succ, Act.put, List.setIfInBounds_toArray, List.set_cons_zero, List.set_cons_succ]
          refine wpAnyH_take (i := 16) (v := .pointer (some ⟨ba, oa + i * 5, none⟩)) rfl (by kernel_rfl) (by kernel_rfl) (by kernel_rfl) (fun _ _ _ h => h) (Or.inl ⟨by simp [Region.wanted], fun W _ => by go_simp⟩) hS ?_
          simp only [List.getElem_toArray, List.getElem_cons_zero, List.getElem_cons_succ, Act.put, List.setIfInBounds_toArray, List.set_cons_zero, List.set_cons_succ]
          refine wpAnyH_take (i := 17) (v := .pointer (some ⟨ba, oa + i * 5 + 3, none⟩)) rfl (by kernel_rfl) (by kernel_rfl) (by kernel_rfl) (fun _ _ _ h => h) (Or.inl ⟨by simp [Region.wanted], fun W _ => by go_simp⟩) hS ?_
          simp only [List.getElem_toArray, List.getElem_cons_zero, List.getElem_cons_succ, Act.put, List.setIfInBounds_toArray, List.set_cons_zero, List.set_cons_succ]
          refine wpAnyH_take (i := 18) (v := .string s) rfl (by kernel_rfl) (by kernel_rfl) (by kernel_rfl) (fun _ _ _ h => h) (Or.inl ⟨by simp [Region.wanted], fun W hW => by have hq := Q3.out W hW; go_simp⟩) hS ?_
          simp only [List.getElem_toArray, List.getElem_cons_zero, List.getElem_cons_succ, Act.put, List.setIfInBounds_toArray, List.set_cons_zero, List.set_cons_succ]
          refine wpAnyH_ready (rs := [12]) (by kernel_rfl) (by simp) ?_
          refine AllReadyH.cons rfl (fun K1 hK1 => ?_) AllReadyH.nil
          refine wanted_go rfl ?_
          simp only [List.getElem_toArray, List.getElem_cons_zero, List.getElem_cons_succ]
          have HC1 := Lib.hid (C.read name (C.below HPD1.out ((Below.refl _ wr).drew)) HOK.out (by unfold maxLen; omega))
          go_wp2_with (go_at_call 22; refine HC1.out.mono ?_; rintro e w5 ⟨rfl, hb⟩; have HB1 := Lib.hid hb; clear hb)
          refine hK1.out _ _ (hS.trans (HB1.out.mono hS.size)) (fun hS1 => ?_)
          refine wpAnyH_take (i := 13) (v := .int .i64 ((readF d.stands name).size : Int)) rfl (by kernel_rfl) (by kernel_rfl) (by kernel_rfl) (fun _ _ _ h => h) (Or.inl ⟨by simp [Region.wanted], fun W _ => by go_simp⟩) hS1 ?_
          simp only [List.getElem_toArray, List.getElem_cons_zero, List.getElem_cons_succ, Act.put, List.setIfInBounds_toArray, List.set_cons_zero, List.set_cons_succ]
          refine wpAnyH_ready (rs := [19]) (by kernel_rfl) (by simp) ?_
          refine AllReadyH.cons rfl (fun K2 hK2 => ?_) AllReadyH.nil
          refine wanted_go rfl ?_
          simp only [List.getElem_toArray, List.getElem_cons_zero, List.getElem_cons_succ]
          have HC2 := Lib.hid (C.write name s ((readF d.stands name).size : Int) (C.below (C.below HPD1.out ((Below.refl _ wr).drew)) HB1.out) HOK.out (by omega) (by omega) ⟨by omega, by omega⟩)
          go_wp2_with (go_at_call 19; refine HC2.out.mono ?_; rintro e w6 ⟨rfl, F1, hp1, hf1, hg1⟩; have HP2 := Lib.hid hp1; have HLO6 := Lib.hid (hS1.trans (hf1.below HFW.out hS1.size)); have HFW2 := Lib.hid (show ∀ k, F1 k → w.heap.size ≤ k from fun k hk => (hg1 k hk).elim (HFW.out k) (fun h => Nat.le_trans hS1.size h)); clear hp1 hf1 hg1)
          refine hK2.out _ _ (HLO6.out) (fun hS2 => ?_)
          refine wpAnyH_done (by kernel_rfl) ?_ _
          go_wp2
          go_roundw
          case rel => exact ⟨i + 1, F1, _, by omega, by go_num, HLO6.out, HP2.out, HFW2.out, HOKN.out, HE2.out.1, by have := HE2.out.2.2; omega⟩
          case measure => simp [intOf]; omega
        · have HKP := Lib.hid (keep17 ak keep.length ck wr)
          have hkf : keep = [] ∨ AdrP (fun k => ¬ F k) ak := hka.imp id (fun h k hk hf => by have := h k hk; have := HFW.out k hf; omega)
          have HC := Lib.hid (fun (W : World) (hp : PD W b F d) hk hn h1 => C.crash34 wr.heap.size ak ck keep hp HOK.out hk hn h1 hkf (by omega) hkz)
          have hkn : ¬ F wr.heap.size := fun h => by have := C.lt HPD1.out _ h; omega
          have HKF := Lib.hid hkn
          have HNK := Lib.hid (HKN.out.below hlo)
          obtain ⟨hm1, hm2⟩ := crash_ends HEN.out keep (by have := HG1.out; omega) HMB.out
          have hcr : crashF d keep = ⟨(crashF d keep).stands, (crashF d keep).stands, [], d.room⟩ := rfl
          have hokc := play_crash HOK1.out keep
          rw [hcr] at hokc
          have hcc := HC.out
          rw [hcr] at hcc
          have HCC := Lib.hid hcc
          generalize (crashF d keep).stands = R at *
          have HOK2 := Lib.hid (hokc.le (show 60 + i + 1 ≤ 200 by omega))
          have HM2 := Lib.hid hm2
          have HRL := Lib.hid (show R.length ≤ 200 from HOK2.out.ls)
          have HRS := Lib.hid (show ∀ f ∈ R, f.1.size ≤ maxLen ∧ f.2.size ≤ maxLen from fun f hf => by
            have h1 := HOK2.out.ms f hf
            have h2 := (HOK2.out.gs f hf).1
            unfold namedS at h2
            simp only [Bool.and_eq_true, decide_eq_true_eq] at h2
            unfold maxLen; omega)
          have HM1 := Lib.hid hm1
          clear hm1 hm2 hcr hokc hcc HC hkn HEN HOK HOK1 hlo
          go_wp2_with (first
            | (go_at_call 17; refine HKP.out.mono ?_; rintro e w5 ⟨rfl, hk1, hb1⟩; have HK1 := Lib.hid hk1; have L5 := Lib.hid (HLO.out.trans (hb1.mono HLO.out.size)); have P5 := Lib.hid (C.below HPD1.out hb1); have N5 := Lib.hid (HNK.out.below hb1); clear hk1 hb1)
            | (go_at_call 16; refine (HCC.out w5 P5.out HK1.out HKF.out N5.out).mono ?_; rintro e w6 ⟨rfl, F1, hp1, hf1, hg1⟩; have P6 := Lib.hid hp1; have L6 := Lib.hid (L5.out.trans (hf1.below HFW.out L5.out.size)); clear hp1 hf1 hg1 HK1 P5 N5)
            | (go_at_call 24; refine (C.pend P6.out HOK2.out).mono ?_; rintro e w7 ⟨rfl, hb⟩; have P7 := Lib.hid (C.below P6.out hb); have L7 := Lib.hid (L6.out.trans (hb.mono L6.out.size)); clear hb P6 L6)
            | (go_at_call 26; refine (C.files P7.out HOK2.out).mono ?_; rintro e w8 ⟨⟨x4, y4, rfl, hf4⟩, hb⟩; have P8 := Lib.hid (C.below P7.out hb); have L8 := Lib.hid (L7.out.trans (hb.mono L7.out.size)); have F8 := Lib.hid hf4; clear hb P7 L7 hf4)
            | (go_at_call 27; refine (C.kept P8.out HOK2.out).mono ?_; rintro e w9 ⟨⟨x5, y5, rfl, hf5⟩, hb⟩; have P9 := Lib.hid (C.below P8.out hb); have L9 := Lib.hid (L8.out.trans (hb.mono L8.out.size)); have F9 := Lib.hid (F8.out.below hb); have G9 := Lib.hid hf5; clear hb P8 L8 F8 hf5)
            | (go_at_call 25; refine (rsame25 x4 x5 R y4 y5 w9 F9.out G9.out (by have := HRL.out; unfold maxLen; omega)).mono ?_; rintro e w10 ⟨rfl, n10, rfl⟩; have P10 := Lib.hid (C.below P9.out (below_drews n10)); have L10 := Lib.hid (below_drewN' L9.out n10); clear P9 L9 F9 G9)
            | (go_at_call 26; refine (C.files P10.out HOK2.out).mono ?_; rintro e w11 ⟨⟨x6, y6, rfl, hf6⟩, hb⟩; have P11 := Lib.hid (C.below P10.out hb); have L11 := Lib.hid (L10.out.trans (hb.mono L10.out.size)); have F11 := Lib.hid hf6; clear hb P10 L10 hf6)
            | (go_at_call 10; refine (rmay10 x6 R y6 w11 F11.out (by have := HRL.out; unfold maxLen; omega) HRS.out).mono ?_; rintro e w12 ⟨he, n12, rfl⟩; rw [HM1.out] at he; subst he; have P12 := Lib.hid (C.below P11.out (below_drews n12)); have L12 := Lib.hid (below_drewN' L11.out n12); clear P11 L11 F11))
          have HS2 := Lib.hid (show preRel PD w b files.length F1 ⟨R, R, [], d.room⟩ (.int .i64 0) (w11.drewN n12) from ⟨0, by omega, rfl, L12.out, P12.out⟩)
          clear P12 L12 HKP HKF HNK HFW HPD1 HLO
          go_loopw [10] (fun vi W => preRel PD w b files.length F1 ⟨R, R, [], d.room⟩ vi W) (fun vi _ => files.length - (intOf vi).toNat)
          case atStart => exact HS2.out
          case round =>
            clear HS2
            obtain ⟨i, hi, rfl, hlo, hpd⟩ := hrel
            have hg60 := HG1.out
            have HLO := Lib.hid hlo
            have HPD := Lib.hid hpd
            clear hpd
            by_cases hlt : i < files.length
            · obtain ⟨f, hf⟩ : ∃ f, files[i]? = Option.some f := ⟨files[i], by simp [hlt]⟩
              have hq : ∃ b0 o0, a = Option.some ⟨b0, o0, none⟩ ∧ (∀ W, Below w.heap.size w W → W.cell? ⟨b0, o0 + i * 2, none⟩ = some (.string f.1)) ∧ (∀ W, Below w.heap.size w W → W.cell? ⟨b0, o0 + i * 2 + 1, none⟩ = some (.string f.2)) := by
                rcases HFA.out with h | ⟨b0, o0, h1, h2, h3⟩
                · subst h; simp at hf
                · obtain ⟨k1, k2⟩ := h3 i f hf
                  exact ⟨b0, o0, h1, fun W hW => (hW.cell (p := ⟨b0, o0 + i * 2, none⟩) h2).trans k1, fun W hW => (hW.cell (p := ⟨b0, o0 + i * 2 + 1, none⟩) h2).trans k2⟩
              obtain ⟨b0, o0, rfl, hq1, hq2⟩ := hq
              obtain ⟨hz1, hz2⟩ := HM2.out f (List.mem_of_getElem? hf)
              have hns := (hsz f (List.mem_of_getElem? hf)).1
              obtain ⟨FN, FB⟩ := f
              dsimp only at hq1 hq2 hz1 hz2 hns
              have HRD := Lib.hid (C.read FN HPD.out HOK2.out hns)
              dsimp only at HRD
              generalize readF R FN = RS at *
              have HEX := Lib.hid hz2
              have Q2 := Lib.hid hq2
              have e1 := hq1 wr hlo
              clear hq1 hq2 hf hz2 hns hlo
              go_wp2_with (go_at_call 22; refine HRD.out.mono ?_; rintro e w5 ⟨rfl, hb⟩; have L5 := Lib.hid (HLO.out.trans (hb.mono HLO.out.size)); have P5 := Lib.hid (C.below HPD.out hb); clear hb)
              clear e1
              refine wp_region_held_drew (S := fun W => Below w.heap.size w W) (by kernel_rfl) (L5.out.drew) (fun hS => ?_)
              refine wpAnyH_take (i := 0) (v := .string RS) rfl (by kernel_rfl) (by kernel_rfl) (by kernel_rfl) (fun _ _ _ h => h) (Or.inl ⟨by simp [Region.wanted], fun W _ => by go_simp⟩) hS ?_
              simp only [List.getElem_toArray, List.getElem_cons_zero, Act.put, List.setIfInBounds_toArray, List.set_cons_zero, List.set_cons_succ]
              refine wpAnyH_take (i := 1) (v := .int .i64 (RS.size : Int)) rfl (by kernel_rfl) (by kernel_rfl) (by kernel_rfl) (fun _ _ _ h => h) (Or.inl ⟨by simp [Region.wanted], fun W _ => by go_simp⟩) hS ?_
              simp only [List.getElem_toArray, List.getElem_cons_zero, List.getElem_cons_succ, Act.put, List.setIfInBounds_toArray, List.set_cons_zero, List.set_cons_succ]
              refine wpAnyH_take (i := 2) (v := .slice (Option.some ⟨b0, o0, none⟩) files.length c) rfl (by kernel_rfl) (by kernel_rfl) (by kernel_rfl) (fun _ _ _ h => h) (Or.inl ⟨by simp [Region.wanted], fun W _ => by go_simp⟩) hS ?_
              simp only [List.getElem_toArray, List.getElem_cons_zero, List.getElem_cons_succ, Act.put, List.setIfInBounds_toArray, List.set_cons_zero, List.set_cons_succ]
              refine wpAnyH_take (i := 3) (v := .int .i64 (i : Int)) rfl (by kernel_rfl) (by kernel_rfl) (by kernel_rfl) (fun _ _ _ h => h) (Or.inl ⟨by simp [Region.wanted], fun W _ => by go_simp⟩) hS ?_
              simp only [List.getElem_toArray, List.getElem_cons_zero, List.getElem_cons_succ, Act.put, List.setIfInBounds_toArray, List.set_cons_zero, List.set_cons_succ]
              refine wpAnyH_take (i := 4) (v := .pointer (some ⟨b0, o0 + i * 2, none⟩)) rfl (by kernel_rfl) (by kernel_rfl) (by kernel_rfl) (fun _ _ _ h => h) (Or.inl ⟨by simp [Region.wanted], fun W _ => by go_simp⟩) hS ?_
              simp only [List.getElem_toArray, List.getElem_cons_zero, List.getElem_cons_succ, Act.put, List.setIfInBounds_toArray, List.set_cons_zero, List.set_cons_succ]
              refine wpAnyH_take (i := 5) (v := .pointer (some ⟨b0, o0 + i * 2 + 1, none⟩)) rfl (by kernel_rfl) (by kernel_rfl) (by kernel_rfl) (fun _ _ _ h => h) (Or.inl ⟨by simp [Region.wanted], fun W _ => by go_simp⟩) hS ?_
              simp only [List.getElem_toArray, List.getElem_cons_zero, List.getElem_cons_succ, Act.put, List.setIfInBounds_toArray, List.set_cons_zero, List.set_cons_succ]
              refine wpAnyH_take (i := 6) (v := .string FB) rfl (by kernel_rfl) (by kernel_rfl) (by kernel_rfl) (fun _ _ _ h => h) (Or.inl ⟨by simp [Region.wanted], fun W hW => by have hq := Q2.out W hW; go_simp⟩) hS ?_
              simp only [List.getElem_toArray, List.getElem_cons_zero, List.getElem_cons_succ, Act.put, List.setIfInBounds_toArray, List.set_cons_zero, List.set_cons_succ]
              refine wpAnyH_take (i := 7) (v := .int .i64 (FB.size : Int)) rfl (by kernel_rfl) (by kernel_rfl) (by kernel_rfl) (fun _ _ _ h => h) (Or.inl ⟨by simp [Region.wanted], fun W _ => by go_simp⟩) hS ?_
              simp only [List.getElem_toArray, List.getElem_cons_zero, List.getElem_cons_succ, Act.put, List.setIfInBounds_toArray, List.set_cons_zero, List.set_cons_succ]
              refine wpAnyH_take (i := 8) (v := .bool false) rfl (by kernel_rfl) (by kernel_rfl) (by kernel_rfl) (fun _ _ _ h => h) (Or.inl ⟨by simp [Region.wanted], fun W _ => by go_simp; try omega⟩) hS ?_
              simp only [List.getElem_toArray, List.getElem_cons_zero, List.getElem_cons_succ, Act.put, List.setIfInBounds_toArray, List.set_cons_zero, List.set_cons_succ]
              refine wpAnyH_take (i := 9) (v := .bool false) rfl (by kernel_rfl) (by kernel_rfl) (by kernel_rfl) (fun _ _ _ h => h) (Or.inl ⟨by simp [Region.wanted], fun W _ => by go_simp⟩) hS ?_
              simp only [List.getElem_toArray, List.getElem_cons_zero, List.getElem_cons_succ, Act.put, List.setIfInBounds_toArray, List.set_cons_zero, List.set_cons_succ]
              refine wpAnyH_take (i := 10) (v := .string RS) rfl (by kernel_rfl) (by kernel_rfl) (by kernel_rfl) (fun _ _ _ h => h) (Or.inl ⟨by rfl, fun W _ => by go_simp⟩) hS ?_
              simp only [List.getElem_toArray, List.getElem_cons_zero, List.getElem_cons_succ, Act.put, List.setIfInBounds_toArray, List.set_cons_zero, List.set_cons_succ]
              refine wpAnyH_take (i := 11) (v := .slice (Option.some ⟨b0, o0, none⟩) files.length c) rfl (by kernel_rfl) (by kernel_rfl) (by kernel_rfl) (fun _ _ _ h => h) (Or.inl ⟨by rfl, fun W _ => by go_simp⟩) hS ?_
              simp only [List.getElem_toArray, List.getElem_cons_zero, List.getElem_cons_succ, Act.put, List.setIfInBounds_toArray, List.set_cons_zero, List.set_cons_succ]
              refine wpAnyH_take (i := 12) (v := .int .i64 (i : Int)) rfl (by kernel_rfl) (by kernel_rfl) (by kernel_rfl) (fun _ _ _ h => h) (Or.inl ⟨by rfl, fun W _ => by go_simp⟩) hS ?_
              simp only [List.getElem_toArray, List.getElem_cons_zero, List.getElem_cons_succ, Act.put, List.setIfInBounds_toArray, List.set_cons_zero, List.set_cons_succ]
              refine wpAnyH_take (i := 13) (v := .pointer (some ⟨b0, o0 + i * 2, none⟩)) rfl (by kernel_rfl) (by kernel_rfl) (by kernel_rfl) (fun _ _ _ h => h) (Or.inl ⟨by rfl, fun W _ => by go_simp⟩) hS ?_
              simp only [List.getElem_toArray, List.getElem_cons_zero, List.getElem_cons_succ, Act.put, List.setIfInBounds_toArray, List.set_cons_zero, List.set_cons_succ]
              refine wpAnyH_take (i := 14) (v := .pointer (some ⟨b0, o0 + i * 2 + 1, none⟩)) rfl (by kernel_rfl) (by kernel_rfl) (by kernel_rfl) (fun _ _ _ h => h) (Or.inl ⟨by rfl, fun W _ => by go_simp⟩) hS ?_
              simp only [List.getElem_toArray, List.getElem_cons_zero, List.getElem_cons_succ, Act.put, List.setIfInBounds_toArray, List.set_cons_zero, List.set_cons_succ]
              refine wpAnyH_take (i := 15) (v := .string FB) rfl (by kernel_rfl) (by kernel_rfl) (by kernel_rfl) (fun _ _ _ h => h) (.inl ⟨by rfl, fun W hW => by have hq := Q2.out W hW; unfold execOp; go_simp⟩) hS ?_
              simp only [List.getElem_toArray, List.getElem_cons_zero, List.getElem_cons_succ, Act.put, List.setIfInBounds_toArray, List.set_cons_zero, List.set_cons_succ]
              refine wpAnyH_take (i := 16) (v := .int .i64 (FB.size : Int)) rfl (by kernel_rfl) (by kernel_rfl) (by kernel_rfl) (fun _ _ _ h => h) (Or.inl ⟨by rfl, fun W _ => by go_simp⟩) hS ?_
              simp only [List.getElem_toArray, List.getElem_cons_zero, List.getElem_cons_succ, Act.put, List.setIfInBounds_toArray, List.set_cons_zero, List.set_cons_succ]
              refine wpAnyH_take (i := 17) (v := .string (RS.extract 0 FB.size)) rfl (by kernel_rfl) (by kernel_rfl) (by kernel_rfl) (fun _ _ _ h => h) (Or.inl ⟨by rfl, fun W _ => by go_simp; try (intro hx0; omega)⟩) hS ?_
              simp only [List.getElem_toArray, List.getElem_cons_zero, List.getElem_cons_succ, Act.put, List.setIfInBounds_toArray, List.set_cons_zero, List.set_cons_succ]
              refine wpAnyH_take (i := 18) (v := .slice (Option.some ⟨b0, o0, none⟩) files.length c) rfl (by kernel_rfl) (by kernel_rfl) (by kernel_rfl) (fun _ _ _ h => h) (Or.inl ⟨by rfl, fun W _ => by go_simp⟩) hS ?_
              simp only [List.getElem_toArray, List.getElem_cons_zero, List.getElem_cons_succ, Act.put, List.setIfInBounds_toArray, List.set_cons_zero, List.set_cons_succ]
              refine wpAnyH_take (i := 19) (v := .int .i64 (i : Int)) rfl (by kernel_rfl) (by kernel_rfl) (by kernel_rfl) (fun _ _ _ h => h) (Or.inl ⟨by rfl, fun W _ => by go_simp⟩) hS ?_
              simp only [List.getElem_toArray, List.getElem_cons_zero, List.getElem_cons_succ, Act.put, List.setIfInBounds_toArray, List.set_cons_zero, List.set_cons_succ]
              refine wpAnyH_take (i := 20) (v := .pointer (some ⟨b0, o0 + i * 2, none⟩)) rfl (by kernel_rfl) (by kernel_rfl) (by kernel_rfl) (fun _ _ _ h => h) (Or.inl ⟨by rfl, fun W _ => by go_simp⟩) hS ?_
              simp only [List.getElem_toArray, List.getElem_cons_zero, List.getElem_cons_succ, Act.put, List.setIfInBounds_toArray, List.set_cons_zero, List.set_cons_succ]
              refine wpAnyH_take (i := 21) (v := .pointer (some ⟨b0, o0 + i * 2 + 1, none⟩)) rfl (by kernel_rfl) (by kernel_rfl) (by kernel_rfl) (fun _ _ _ h => h) (Or.inl ⟨by rfl, fun W _ => by go_simp⟩) hS ?_
              simp only [List.getElem_toArray, List.getElem_cons_zero, List.getElem_cons_succ, Act.put, List.setIfInBounds_toArray, List.set_cons_zero, List.set_cons_succ]
              refine wpAnyH_take (i := 22) (v := .string FB) rfl (by kernel_rfl) (by kernel_rfl) (by kernel_rfl) (fun _ _ _ h => h) (.inl ⟨by rfl, fun W hW => by have hq := Q2.out W hW; unfold execOp; go_simp⟩) hS ?_
              simp only [List.getElem_toArray, List.getElem_cons_zero, List.getElem_cons_succ, Act.put, List.setIfInBounds_toArray, List.set_cons_zero, List.set_cons_succ]
              refine wpAnyH_take (i := 23) (v := .bool false) rfl (by kernel_rfl) (by kernel_rfl) (by kernel_rfl) (fun _ _ _ h => h) (.inl ⟨by rfl, fun W hW => by unfold execOp; rw [HEX.out]; go_simp⟩) hS ?_
              simp only [List.getElem_toArray, List.getElem_cons_zero, List.getElem_cons_succ, Act.put, List.setIfInBounds_toArray, List.set_cons_zero, List.set_cons_succ]
              refine wpAnyH_take (i := 24) (v := .bool false) rfl (by kernel_rfl) (by kernel_rfl) (by kernel_rfl) (fun _ _ _ h => h) (Or.inl ⟨by simp [Region.wanted], fun W _ => by go_simp⟩) hS ?_
              simp only [List.getElem_toArray, List.getElem_cons_zero, List.getElem_cons_succ, Act.put, List.setIfInBounds_toArray, List.set_cons_zero, List.set_cons_succ]
              refine wpAnyH_done (by kernel_rfl) ?_ _
              go_wp2
              go_roundw
              case rel => exact ⟨i + 1, by omega, by go_num, hS, C.below P5.out ((Below.refl _ w5).drew)⟩
              case measure => simp [intOf]; omega
            · go_wp2
              go_ret
              exact ⟨rfl, HLO.out⟩
end Go.Proofs.Ytcedkilgfoiifaa
