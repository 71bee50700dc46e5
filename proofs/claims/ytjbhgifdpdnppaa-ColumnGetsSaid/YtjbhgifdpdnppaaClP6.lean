/- The program's reader of runs: the iterator. -/
import Derived.Test.YtjbhgifdpdnppaaClP5
namespace Go.Proofs.Ytjbhgifdpdnppaa
open Go.RowKit Go.Shelf Base Base2
attribute [local go_sem] Oper.semAt_some

/-- What a round keeps for this iterator. -/
def KpI (p C bR bL : Nat) (W W' : World) : Prop := W'.heap[p]? = W.heap[p]? ∧ W'.heap[C]? = W.heap[C]? ∧ W'.heap[bR]? = W.heap[bR]? ∧ W'.heap[bL]? = W.heap[bL]?
/-- How the reader stands in the end, and what was there to read. -/
def FinI (p : Nat) (S : ByteArray) (RES : List Int × Nat × Int) (xs : List RunT) (W : World) : Prop :=
  (∃ P : Nat, P ≤ S.size ∧ RdX W p (S.extract P S.size) 0 ∧ RES = (undiff 0 (expand xs), P, 0)) ∨ ∃ (e : Int) (cur : ByteArray), e ≠ 0 ∧ RdX W p cur e ∧ RES = ([], 0, e)
theorem ext_extC (S : ByteArray) (P k : Nat) : (S.extract P S.size).extract k (S.extract P S.size).size = S.extract (P + k) S.size := by
  have e : (S.extract P S.size).size = S.size - P := by simp [ByteArray.size_extract]
  rw [e, ByteArray.extract_extract]
  congr 1
  omega
theorem AfterX_go (s : ByteArray) (k : Nat) : AfterX s 0 (k : Int) 0 = (s.extract k s.size, 0) := by unfold AfterX; rw [if_pos rfl, if_pos rfl, Int.toNat_natCast]
theorem AfterX_bad (s : ByteArray) (k er : Int) (h : er ≠ 0) : AfterX s 0 k er = (s, er) := by unfold AfterX; rw [if_pos rfl, if_neg h]
theorem turn_p {p C : Nat} {A B W : World} (h : Turns (TwoT p C) A B) (hg : B.grownBy W (some p)) : Turns (TwoT p C) A W := h.grown hg (fun _ e => .inl (Option.some.inj e).symm)

/-- What the two reads of a round give, and what it comes to. -/
theorem reads (p C bR bL : Nat) (S : ByteArray) (hs : S.size ≤ 1000000) (P n k : Nat) (pre : List RunT) (hk : 0 < k) (htot : total pre + k = n) :
    ∃ (d : Int) (curI : ByteArray) (eI : Int) (v : Nat) (curN : ByteArray) (eN : Int),
      (∀ W, ItS p C bR bL (S.extract P S.size) 0 k W → Calls Try.prog 36 #[.pointer (some ⟨p, 0, none⟩)] W fun x w' => x = .returned (.int .i64 d) ∧ ItS p C bR bL curI eI k w' ∧ Turns (TwoT p C) W w') ∧
      (∀ W, ItS p C bR bL curI eI k W → Calls Try.prog 24 #[.pointer (some ⟨p, 0, none⟩), .int .u64 (k : Int)] W fun x w' => x = .returned (.int .u64 (v : Int)) ∧ ItS p C bR bL curN eN k w' ∧ Turns (TwoT p C) W w') ∧
      ((eN ≠ 0 ∧ v = 0 ∧ contS S.data.toList n P pre = ([], 0, eN)) ∨
        (eN = 0 ∧ v ≤ k ∧ in64 d ∧ ∃ Q, Q ≤ S.size ∧ curN = S.extract Q S.size ∧ (v = 0 ∨ pre.getLast?.map (·.1) = some d → contS S.data.toList n P pre = ([], 0, 3)) ∧
          (¬ (v = 0 ∨ pre.getLast?.map (·.1) = some d) → contS S.data.toList n P pre = contS S.data.toList n Q (pre ++ [(d, v)])))) := by
  have hsz : (S.extract P S.size).size ≤ 1000000 := by simp [ByteArray.size_extract]; omega
  have hdl : (S.data.toList.drop P).length = S.size - P := by rw [List.length_drop, Lib.size_eq]
  obtain ⟨u, j, e1, hu⟩ : ∃ u j e, M.num (S.data.toList.drop P) = (u, j, e) := ⟨_, _, _, rfl⟩
  have hI := fun W (h : ItS p C bR bL (S.extract P S.size) 0 k W) => int20 p (S.extract P S.size) 0 W hsz h.rd
  simp only [ext_drop, hu, orZ_ok] at hI
  by_cases he1 : e1 = 0
  · subst he1
    have hj := num_of hu
    simp only [AfterX_go, ext_extC] at hI
    obtain ⟨v, i, e2, hv⟩ : ∃ v i e, numM (S.data.toList.drop (P + j)) k = (v, i, e) := ⟨_, _, _, rfl⟩
    have hsz2 : (S.extract (P + j) S.size).size ≤ 1000000 := by simp [ByteArray.size_extract]; omega
    have hN := fun W (h : ItS p C bR bL (S.extract (P + j) S.size) 0 k W) => num19 p (S.extract (P + j) S.size) 0 (k : Int) W hsz2 h.rd
    have hv' : numTo (S.data.toList.drop (P + j)) (fun n => decide ((n : Int) ≤ (k : Int))) = (v, i, e2) := hv
    simp only [ext_drop, hv', orZ_ok] at hN
    have hkk : n - total pre = k := by omega
    refine ⟨M.zag (u : Int), S.extract (P + j) S.size, 0, v, (AfterX (S.extract (P + j) S.size) 0 (i : Int) e2).1, e2, fun W h => (hI W h).mono ?_, fun W h => (hN W h).mono ?_, ?_⟩
    · rintro e w' ⟨rfl, h1, h2⟩
      exact ⟨rfl, h.step h1 h2, turn_p (Turns.refl _ _) h2⟩
    · rintro e w' ⟨rfl, h1, h2⟩
      refine ⟨rfl, h.step ?_ h2, turn_p (Turns.refl _ _) h2⟩
      by_cases he2 : e2 = 0
      · subst he2; rw [AfterX_go] at h1 ⊢; exact h1
      · rw [AfterX_bad _ _ _ he2] at h1 ⊢; exact h1
    · by_cases he2 : e2 = 0
      · subst he2
        have hvb := numM_some hv
        have hi := num_of hvb.1
        rw [List.length_drop, ← Lib.size_eq] at hi
        refine .inr ⟨rfl, hvb.2, M.zag_bd (u : Int) (by omega) (by omega), P + j + i, by omega, by rw [AfterX_go, ext_extC], fun h => contS_form (by omega) hu (by rw [hkk]; exact hv) h, fun h => contS_next (by omega) hu (by rw [hkk]; exact hv) h⟩
      · exact .inl ⟨he2, numM_zero hv he2, contS_e2 (by omega) hu (by rw [hkk]; exact hv) he2⟩
  · simp only [AfterX_bad _ _ _ he1] at hI
    have hN := fun W (h : ItS p C bR bL (S.extract P S.size) e1 k W) => num19 p (S.extract P S.size) e1 (k : Int) W hsz h.rd
    simp only [orZ_no _ _ _ he1, AfterX_stop _ _ _ _ he1] at hN
    refine ⟨M.zag (u : Int), S.extract P S.size, e1, 0, S.extract P S.size, e1, fun W h => (hI W h).mono ?_, fun W h => (hN W h).mono ?_, .inl ⟨he1, rfl, contS_e1 (by omega) hu he1⟩⟩
    · rintro e w' ⟨rfl, h1, h2⟩
      exact ⟨rfl, h.step h1 h2, turn_p (Turns.refl _ _) h2⟩
    · rintro e w' ⟨rfl, h1, h2⟩
      exact ⟨rfl, h.step h1 h2, turn_p (Turns.refl _ _) h2⟩

set_option maxRecDepth 100000 in
set_option maxHeartbeats 8000000 in
theorem run35 (m : Nat) (hm1 : 1 ≤ m) (lo p C bR bL : Nat) (S : ByteArray) (hs : S.size ≤ 1000000) (n j0 : Nat) (hn : n ≤ 65536) (hj0 : j0 ≤ S.size) (RES : List Int × Nat × Int) (hRES : RES = contS S.data.toList n j0 []) (J Jx : List RunT → World → Prop)
    (hJ : Bears (TwoT p C) J)
    (hY : ∀ pre x W, J pre W → TlR n pre x → YieldAt Fence.wide (m - 1) Try.prog lo (encT x) W fun e W' =>
      (e = .returned (.bool true) ∧ J (pre ++ [x]) W' ∧ KpI p C bR bL W W') ∨ (e = .returned (.bool false) ∧ Jx (pre ++ [x]) W'))
    (W : World) (hI : ItS p C bR bL (S.extract j0 S.size) 0 n W) (h0 : J [] W) :
    CallsIn Fence.wide m Try.prog 35 #[.func (.yield lo) #[] #[], .pointer (some ⟨bL, 0, none⟩), .pointer (some ⟨bR, 0, none⟩)] W fun e W' => (∃ v, e = .returned v) ∧
      ((∃ ys, FinI p S RES ys W' ∧ J ys W') ∨ (∃ pre, True ∧ Jx pre W')) := by
  have HY := Lib.hid hY
  have HJ := Lib.hid hJ
  have H0 := Lib.hid h0
  have HI := Lib.hid hI
  have HR := Lib.hid hRES
  have HL0 := Lib.hid (less38 C n 0 W hI.ck (Nat.zero_le _) (by omega))
  have HI1 := Lib.hid (hI.less n)
  have HJ1 := Lib.hid (hJ _ _ _ h0 ((Turns.refl (TwoT p C) W).setCell (p := ⟨C, 0, none⟩) (.inr rfl) (.int .u64 (n : Int))))
  have c1 := hI.bl.cell
  rw [Nat.sub_zero] at HL0
  unfold lessV at c1
  clear hY hJ h0 hI hRES
  refine callsIn_of_wp Try.func35 rfl trivial ?_ rfl
  simp only [Try.ntmps35, List.size_toArray, List.length_cons, List.length_nil, Nat.reduceAdd, Nat.reduceSub, Array.replicate_succ, Array.replicate_zero, List.push_toArray, List.append_toArray, List.nil_append, List.cons_append]
  gi_wp2_with (refine ⟨trivial, ?_⟩; gi_at_call 38; refine (callsIn_wide.2 HL0.out).mono ?_; rintro e w1 ⟨rfl, rfl⟩)
  gi_loopw [4, 5, 6] (fun va vf vl W => ∃ (P : Nat) (pre : List RunT) (k : Nat) (y : Int) (b : Bool), va = .int .i64 y ∧ vf = .bool b ∧ vl = .int .u64 (k : Int) ∧ P ≤ S.size ∧ k ≤ n ∧ total pre + k = n ∧ Canon none pre ∧ RES = contS S.data.toList n P pre ∧ (b = true → pre = []) ∧ (b = false → pre.getLast?.map (·.1) = some y) ∧ ItS p C bR bL (S.extract P S.size) 0 k W ∧ J pre W) (fun _ _ vl _ => (intOf vl).toNat)
  case atStart => exact ⟨j0, [], n, 0, true, rfl, rfl, rfl, hj0, Nat.le_refl _, by simp [total], trivial, HR.out, (fun _ => rfl), (fun h => absurd h (by simp)), HI1.out, HJ1.out⟩
  case round =>
    clear H0 HR HL0 HI1 HJ1 HI c1
    obtain ⟨P, pre, k, y, b, rfl, rfl, rfl, hP, hkn, htot, hcan, hres, hb1, hb2, hit, hj⟩ := hrel
    have c1 := hit.bl.cell
    have c2 := hit.br.cell
    unfold lessV at c1
    have HIT := Lib.hid hit
    have HJ0 := Lib.hid hj
    have HT := Lib.hid htot
    clear hj htot
    by_cases hk0 : k = 0
    · have hz := hres.trans (contS_end (by have := HT.out; omega))
      have HF := Lib.hid (show FinI p S RES pre wr from .inl ⟨P, hP, hit.rd, hz⟩)
      subst hk0
      clear hres hz hb1 hb2 hcan hit HY
      gi_wp2
      go_end0
      exact ⟨⟨_, rfl⟩, .inl ⟨pre, HF.out, HJ0.out⟩⟩
    · have hkpos : 0 < k := by omega
      clear hk0
      obtain ⟨d, curI, eI, v, curN, eN, hri, hrn, hcase⟩ := reads p C bR bL S hs P n k pre hkpos HT.out
      rw [← hres] at hcase
      have HRI := Lib.hid hri
      have HRN := Lib.hid hrn
      have HCA := Lib.hid hcase
      have HITd : Hid (ItS p C bR bL (S.extract P S.size) 0 k wr.drew) := ⟨hit.rd, hit.ck, hit.br, hit.bl⟩
      have HB1 := Lib.hid hb1
      have HB2 := Lib.hid hb2
      have HCAN := Lib.hid hcan
      clear hri hrn hcase hres hit hb1 hb2 hcan HIT
      gi_wp2
      refine wpIn_wide.2 ?_
      refine wp_region_held_drew (S := fun W => W.cell? ⟨bR, 0, none⟩ = some (.pointer (some ⟨p, 0, none⟩))) (by kernel_rfl) (c2) (fun hS => ?_)
      refine wpAnyH_take (i := 0) (v := .pointer (some ⟨p, 0, none⟩)) rfl (by kernel_rfl) (by kernel_rfl) (by kernel_rfl) (fun _ _ _ h => h) (Or.inl ⟨by simp [Region.wanted], fun W hW => by have c := hW; go_simp⟩) hS ?_
      simp only [List.getElem_toArray, List.getElem_cons_zero, Act.put, List.setIfInBounds_toArray, List.set_cons_zero, List.set_cons_succ]
      refine wpAnyH_take (i := 2) (v := .pointer (some ⟨p, 0, none⟩)) rfl (by kernel_rfl) (by kernel_rfl) (by kernel_rfl) (fun _ _ _ h => h) (Or.inl ⟨by simp [Region.wanted], fun W hW => by have c := hW; go_simp⟩) hS ?_
      simp only [List.getElem_toArray, List.getElem_cons_zero, List.getElem_cons_succ, Act.put, List.setIfInBounds_toArray, List.set_cons_zero, List.set_cons_succ]
      refine wpAnyH_take (i := 3) (v := .int .u64 (k : Int)) rfl (by kernel_rfl) (by kernel_rfl) (by kernel_rfl) (fun _ _ _ h => h) (Or.inl ⟨by simp [Region.wanted], fun W _ => by go_simp⟩) hS ?_
      simp only [List.getElem_toArray, List.getElem_cons_zero, List.getElem_cons_succ, Act.put, List.setIfInBounds_toArray, List.set_cons_zero, List.set_cons_succ]
      refine wpAnyH_ready (rs := [1]) (by kernel_rfl) (by simp) ?_
      refine AllReadyH.cons rfl (fun K1 hK1 => ?_) AllReadyH.nil
      refine wanted_go rfl ?_
      simp only [List.getElem_toArray, List.getElem_cons_zero, List.getElem_cons_succ]
      go_wp2_with (go_at_call 36; refine (HRI.out _ HITd.out).mono ?_; rintro e w1 ⟨rfl, hi1, ht1⟩; have HI1 := Lib.hid hi1; have HT1 := Lib.hid ht1; clear hi1 ht1)
      refine hK1.out _ _ (HI1.out.br.cell) (fun hS1 => ?_)
      refine wpAnyH_ready (rs := [4]) (by kernel_rfl) (by simp) ?_
      refine AllReadyH.cons rfl (fun K2 hK2 => ?_) AllReadyH.nil
      refine wanted_go rfl ?_
      simp only [List.getElem_toArray, List.getElem_cons_zero, List.getElem_cons_succ]
      go_wp2_with (go_at_call 24; refine (HRN.out _ HI1.out).mono ?_; rintro e w2 ⟨rfl, hi2, ht2⟩; have HI2 := Lib.hid hi2; have HT2 := Lib.hid (HT1.out.trans ht2); clear hi2 ht2 HT1)
      refine hK2.out _ _ (HI2.out.br.cell) (fun hS2 => ?_)
      refine wpAnyH_take (i := 5) (v := .int .i64 d) rfl (by kernel_rfl) (by kernel_rfl) (by kernel_rfl) (fun _ _ _ h => h) (Or.inl ⟨by simp [Region.wanted], fun W _ => by go_simp⟩) hS2 ?_
      simp only [List.getElem_toArray, List.getElem_cons_zero, List.getElem_cons_succ, Act.put, List.setIfInBounds_toArray, List.set_cons_zero, List.set_cons_succ]
      refine wpAnyH_take (i := 6) (v := .int .u64 (v : Int)) rfl (by kernel_rfl) (by kernel_rfl) (by kernel_rfl) (fun _ _ _ h => h) (Or.inl ⟨by simp [Region.wanted], fun W _ => by go_simp⟩) hS2 ?_
      simp only [List.getElem_toArray, List.getElem_cons_zero, List.getElem_cons_succ, Act.put, List.setIfInBounds_toArray, List.set_cons_zero, List.set_cons_succ]
      refine wpAnyH_done (by kernel_rfl) ?_ _
      have HJ2 := Lib.hid (HJ.out _ _ _ HJ0.out ((Turns.refl _ _).drew.trans HT2.out))
      have c3 := HI2.out.br.cell
      clear HJ0 HRI HRN HITd HI1 HT2 c1 c2
      rcases HCA.out with ⟨he, hv0, hz⟩ | ⟨he, hvk, hd, Q, hQ, hcur, hform, hnext⟩
      · have HF := Lib.hid (fail30 p curN eN 3 w2 HI2.out.rd)
        rw [orZ_no _ _ _ he] at HF
        have HZ := Lib.hid hz
        have g1 : (eN != 0) = true := by simpa using he
        have HE := Lib.hid he
        subst hv0
        clear HCA hz he HY
        gi_wp2_with (first
            | (refine ⟨trivial, ?_⟩; gi_at_call 25; refine (callsIn_wide.2 (fault22 _ _ _ _ HI3.out.rd)).mono ?_; rintro e w4 ⟨rfl, hw4⟩; subst hw4)
            | (refine ⟨trivial, ?_⟩; gi_at_call 37; refine (callsIn_wide.2 HF.out).mono ?_; rintro e w3 ⟨rfl, hr3, hg3⟩; have HI3 := Lib.hid (HI2.out.step hr3 hg3); have c4 := HI3.out.br.cell; have HJ3 := Lib.hid (HJ.out _ _ _ HJ2.out (turn_p (Turns.refl _ _) hg3)); clear hr3 hg3 c3))
        refine ⟨fun _ h => (by cases h), ?_⟩
        gi_wp2
        refine bodyPost_ret (results_none rfl _ _ _) rfl ?_
        exact ⟨⟨_, rfl⟩, .inl ⟨pre, .inr ⟨_, curN, HE.out, HI3.out.rd, HZ.out⟩, HJ3.out⟩⟩
      · subst he
        have HC := Lib.hid hcur
        clear HCA hcur
        by_cases hv0 : v = 0
        · have HF := Lib.hid (fail30 p curN 0 3 w2 HI2.out.rd)
          rw [orZ_ok] at HF
          have HZ := Lib.hid (hform (.inl hv0))
          subst hv0
          clear hform hnext hd HC HY
          gi_wp2_with (first
              | (refine ⟨trivial, ?_⟩; gi_at_call 25; refine (callsIn_wide.2 (fault22 _ _ _ _ HI3.out.rd)).mono ?_; rintro e w4 ⟨rfl, hw4⟩; subst hw4)
              | (refine ⟨trivial, ?_⟩; gi_at_call 37; refine (callsIn_wide.2 HF.out).mono ?_; rintro e w3 ⟨rfl, hr3, hg3⟩; have HI3 := Lib.hid (HI2.out.step hr3 hg3); have c4 := HI3.out.br.cell; have HJ3 := Lib.hid (HJ.out _ _ _ HJ2.out (turn_p (Turns.refl _ _) hg3)); clear hr3 hg3 c3))
          refine ⟨fun _ h => (by cases h), ?_⟩
          gi_wp2
          refine bodyPost_ret (results_none rfl _ _ _) rfl ?_
          exact ⟨⟨_, rfl⟩, .inl ⟨pre, .inr ⟨_, curN, (by decide), HI3.out.rd, HZ.out⟩, HJ3.out⟩⟩
        · have hv1 : 1 ≤ v := by omega
          have gv : ((v : Int) == 0) = false := by rw [beq_eq_false_iff_ne]; omega
          cases b with
          | true =>
            have hp := HB1.out rfl
            have HZ := Lib.hid (hnext (by rw [hp]; simpa using hv0))
            rw [HC.out] at HI2
            clear hform hnext hv0 HC
            have hcan2 : Canon none (pre ++ [(d, v)]) := by rw [hp]; exact ⟨hv1, by simp, trivial⟩
            have htot2 : total (pre ++ [(d, v)]) = total pre + v := by rw [total_app]; rfl
            obtain ⟨fn, tmps, assign, body, hy, hR⟩ := HY.out pre (d, v) w2 HJ2.out ⟨hcan2, by have := HT.out; omega, hd⟩
            dsimp only [encT] at hy
            have HCAN2 := Lib.hid hcan2
            have HTOT := Lib.hid (show total (pre ++ [(d, v)]) + (k - v) = n by have := HT.out; omega)
            clear hp hcan2 htot2 HJ2 HT HCAN HB1 HB2 hd
            gi_wp2_with (refine ⟨trivial, ?_⟩; gi_at_call 25; refine (callsIn_wide.2 (fault22 _ _ _ _ HI2.out.rd)).mono ?_; rintro e w4 ⟨rfl, hw4⟩; subst hw4)
            refine hR.mono ?_
            rintro e W3 (⟨rfl, hJ3, hk1, hk2, hk3, hk4⟩ | ⟨rfl, hJx3⟩)
            · have HI4 := Lib.hid (HI2.out.same hk1 hk2 hk3 hk4)
              have HLS := Lib.hid (less38 C k v W3 HI4.out.ck hvk (by omega))
              have HJ4 := Lib.hid (HJ.out _ _ _ hJ3 ((Turns.refl (TwoT p C) W3).setCell (p := ⟨C, 0, none⟩) (.inr rfl) (.int .u64 ((k - v : Nat) : Int))))
              have HI5 := Lib.hid (HI4.out.less (k - v))
              have c5 := HI4.out.bl.cell
              unfold lessV at c5
              clear hJ3 hk1 hk2 hk3 hk4 hR hy
              gi_wp2_with (refine ⟨trivial, ?_⟩; gi_at_call 38; refine (callsIn_wide.2 HLS.out).mono ?_; rintro e w1 ⟨rfl, rfl⟩)
              go_roundw
              case rel => exact ⟨Q, _, k - v, d, false, rfl, rfl, rfl, hQ, by omega, HTOT.out, HCAN2.out, HZ.out, (fun h => absurd h (by simp)), (fun _ => by rw [List.getLast?_concat]; rfl), HI5.out, HJ4.out⟩
              case measure => simp [intOf]; omega
            · clear hR hy
              gi_wp2
              refine bodyPost_ret (results_none rfl _ _ _) rfl ?_
              exact ⟨⟨_, rfl⟩, .inr ⟨_, trivial, hJx3⟩⟩
          | false =>
            have hl := HB2.out rfl
            by_cases hdy : d = y
            · have gd : (d == y) = true := by rw [beq_iff_eq]; exact hdy
              have HF := Lib.hid (fail30 p curN 0 3 w2 HI2.out.rd)
              rw [orZ_ok] at HF
              have HZ := Lib.hid (hform (.inr (by rw [hl, hdy])))
              clear hform hnext hd HC HY hdy hl hv0 HB1 HB2
              gi_wp2_with (first
                  | (refine ⟨trivial, ?_⟩; gi_at_call 25; refine (callsIn_wide.2 (fault22 _ _ _ _ HI3.out.rd)).mono ?_; rintro e w4 ⟨rfl, hw4⟩; subst hw4)
                  | (refine ⟨trivial, ?_⟩; gi_at_call 37; refine (callsIn_wide.2 HF.out).mono ?_; rintro e w3 ⟨rfl, hr3, hg3⟩; have HI3 := Lib.hid (HI2.out.step hr3 hg3); have c4 := HI3.out.br.cell; have HJ3 := Lib.hid (HJ.out _ _ _ HJ2.out (turn_p (Turns.refl _ _) hg3)); clear hr3 hg3 c3))
              refine ⟨fun _ h => (by cases h), ?_⟩
              gi_wp2
              refine bodyPost_ret (results_none rfl _ _ _) rfl ?_
              exact ⟨⟨_, rfl⟩, .inl ⟨pre, .inr ⟨_, curN, (by decide), HI3.out.rd, HZ.out⟩, HJ3.out⟩⟩
            · have gd : (d == y) = false := by rw [beq_eq_false_iff_ne]; exact hdy
              have HZ := Lib.hid (hnext (by rw [hl]; rintro (h | h); exact hv0 h; exact hdy (Option.some.inj h).symm))
              rw [HC.out] at HI2
              have HLy := Lib.hid hl
              have HDy := Lib.hid hdy
              clear hform hnext hv0 HC hl hdy
              have hcan2 : Canon none (pre ++ [(d, v)]) := canon_snoc hv1 pre none HCAN.out (fun q hq e => HDy.out (by have := HLy.out; rw [hq] at this; rw [← e]; exact Option.some.inj this)) (fun _ => by simp)
              have htot2 : total (pre ++ [(d, v)]) = total pre + v := by rw [total_app]; rfl
              obtain ⟨fn, tmps, assign, body, hy, hR⟩ := HY.out pre (d, v) w2 HJ2.out ⟨hcan2, by have := HT.out; omega, hd⟩
              dsimp only [encT] at hy
              have HCAN2 := Lib.hid hcan2
              have HTOT := Lib.hid (show total (pre ++ [(d, v)]) + (k - v) = n by have := HT.out; omega)
              clear hcan2 htot2 HJ2 HT HCAN HB1 HB2 hd
              gi_wp2_with (refine ⟨trivial, ?_⟩; gi_at_call 25; refine (callsIn_wide.2 (fault22 _ _ _ _ HI2.out.rd)).mono ?_; rintro e w4 ⟨rfl, hw4⟩; subst hw4)
              refine hR.mono ?_
              rintro e W3 (⟨rfl, hJ3, hk1, hk2, hk3, hk4⟩ | ⟨rfl, hJx3⟩)
              · have HI4 := Lib.hid (HI2.out.same hk1 hk2 hk3 hk4)
                have HLS := Lib.hid (less38 C k v W3 HI4.out.ck hvk (by omega))
                have HJ4 := Lib.hid (HJ.out _ _ _ hJ3 ((Turns.refl (TwoT p C) W3).setCell (p := ⟨C, 0, none⟩) (.inr rfl) (.int .u64 ((k - v : Nat) : Int))))
                have HI5 := Lib.hid (HI4.out.less (k - v))
                have c5 := HI4.out.bl.cell
                unfold lessV at c5
                clear hJ3 hk1 hk2 hk3 hk4 hR hy
                gi_wp2_with (refine ⟨trivial, ?_⟩; gi_at_call 38; refine (callsIn_wide.2 HLS.out).mono ?_; rintro e w1 ⟨rfl, rfl⟩)
                go_roundw
                case rel => exact ⟨Q, _, k - v, d, false, rfl, rfl, rfl, hQ, by omega, HTOT.out, HCAN2.out, HZ.out, (fun h => absurd h (by simp)), (fun _ => by rw [List.getLast?_concat]; rfl), HI5.out, HJ4.out⟩
                case measure => simp [intOf]; omega
              · clear hR hy
                gi_wp2
                refine bodyPost_ret (results_none rfl _ _ _) rfl ?_
                exact ⟨⟨_, rfl⟩, .inr ⟨_, trivial, hJx3⟩⟩
end Go.Proofs.Ytjbhgifdpdnppaa
