/- The program's reader of runs, an iterator that turns a reader and what lacks: its parts. The program's reader of runs: the iterator. The program's Get: the numbers of the runs that its iterator reads. The program's Get. -/
import Derived.Test.YtnhljfhpfpfniaaGreatClP2
import Derived.Test.YtnhljfhpfpfniaaGreatMNums
import Derived.Test.YtnhljfhpfpfniaaGreatClP4
import Derived.BigQuiet
namespace Go.Proofs.YtnhljfhpfpfniaaGreat
open Go.RowKit Go.Shelf Base Base2
attribute [local go_sem] Oper.semAt_some

/-- What lacks, as a function value over its cell. -/
def lessV (C : Nat) : Value := .func (.func 149) #[] #[.pointer (some ⟨C, 0, none⟩)]
/-- The iterator's own: a reader, what lacks, and the two boxes through which it knows them. -/
structure ItS (p C bR bL : Nat) (cur : ByteArray) (e : Int) (k : Nat) (W : World) : Prop where
  rd : RdX W p cur e
  ck : Boxed W C 50 (.int .u64 (k : Int))
  br : Boxed W bR 70 (.pointer (some ⟨p, 0, none⟩))
  bl : Boxed W bL 72 (lessV C)
/-- The two blocks that it turns. -/
def TwoT (p C : Nat) : Nat → Prop := fun k => k = p ∨ k = C
theorem blk_ne {W : World} {g b : Nat} {cs ds : Array Value} {s t : TypeId} {x y : Nat × Nat} (h : W.heap[g]? = some (.cells cs s x)) (k : W.heap[b]? = some (.cells ds t y)) (hne : s ≠ t) : b ≠ g := by
  rintro rfl; rw [h] at k; simp at k; exact hne k.2.1
theorem ItS.step {p C bR bL k : Nat} {cur cur' : ByteArray} {e e' : Int} {W W' : World} (h : ItS p C bR bL cur e k W) (hr : RdX W' p cur' e') (hg : W.grownBy W' (some p)) : ItS p C bR bL cur' e' k W' :=
  ⟨hr, h.ck.kept hg (fun e => blk_ne h.rd h.ck (by decide) (Option.some.inj e)), h.br.kept hg (fun e => blk_ne h.rd h.br (by decide) (Option.some.inj e)), h.bl.kept hg (fun e => blk_ne h.rd h.bl (by decide) (Option.some.inj e))⟩
theorem ItS.less {p C bR bL k : Nat} {cur : ByteArray} {e : Int} {W : World} (h : ItS p C bR bL cur e k W) (k' : Nat) : ItS p C bR bL cur e k' (W.setCell ⟨C, 0, none⟩ (.int .u64 (k' : Int))) :=
  have hg := grownBy_setCell' W C (.int .u64 (k' : Int))
  ⟨(hg.block p h.rd.lt (fun e => blk_ne h.ck h.rd (by decide) (Option.some.inj e))).trans h.rd, h.ck.set _, h.br.kept hg (fun e => blk_ne h.ck h.br (by decide) (Option.some.inj e)), h.bl.kept hg (fun e => blk_ne h.ck h.bl (by decide) (Option.some.inj e))⟩
theorem ItS.drewN {p C bR bL k : Nat} {cur : ByteArray} {e : Int} {W : World} (h : ItS p C bR bL cur e k W) (m : Nat) : ItS p C bR bL cur e k (W.drewN m) := ⟨h.rd, h.ck, h.br, h.bl⟩
theorem ItS.same {p C bR bL k : Nat} {cur : ByteArray} {e : Int} {W W' : World} (h : ItS p C bR bL cur e k W) (h1 : W'.heap[p]? = W.heap[p]?) (h2 : W'.heap[C]? = W.heap[C]?) (h3 : W'.heap[bR]? = W.heap[bR]?) (h4 : W'.heap[bL]? = W.heap[bL]?) : ItS p C bR bL cur e k W' := ⟨h1.trans h.rd, h2.trans h.ck, h3.trans h.br, h4.trans h.bl⟩

set_option maxRecDepth 100000 in
theorem less38 (C k t : Nat) (w : World) (h : Boxed w C 50 (.int .u64 (k : Int))) (ht : t ≤ k) (hk : k ≤ 1000000) :
    Calls Tryz.prog 149 #[.int .u64 (t : Int), .pointer (some ⟨C, 0, none⟩)] w fun e w' => e = .returned (.int .u64 ((k - t : Nat) : Int)) ∧ w' = w.setCell ⟨C, 0, none⟩ (.int .u64 ((k - t : Nat) : Int)) := by
  have hc := h.cell
  have hf := h.frozen
  obtain ⟨m, hm⟩ : ∃ m, k - t = m := ⟨_, rfl⟩
  have e1 : (k : Int) - (t : Int) = (m : Int) := by omega
  have e2 : IntKind.u64.wrap (m : Int) = (m : Int) := by rw [IntKind.wrap_u64]; omega
  rw [hm]
  clear hm h
  go_enter Tryz.func149, Tryz.ntmps149
  go_wp2
  go_ret
  exact ⟨rfl, rfl⟩
theorem countdown23 (k : Int) (w : World) : Calls Tryz.prog 136 #[.int .u64 k] w fun e w' => e = .returned (lessV w.heap.size) ∧ w' = w.alloc (.cells #[.int .u64 k] 50) := by
  go_enter Tryz.func136, Tryz.ntmps136
  go_wp2
  go_ret
  exact ⟨rfl, rfl⟩
theorem written22 (a : Option Addr) (C : Nat) (w : World) : Calls Tryz.prog 135 #[.pointer a, lessV C] w fun e w' => e = .returned (.func (.func 147) #[] #[.pointer (some ⟨w.heap.size + 1, 0, none⟩), .pointer (some ⟨w.heap.size, 0, none⟩)]) ∧ w' = (w.alloc (.cells #[.pointer a] 70)).alloc (.cells #[lessV C] 72) := by
  unfold lessV
  go_enter Tryz.func135, Tryz.ntmps135
  go_wp2
  go_ret
  exact ⟨rfl, rfl⟩
end Go.Proofs.YtnhljfhpfpfniaaGreat

namespace Go.Proofs.YtnhljfhpfpfniaaGreat
open Go.RowKit Go.Shelf Base Base2
attribute [local go_sem] Oper.semAt_some

/-- What a round keeps for this iterator. -/
def KpI (p C bR bL : Nat) (W W' : World) : Prop := W'.heap[p]? = W.heap[p]? ∧ W'.heap[C]? = W.heap[C]? ∧ W'.heap[bR]? = W.heap[bR]? ∧ W'.heap[bL]? = W.heap[bL]?
/-- How the reader stands in the end, and what was there to read. -/
def FinI (p : Nat) (S : ByteArray) (RES : List Int × Nat × Int) (xs : List RunT) (W : World) : Prop :=
  (∃ P : Nat, P ≤ S.size ∧ RdX W p (S.extract P S.size) 0 ∧ RES = (undiff 0 (expand xs), P, 0)) ∨ ∃ (e : Int) (cur : ByteArray), e ≠ 0 ∧ RdX W p cur e ∧ RES = ([], 0, e)
theorem ext_extC (S : ByteArray) (P k : Nat) : (S.extract P S.size).extract k (S.extract P S.size).size = S.extract (P + k) S.size := by
  have e : (S.extract P S.size).size = S.size - P := by simp [ByteArray.size_extract]
  rw [e, ByteArray.extract_extract]
  congr 1
  omega
theorem AfterX_go (s : ByteArray) (k : Nat) : AfterX s 0 (k : Int) 0 = (s.extract k s.size, 0) := by unfold AfterX; rw [if_pos rfl, if_pos rfl, Int.toNat_natCast]
theorem AfterX_bad (s : ByteArray) (k er : Int) (h : er ≠ 0) : AfterX s 0 k er = (s, er) := by unfold AfterX; rw [if_pos rfl, if_neg h]
theorem turn_p {p C : Nat} {A B W : World} (h : Turns (TwoT p C) A B) (hg : B.grownBy W (some p)) : Turns (TwoT p C) A W := h.grown hg (fun _ e => .inl (Option.some.inj e).symm)

/-- What the two reads of a round give, and what it comes to. -/
theorem reads (p C bR bL : Nat) (S : ByteArray) (hs : S.size ≤ 1000000) (P n k : Nat) (pre : List RunT) (hk : 0 < k) (htot : total pre + k = n) :
    ∃ (d : Int) (curI : ByteArray) (eI : Int) (v : Nat) (curN : ByteArray) (eN : Int),
      (∀ W, ItS p C bR bL (S.extract P S.size) 0 k W → Calls Tryz.prog 148 #[.pointer (some ⟨p, 0, none⟩)] W fun x w' => x = .returned (.int .i64 d) ∧ ItS p C bR bL curI eI k w' ∧ Turns (TwoT p C) W w') ∧
      (∀ W, ItS p C bR bL curI eI k W → Calls Tryz.prog 23 #[.pointer (some ⟨p, 0, none⟩), .int .u64 (k : Int)] W fun x w' => x = .returned (.int .u64 (v : Int)) ∧ ItS p C bR bL curN eN k w' ∧ Turns (TwoT p C) W w') ∧
      ((eN ≠ 0 ∧ v = 0 ∧ contS S.data.toList n P pre = ([], 0, eN)) ∨
        (eN = 0 ∧ v ≤ k ∧ in64 d ∧ ∃ Q, Q ≤ S.size ∧ curN = S.extract Q S.size ∧ (v = 0 ∨ pre.getLast?.map (·.1) = some d → contS S.data.toList n P pre = ([], 0, 3)) ∧
          (¬ (v = 0 ∨ pre.getLast?.map (·.1) = some d) → contS S.data.toList n P pre = contS S.data.toList n Q (pre ++ [(d, v)])))) := by
  have hsz : (S.extract P S.size).size ≤ 1000000 := by simp [ByteArray.size_extract]; omega
  have hdl : (S.data.toList.drop P).length = S.size - P := by rw [List.length_drop, Lib.size_eq]
  obtain ⟨u, j, e1, hu⟩ : ∃ u j e, M.num (S.data.toList.drop P) = (u, j, e) := ⟨_, _, _, rfl⟩
  have hI := fun W (h : ItS p C bR bL (S.extract P S.size) 0 k W) => int20 p (S.extract P S.size) 0 W hsz h.rd
  simp only [ext_drop, hu, orZ_ok] at hI
  by_cases he1 : e1 = 0
  · subst he1
    have hj := num_of hu
    simp only [AfterX_go, ext_extC] at hI
    obtain ⟨v, i, e2, hv⟩ : ∃ v i e, numM (S.data.toList.drop (P + j)) k = (v, i, e) := ⟨_, _, _, rfl⟩
    have hsz2 : (S.extract (P + j) S.size).size ≤ 1000000 := by simp [ByteArray.size_extract]; omega
    have hN := fun W (h : ItS p C bR bL (S.extract (P + j) S.size) 0 k W) => num19 p (S.extract (P + j) S.size) 0 (k : Int) W hsz2 h.rd
    have hv' : numTo (S.data.toList.drop (P + j)) (fun n => decide ((n : Int) ≤ (k : Int))) = (v, i, e2) := hv
    simp only [ext_drop, hv', orZ_ok] at hN
    have hkk : n - total pre = k := by omega
    refine ⟨M.zag (u : Int), S.extract (P + j) S.size, 0, v, (AfterX (S.extract (P + j) S.size) 0 (i : Int) e2).1, e2, fun W h => (hI W h).mono ?_, fun W h => (hN W h).mono ?_, ?_⟩
    · rintro e w' ⟨rfl, h1, h2⟩
      exact ⟨rfl, h.step h1 h2, turn_p (Turns.refl _ _) h2⟩
    · rintro e w' ⟨rfl, h1, h2⟩
      refine ⟨rfl, h.step ?_ h2, turn_p (Turns.refl _ _) h2⟩
      by_cases he2 : e2 = 0
      · subst he2; rw [AfterX_go] at h1 ⊢; exact h1
      · rw [AfterX_bad _ _ _ he2] at h1 ⊢; exact h1
    · by_cases he2 : e2 = 0
      · subst he2
        have hvb := numM_some hv
        have hi := num_of hvb.1
        rw [List.length_drop, ← Lib.size_eq] at hi
        refine .inr ⟨rfl, hvb.2, M.zag_bd (u : Int) (by omega) (by omega), P + j + i, by omega, by rw [AfterX_go, ext_extC], fun h => contS_form (by omega) hu (by rw [hkk]; exact hv) h, fun h => contS_next (by omega) hu (by rw [hkk]; exact hv) h⟩
      · exact .inl ⟨he2, numM_zero hv he2, contS_e2 (by omega) hu (by rw [hkk]; exact hv) he2⟩
  · simp only [AfterX_bad _ _ _ he1] at hI
    have hN := fun W (h : ItS p C bR bL (S.extract P S.size) e1 k W) => num19 p (S.extract P S.size) e1 (k : Int) W hsz h.rd
    simp only [orZ_no _ _ _ he1, AfterX_stop _ _ _ _ he1] at hN
    refine ⟨M.zag (u : Int), S.extract P S.size, e1, 0, S.extract P S.size, e1, fun W h => (hI W h).mono ?_, fun W h => (hN W h).mono ?_, .inl ⟨he1, rfl, contS_e1 (by omega) hu he1⟩⟩
    · rintro e w' ⟨rfl, h1, h2⟩
      exact ⟨rfl, h.step h1 h2, turn_p (Turns.refl _ _) h2⟩
    · rintro e w' ⟨rfl, h1, h2⟩
      exact ⟨rfl, h.step h1 h2, turn_p (Turns.refl _ _) h2⟩

set_option maxRecDepth 100000 in
set_option maxHeartbeats 8000000 in
theorem run35 (m : Nat) (hm1 : 1 ≤ m) (lo p C bR bL : Nat) (S : ByteArray) (hs : S.size ≤ 1000000) (n j0 : Nat) (hn : n ≤ 65536) (hj0 : j0 ≤ S.size) (RES : List Int × Nat × Int) (hRES : RES = contS S.data.toList n j0 []) (J Jx : List RunT → World → Prop)
    (hJ : Bears (TwoT p C) J)
    (hY : ∀ pre x W, J pre W → TlR n pre x → YieldAt Fence.wide (m - 1) Tryz.prog lo (encT x) W fun e W' =>
      (e = .returned (.bool true) ∧ J (pre ++ [x]) W' ∧ KpI p C bR bL W W') ∨ (e = .returned (.bool false) ∧ Jx (pre ++ [x]) W'))
    (W : World) (hI : ItS p C bR bL (S.extract j0 S.size) 0 n W) (h0 : J [] W) :
    CallsIn Fence.wide m Tryz.prog 147 #[.func (.yield lo) #[] #[], .pointer (some ⟨bL, 0, none⟩), .pointer (some ⟨bR, 0, none⟩)] W fun e W' => (∃ v, e = .returned v) ∧
      ((∃ ys, FinI p S RES ys W' ∧ J ys W') ∨ (∃ pre, True ∧ Jx pre W')) := by
  have HY := Lib.hid hY
  have HJ := Lib.hid hJ
  have H0 := Lib.hid h0
  have HI := Lib.hid hI
  have HR := Lib.hid hRES
  have HL0 := Lib.hid (less38 C n 0 W hI.ck (Nat.zero_le _) (by omega))
  have HI1 := Lib.hid (hI.less n)
  have HJ1 := Lib.hid (hJ _ _ _ h0 ((Turns.refl (TwoT p C) W).setCell (p := ⟨C, 0, none⟩) (.inr rfl) (.int .u64 (n : Int))))
  have c1 := hI.bl.cell
  rw [Nat.sub_zero] at HL0
  unfold lessV at c1
  clear hY hJ h0 hI hRES
  refine callsIn_of_wp Tryz.func147 rfl trivial ?_ rfl
  simp only [Tryz.ntmps147, List.size_toArray, List.length_cons, List.length_nil, Nat.reduceAdd, Nat.reduceSub, Array.replicate_succ, Array.replicate_zero, List.push_toArray, List.append_toArray, List.nil_append, List.cons_append]
  gi_wp2_with (refine ⟨trivial, ?_⟩; gi_at_call 149; refine (callsIn_wide.2 HL0.out).mono ?_; rintro e w1 ⟨rfl, rfl⟩)
  gi_loopw [4, 5, 6] (fun va vf vl W => ∃ (P : Nat) (pre : List RunT) (k : Nat) (y : Int) (b : Bool), va = .int .i64 y ∧ vf = .bool b ∧ vl = .int .u64 (k : Int) ∧ P ≤ S.size ∧ k ≤ n ∧ total pre + k = n ∧ Canon none pre ∧ RES = contS S.data.toList n P pre ∧ (b = true → pre = []) ∧ (b = false → pre.getLast?.map (·.1) = some y) ∧ ItS p C bR bL (S.extract P S.size) 0 k W ∧ J pre W) (fun _ _ vl _ => (intOf vl).toNat)
  case atStart => exact ⟨j0, [], n, 0, true, rfl, rfl, rfl, hj0, Nat.le_refl _, by simp [total], trivial, HR.out, (fun _ => rfl), (fun h => absurd h (by simp)), HI1.out, HJ1.out⟩
  case round =>
    clear H0 HR HL0 HI1 HJ1 HI c1
    obtain ⟨P, pre, k, y, b, rfl, rfl, rfl, hP, hkn, htot, hcan, hres, hb1, hb2, hit, hj⟩ := hrel
    have c1 := hit.bl.cell
    have c2 := hit.br.cell
    unfold lessV at c1
    have HIT := Lib.hid hit
    have HJ0 := Lib.hid hj
    have HT := Lib.hid htot
    clear hj htot
    by_cases hk0 : k = 0
    · have hz := hres.trans (contS_end (by have := HT.out; omega))
      have HF := Lib.hid (show FinI p S RES pre wr from .inl ⟨P, hP, hit.rd, hz⟩)
      subst hk0
      clear hres hz hb1 hb2 hcan hit HY
      gi_wp2
      go_end0
      exact ⟨⟨_, rfl⟩, .inl ⟨pre, HF.out, HJ0.out⟩⟩
    · have hkpos : 0 < k := by omega
      clear hk0
      obtain ⟨d, curI, eI, v, curN, eN, hri, hrn, hcase⟩ := reads p C bR bL S hs P n k pre hkpos HT.out
      rw [← hres] at hcase
      have HRI := Lib.hid hri
      have HRN := Lib.hid hrn
      have HCA := Lib.hid hcase
      have HITd : Hid (ItS p C bR bL (S.extract P S.size) 0 k wr.drew) := ⟨hit.rd, hit.ck, hit.br, hit.bl⟩
      have HB1 := Lib.hid hb1
      have HB2 := Lib.hid hb2
      have HCAN := Lib.hid hcan
      clear hri hrn hcase hres hit hb1 hb2 hcan HIT
      gi_wp2
      refine wpIn_wide.2 ?_
      refine wp_region_held_drew (S := fun W => W.cell? ⟨bR, 0, none⟩ = some (.pointer (some ⟨p, 0, none⟩))) (by kernel_rfl) (c2) (fun hS => ?_)
      refine wpAnyH_take (i := 0) (v := .pointer (some ⟨p, 0, none⟩)) rfl (by kernel_rfl) (by kernel_rfl) (by kernel_rfl) (fun _ _ _ h => h) (Or.inl ⟨by simp [Region.wanted], fun W hW => by have c := hW; go_simp⟩) hS ?_
      simp only [List.getElem_toArray, List.getElem_cons_zero, Act.put, List.setIfInBounds_toArray, List.set_cons_zero, List.set_cons_succ]
      refine wpAnyH_take (i := 2) (v := .pointer (some ⟨p, 0, none⟩)) rfl (by kernel_rfl) (by kernel_rfl) (by kernel_rfl) (fun _ _ _ h => h) (Or.inl ⟨by simp [Region.wanted], fun W hW => by have c := hW; go_simp⟩) hS ?_
      simp only [List.getElem_toArray, List.getElem_cons_zero, List.getElem_cons_succ, Act.put, List.setIfInBounds_toArray, List.set_cons_zero, List.set_cons_succ]
      refine wpAnyH_take (i := 3) (v := .int .u64 (k : Int)) rfl (by kernel_rfl) (by kernel_rfl) (by kernel_rfl) (fun _ _ _ h => h) (Or.inl ⟨by simp [Region.wanted], fun W _ => by go_simp⟩) hS ?_
      simp only [List.getElem_toArray, List.getElem_cons_zero, List.getElem_cons_succ, Act.put, List.setIfInBounds_toArray, List.set_cons_zero, List.set_cons_succ]
      refine wpAnyH_ready (rs := [1]) (by kernel_rfl) (by simp) ?_
      refine AllReadyH.cons rfl (fun K1 hK1 => ?_) AllReadyH.nil
      refine wanted_go rfl ?_
      simp only [List.getElem_toArray, List.getElem_cons_zero, List.getElem_cons_succ]
      go_wp2_with (go_at_call 148; refine (HRI.out _ HITd.out).mono ?_; rintro e w1 ⟨rfl, hi1, ht1⟩; have HI1 := Lib.hid hi1; have HT1 := Lib.hid ht1; clear hi1 ht1)
      refine hK1.out _ _ (HI1.out.br.cell) (fun hS1 => ?_)
      refine wpAnyH_ready (rs := [4]) (by kernel_rfl) (by simp) ?_
      refine AllReadyH.cons rfl (fun K2 hK2 => ?_) AllReadyH.nil
      refine wanted_go rfl ?_
      simp only [List.getElem_toArray, List.getElem_cons_zero, List.getElem_cons_succ]
      go_wp2_with (go_at_call 23; refine (HRN.out _ HI1.out).mono ?_; rintro e w2 ⟨rfl, hi2, ht2⟩; have HI2 := Lib.hid hi2; have HT2 := Lib.hid (HT1.out.trans ht2); clear hi2 ht2 HT1)
      refine hK2.out _ _ (HI2.out.br.cell) (fun hS2 => ?_)
      refine wpAnyH_take (i := 5) (v := .int .i64 d) rfl (by kernel_rfl) (by kernel_rfl) (by kernel_rfl) (fun _ _ _ h => h) (Or.inl ⟨by simp [Region.wanted], fun W _ => by go_simp⟩) hS2 ?_
      simp only [List.getElem_toArray, List.getElem_cons_zero, List.getElem_cons_succ, Act.put, List.setIfInBounds_toArray, List.set_cons_zero, List.set_cons_succ]
      refine wpAnyH_take (i := 6) (v := .int .u64 (v : Int)) rfl (by kernel_rfl) (by kernel_rfl) (by kernel_rfl) (fun _ _ _ h => h) (Or.inl ⟨by simp [Region.wanted], fun W _ => by go_simp⟩) hS2 ?_
      simp only [List.getElem_toArray, List.getElem_cons_zero, List.getElem_cons_succ, Act.put, List.setIfInBounds_toArray, List.set_cons_zero, List.set_cons_succ]
      refine wpAnyH_done (by kernel_rfl) ?_ _
      have HJ2 := Lib.hid (HJ.out _ _ _ HJ0.out ((Turns.refl _ _).drew.trans HT2.out))
      have c3 := HI2.out.br.cell
      clear HJ0 HRI HRN HITd HI1 HT2 c1 c2
      rcases HCA.out with ⟨he, hv0, hz⟩ | ⟨he, hvk, hd, Q, hQ, hcur, hform, hnext⟩
      · have HF := Lib.hid (fail30 p curN eN 3 w2 HI2.out.rd)
        rw [orZ_no _ _ _ he] at HF
        have HZ := Lib.hid hz
        have g1 : (eN != 0) = true := by simpa using he
        have HE := Lib.hid he
        subst hv0
        clear HCA hz he HY
        gi_wp2_with (first
            | (refine ⟨trivial, ?_⟩; gi_at_call 27; refine (callsIn_wide.2 (fault22 _ _ _ _ HI3.out.rd)).mono ?_; rintro e w4 ⟨rfl, hw4⟩; subst hw4)
            | (refine ⟨trivial, ?_⟩; gi_at_call 26; refine (callsIn_wide.2 HF.out).mono ?_; rintro e w3 ⟨rfl, hr3, hg3⟩; have HI3 := Lib.hid (HI2.out.step hr3 hg3); have c4 := HI3.out.br.cell; have HJ3 := Lib.hid (HJ.out _ _ _ HJ2.out (turn_p (Turns.refl _ _) hg3)); clear hr3 hg3 c3))
        refine ⟨fun _ h => (by cases h), ?_⟩
        gi_wp2
        refine bodyPost_ret (results_none rfl _ _ _) rfl ?_
        exact ⟨⟨_, rfl⟩, .inl ⟨pre, .inr ⟨_, curN, HE.out, HI3.out.rd, HZ.out⟩, HJ3.out⟩⟩
      · subst he
        have HC := Lib.hid hcur
        clear HCA hcur
        by_cases hv0 : v = 0
        · have HF := Lib.hid (fail30 p curN 0 3 w2 HI2.out.rd)
          rw [orZ_ok] at HF
          have HZ := Lib.hid (hform (.inl hv0))
          subst hv0
          clear hform hnext hd HC HY
          gi_wp2_with (first
              | (refine ⟨trivial, ?_⟩; gi_at_call 27; refine (callsIn_wide.2 (fault22 _ _ _ _ HI3.out.rd)).mono ?_; rintro e w4 ⟨rfl, hw4⟩; subst hw4)
              | (refine ⟨trivial, ?_⟩; gi_at_call 26; refine (callsIn_wide.2 HF.out).mono ?_; rintro e w3 ⟨rfl, hr3, hg3⟩; have HI3 := Lib.hid (HI2.out.step hr3 hg3); have c4 := HI3.out.br.cell; have HJ3 := Lib.hid (HJ.out _ _ _ HJ2.out (turn_p (Turns.refl _ _) hg3)); clear hr3 hg3 c3))
          refine ⟨fun _ h => (by cases h), ?_⟩
          gi_wp2
          refine bodyPost_ret (results_none rfl _ _ _) rfl ?_
          exact ⟨⟨_, rfl⟩, .inl ⟨pre, .inr ⟨_, curN, (by decide), HI3.out.rd, HZ.out⟩, HJ3.out⟩⟩
        · have hv1 : 1 ≤ v := by omega
          have gv : ((v : Int) == 0) = false := by rw [beq_eq_false_iff_ne]; omega
          cases b with
          | true =>
            have hp := HB1.out rfl
            have HZ := Lib.hid (hnext (by rw [hp]; simpa using hv0))
            rw [HC.out] at HI2
            clear hform hnext hv0 HC
            have hcan2 : Canon none (pre ++ [(d, v)]) := by rw [hp]; exact ⟨hv1, by simp, trivial⟩
            have htot2 : total (pre ++ [(d, v)]) = total pre + v := by rw [total_app]; rfl
            obtain ⟨fn, tmps, assign, body, hy, hR⟩ := HY.out pre (d, v) w2 HJ2.out ⟨hcan2, by have := HT.out; omega, hd⟩
            dsimp only [encT] at hy
            have HCAN2 := Lib.hid hcan2
            have HTOT := Lib.hid (show total (pre ++ [(d, v)]) + (k - v) = n by have := HT.out; omega)
            clear hp hcan2 htot2 HJ2 HT HCAN HB1 HB2 hd
            gi_wp2_with (refine ⟨trivial, ?_⟩; gi_at_call 27; refine (callsIn_wide.2 (fault22 _ _ _ _ HI2.out.rd)).mono ?_; rintro e w4 ⟨rfl, hw4⟩; subst hw4)
            refine hR.mono ?_
            rintro e W3 (⟨rfl, hJ3, hk1, hk2, hk3, hk4⟩ | ⟨rfl, hJx3⟩)
            · have HI4 := Lib.hid (HI2.out.same hk1 hk2 hk3 hk4)
              have HLS := Lib.hid (less38 C k v W3 HI4.out.ck hvk (by omega))
              have HJ4 := Lib.hid (HJ.out _ _ _ hJ3 ((Turns.refl (TwoT p C) W3).setCell (p := ⟨C, 0, none⟩) (.inr rfl) (.int .u64 ((k - v : Nat) : Int))))
              have HI5 := Lib.hid (HI4.out.less (k - v))
              have c5 := HI4.out.bl.cell
              unfold lessV at c5
              clear hJ3 hk1 hk2 hk3 hk4 hR hy
              gi_wp2_with (refine ⟨trivial, ?_⟩; gi_at_call 149; refine (callsIn_wide.2 HLS.out).mono ?_; rintro e w1 ⟨rfl, rfl⟩)
              go_roundw
              case rel => exact ⟨Q, _, k - v, d, false, rfl, rfl, rfl, hQ, by omega, HTOT.out, HCAN2.out, HZ.out, (fun h => absurd h (by simp)), (fun _ => by rw [List.getLast?_concat]; rfl), HI5.out, HJ4.out⟩
              case measure => simp [intOf]; omega
            · clear hR hy
              gi_wp2
              refine bodyPost_ret (results_none rfl _ _ _) rfl ?_
              exact ⟨⟨_, rfl⟩, .inr ⟨_, trivial, hJx3⟩⟩
          | false =>
            have hl := HB2.out rfl
            by_cases hdy : d = y
            · have gd : (d == y) = true := by rw [beq_iff_eq]; exact hdy
              have HF := Lib.hid (fail30 p curN 0 3 w2 HI2.out.rd)
              rw [orZ_ok] at HF
              have HZ := Lib.hid (hform (.inr (by rw [hl, hdy])))
              clear hform hnext hd HC HY hdy hl hv0 HB1 HB2
              gi_wp2_with (first
                  | (refine ⟨trivial, ?_⟩; gi_at_call 27; refine (callsIn_wide.2 (fault22 _ _ _ _ HI3.out.rd)).mono ?_; rintro e w4 ⟨rfl, hw4⟩; subst hw4)
                  | (refine ⟨trivial, ?_⟩; gi_at_call 26; refine (callsIn_wide.2 HF.out).mono ?_; rintro e w3 ⟨rfl, hr3, hg3⟩; have HI3 := Lib.hid (HI2.out.step hr3 hg3); have c4 := HI3.out.br.cell; have HJ3 := Lib.hid (HJ.out _ _ _ HJ2.out (turn_p (Turns.refl _ _) hg3)); clear hr3 hg3 c3))
              refine ⟨fun _ h => (by cases h), ?_⟩
              gi_wp2
              refine bodyPost_ret (results_none rfl _ _ _) rfl ?_
              exact ⟨⟨_, rfl⟩, .inl ⟨pre, .inr ⟨_, curN, (by decide), HI3.out.rd, HZ.out⟩, HJ3.out⟩⟩
            · have gd : (d == y) = false := by rw [beq_eq_false_iff_ne]; exact hdy
              have HZ := Lib.hid (hnext (by rw [hl]; rintro (h | h); exact hv0 h; exact hdy (Option.some.inj h).symm))
              rw [HC.out] at HI2
              have HLy := Lib.hid hl
              have HDy := Lib.hid hdy
              clear hform hnext hv0 HC hl hdy
              have hcan2 : Canon none (pre ++ [(d, v)]) := canon_snoc hv1 pre none HCAN.out (fun q hq e => HDy.out (by have := HLy.out; rw [hq] at this; rw [← e]; exact Option.some.inj this)) (fun _ => by simp)
              have htot2 : total (pre ++ [(d, v)]) = total pre + v := by rw [total_app]; rfl
              obtain ⟨fn, tmps, assign, body, hy, hR⟩ := HY.out pre (d, v) w2 HJ2.out ⟨hcan2, by have := HT.out; omega, hd⟩
              dsimp only [encT] at hy
              have HCAN2 := Lib.hid hcan2
              have HTOT := Lib.hid (show total (pre ++ [(d, v)]) + (k - v) = n by have := HT.out; omega)
              clear hcan2 htot2 HJ2 HT HCAN HB1 HB2 hd
              gi_wp2_with (refine ⟨trivial, ?_⟩; gi_at_call 27; refine (callsIn_wide.2 (fault22 _ _ _ _ HI2.out.rd)).mono ?_; rintro e w4 ⟨rfl, hw4⟩; subst hw4)
              refine hR.mono ?_
              rintro e W3 (⟨rfl, hJ3, hk1, hk2, hk3, hk4⟩ | ⟨rfl, hJx3⟩)
              · have HI4 := Lib.hid (HI2.out.same hk1 hk2 hk3 hk4)
                have HLS := Lib.hid (less38 C k v W3 HI4.out.ck hvk (by omega))
                have HJ4 := Lib.hid (HJ.out _ _ _ hJ3 ((Turns.refl (TwoT p C) W3).setCell (p := ⟨C, 0, none⟩) (.inr rfl) (.int .u64 ((k - v : Nat) : Int))))
                have HI5 := Lib.hid (HI4.out.less (k - v))
                have c5 := HI4.out.bl.cell
                unfold lessV at c5
                clear hJ3 hk1 hk2 hk3 hk4 hR hy
                gi_wp2_with (refine ⟨trivial, ?_⟩; gi_at_call 149; refine (callsIn_wide.2 HLS.out).mono ?_; rintro e w1 ⟨rfl, rfl⟩)
                go_roundw
                case rel => exact ⟨Q, _, k - v, d, false, rfl, rfl, rfl, hQ, by omega, HTOT.out, HCAN2.out, HZ.out, (fun h => absurd h (by simp)), (fun _ => by rw [List.getLast?_concat]; rfl), HI5.out, HJ4.out⟩
                case measure => simp [intOf]; omega
              · clear hR hy
                gi_wp2
                refine bodyPost_ret (results_none rfl _ _ _) rfl ?_
                exact ⟨⟨_, rfl⟩, .inr ⟨_, trivial, hJx3⟩⟩
end Go.Proofs.YtnhljfhpfpfniaaGreat

namespace Go.Proofs.YtnhljfhpfpfniaaGreat
open Go.RowKit Go.Shelf Base Base2
attribute [local go_sem] Oper.semAt_some

/-- Where how many can't be told nothing is read. -/
theorem run35_no (m : Nat) (hm1 : 1 ≤ m) (lo p C bR bL : Nat) (S cur : ByteArray) (e : Int) (he : e ≠ 0) (RES : List Int × Nat × Int) (hRES : RES = ([], 0, e)) (J Jx : List RunT → World → Prop)
    (hJ : Bears (TwoT p C) J) (W : World) (hI : ItS p C bR bL cur e 0 W) (h0 : J [] W) :
    CallsIn Fence.wide m Tryz.prog 147 #[.func (.yield lo) #[] #[], .pointer (some ⟨bL, 0, none⟩), .pointer (some ⟨bR, 0, none⟩)] W fun e W' => (∃ v, e = .returned v) ∧
      ((∃ ys, FinI p S RES ys W' ∧ J ys W') ∨ (∃ pre, True ∧ Jx pre W')) := by
  have HL0 := Lib.hid (less38 C 0 0 W hI.ck (Nat.zero_le _) (by omega))
  have HJ1 := Lib.hid (hJ _ _ _ h0 ((Turns.refl (TwoT p C) W).setCell (p := ⟨C, 0, none⟩) (.inr rfl) (.int .u64 ((0 : Nat) : Int))))
  have HF1 := Lib.hid (show FinI p S RES [] (W.setCell ⟨C, 0, none⟩ (.int .u64 ((0 : Nat) : Int))) from .inr ⟨e, cur, he, (hI.less 0).rd, hRES⟩)
  have c1 := hI.bl.cell
  rw [Nat.sub_zero] at HL0
  unfold lessV at c1
  rw [show ((0 : Nat) : Int) = 0 from rfl] at HL0 HJ1 HF1
  clear hJ h0 hI hRES he
  refine callsIn_of_wp Tryz.func147 rfl trivial ?_ rfl
  simp only [Tryz.ntmps147, List.size_toArray, List.length_cons, List.length_nil, Nat.reduceAdd, Nat.reduceSub, Array.replicate_succ, Array.replicate_zero, List.push_toArray, List.append_toArray, List.nil_append, List.cons_append]
  gi_wp2_with (refine ⟨trivial, ?_⟩; gi_at_call 149; refine (callsIn_wide.2 HL0.out).mono ?_; rintro e w1 ⟨rfl, rfl⟩)
  gi_loopw [6] (fun vl W' => vl = .int .u64 0 ∧ W' = W.setCell ⟨C, 0, none⟩ (.int .u64 0)) (fun _ _ => 0)
  case atStart => exact ⟨rfl, rfl⟩
  case round =>
    obtain ⟨rfl, hw⟩ := hrel
    subst hw
    gi_wp2
    go_end0
    exact ⟨⟨_, rfl⟩, .inl ⟨[], HF1.out, HJ1.out⟩⟩

/-- The iterator, whatever was told of how many. -/
theorem written_seq (m : Nat) (hm1 : 1 ≤ m) (p C bR bL : Nat) (S cur : ByteArray) (e : Int) (hs : S.size ≤ 1000000) (n : Nat) (hn : n ≤ 65536) (RES : List Int × Nat × Int) (hRES : (e = 0 ∧ ∃ j0, j0 ≤ S.size ∧ cur = S.extract j0 S.size ∧ RES = contS S.data.toList n j0 []) ∨ (e ≠ 0 ∧ n = 0 ∧ RES = ([], 0, e)))
    (w0 : World) (hI : ItS p C bR bL cur e n w0) :
    SeqT Fence.wide m Tryz.prog 147 #[.pointer (some ⟨bL, 0, none⟩), .pointer (some ⟨bR, 0, none⟩)] encT (TwoT p C) (KpI p C bR bL) (TlR n) (FinI p S RES) (fun _ _ => True) w0 := fun lo J Jx W hW hJ _ hY h0 => by
  have hI2 : ItS p C bR bL cur e n W := hI.same (hW.block p hI.rd.lt) (hW.block C hI.ck.lt) (hW.block bR hI.br.lt) (hW.block bL hI.bl.lt)
  rcases hRES with ⟨rfl, j0, hj0, rfl, hr⟩ | ⟨he, rfl, hr⟩
  · exact run35 m hm1 lo p C bR bL S hs n j0 hn hj0 RES hr J Jx hJ hY W hI2 h0
  · exact run35_no m hm1 lo p C bR bL S cur e he RES hr J Jx hJ W hI2 h0
theorem kpI_t {p C bR bL : Nat} {A B D : World} (h : KpI p C bR bL A B) (k : KpI p C bR bL B D) : KpI p C bR bL A D := ⟨k.1.trans h.1, k.2.1.trans h.2.1, k.2.2.1.trans h.2.2.1, k.2.2.2.trans h.2.2.2⟩
theorem kpI_b {p C bR bL s : Nat} (h1 : p < s) (h2 : C < s) (h3 : bR < s) (h4 : bL < s) (W : World) (l : Nat) (o : Obj) (hl : s < l) : KpI p C bR bL W (W.putObj l o) :=
  ⟨World.putObj_heap_other (by omega), World.putObj_heap_other (by omega), World.putObj_heap_other (by omega), World.putObj_heap_other (by omega)⟩
theorem finI_own (p : Nat) (S : ByteArray) (RES : List Int × Nat × Int) (B : Nat) : OwnFrom B (FinI p S RES) := by
  rintro xs X Y row (⟨P, h1, h2, h3⟩ | ⟨e, cur, h1, h2, h3⟩) hg hr
  · exact .inl ⟨P, h1, (grownBy_keeps_cells hg (fun r e => (hr r e).2) h2 rfl).trans h2, h3⟩
  · exact .inr ⟨e, cur, h1, (grownBy_keeps_cells hg (fun r e => (hr r e).2) h2 rfl).trans h2, h3⟩

/-- Two boxes and what lies from B on may turn, if it is cells; all else lies as it lay. -/
structure KeepL (B bl bn : Nat) (W W' : World) : Prop where
  size : W.heap.size ≤ W'.heap.size
  low : ∀ k, k < B → k ≠ bl → k ≠ bn → W'.heap[k]? = W.heap[k]?
  oth : ∀ (k : Nat) (o : Obj), W.heap[k]? = some o → o.isCells = false → W'.heap[k]? = some o
theorem KeepL.refl (B bl bn : Nat) (W : World) : KeepL B bl bn W W := ⟨Nat.le_refl _, fun _ _ _ _ => rfl, fun _ _ h _ => h⟩
theorem KeepL.trans {B bl bn : Nat} {A D E : World} (h : KeepL B bl bn A D) (k : KeepL B bl bn D E) : KeepL B bl bn A E := ⟨Nat.le_trans h.size k.size, fun i h1 h2 h3 => (k.low i h1 h2 h3).trans (h.low i h1 h2 h3), fun i o h1 h2 => k.oth i o (h.oth i o h1 h2) h2⟩
theorem KeepL.grown {B bl bn : Nat} {W W' : World} {row : Option Nat} (hB : B ≤ W.heap.size) (h : W.grownBy W' row) (hr : ∀ j, row = some j → (∃ o, W.heap[j]? = some o ∧ o.isCells = true) ∧ (j = bl ∨ j = bn ∨ B ≤ j)) : KeepL B bl bn W W' :=
  ⟨h.size, fun k h1 h2 h3 => h.block k (by omega) (fun e => by have := (hr k e.symm).2; omega), fun k o h1 h2 => (h.block k (lt_of_blk h1) (fun e => by obtain ⟨o', h3, h4⟩ := (hr k e.symm).1; rw [h1] at h3; cases h3; rw [h2] at h4; cases h4)).trans h1⟩
theorem KeepL.from {B bl bn : Nat} {W W' : World} (h : KeepL B bl bn W W') (D : Nat) : KeepsFrom D W W' := ⟨h.size, fun k o _ h1 h2 => h.oth k o h1 h2⟩
/-- The numbers so far: the box of their row, the row, the last number's box. -/
structure GetI (w : World) (B bl bn : Nat) (L : List Int) (v : Value) (x : Int) (W : World) : Prop where
  box : Boxed W bl 59 v
  row : W.ownsRow B 2 1 v L.length (L.map (Value.int .i64))
  num : Boxed W bn 2 (.int .i64 x)
  lo : Below w.heap.size w W
  sz : B ≤ W.heap.size
theorem GetI.step {w : World} {B bl bn : Nat} {L : List Int} {v : Value} {x : Int} {W : World} (h : GetI w B bl bn L v x W) (hn : bn < B) (hw : w.heap.size ≤ bn) (z : Int) : GetI w B bl bn L v z (W.setCell ⟨bn, 0, none⟩ (.int .i64 z)) ∧ KeepL B bl bn W (W.setCell ⟨bn, 0, none⟩ (.int .i64 z)) :=
  have hg := grownBy_setCell' W bn (.int .i64 z)
  ⟨⟨h.box.kept hg (fun e => blk_ne h.num h.box (by decide) (Option.some.inj e)), ownsRow_setCell_below h.row (a := ⟨bn, 0, none⟩) hn _, h.num.set _, h.lo.setCell (p := ⟨bn, 0, none⟩) hw _, Nat.le_trans h.sz hg.size⟩,
    KeepL.grown h.sz hg (fun j e => by cases e; exact ⟨⟨_, h.num, rfl⟩, .inr (.inl rfl)⟩)⟩
theorem GetI.app {w : World} {B bl bn : Nat} {L : List Int} {v v' : Value} {x : Int} {W W2 : World} {cs : Array Value} {t : TypeId} (h : GetI w B bl bn L v x W) (hn : bn < B) (hw : w.heap.size ≤ bl) (hwB : w.heap.size ≤ B)
    (hr : W2.ownsRow B 2 1 v' (L.length + 1) (L.map (Value.int .i64) ++ [.int .i64 x])) (hg : (W.alloc (.cells cs t)).grownBy W2 v.ownBlock) :
    Boxed W2 bl 59 v ∧ GetI w B bl bn (L ++ [x]) v' x (W2.setCell ⟨bl, 0, none⟩ v') ∧ KeepL B bl bn W (W2.setCell ⟨bl, 0, none⟩ v') := by
  have hne : some bn ≠ v.ownBlock := by
    rcases h.row.2 with ⟨rfl, _⟩ | ⟨g, cap, cur, rfl, hb, _⟩
    · simp [Value.ownBlock]
    · intro e; simp [Value.ownBlock] at e; omega
  have b2 : Boxed W2 bl 59 v := (h.box.alloc _).kept hg (h.box.not_row (by decide) h.row)
  have n2 : Boxed W2 bn 2 (.int .i64 x) := (h.num.alloc _).kept hg hne
  have hg2 := grownBy_setCell' W2 bl v'
  have hs2 : W.heap.size ≤ W2.heap.size := (World_grown_alloc hg).size
  have hB := h.sz
  have l2 : Below w.heap.size w W2 := by
    refine h.lo.grown (World_grown_alloc hg) h.lo.size (fun k e => ?_)
    have := own_block_ge h.row k e
    omega
  refine ⟨b2, ⟨b2.set v', ?_, n2.kept hg2 (fun e => blk_ne b2 n2 (by decide) (Option.some.inj e)), l2.setCell (p := ⟨bl, 0, none⟩) hw _, Nat.le_trans (Nat.le_trans hB hs2) hg2.size⟩, ?_⟩
  · rw [List.length_append, List.length_singleton, List.map_append]
    exact hr.kept hg2 (.inr (Ne.symm (b2.not_row (by decide) hr)))
  · refine ((KeepL.grown hB (World_grown_alloc hg) fun j e => ?_)).trans (KeepL.grown (by omega) hg2 (fun j e => by cases e; exact ⟨⟨_, b2, rfl⟩, .inl rfl⟩))
    refine ⟨?_, .inr (.inr (own_block_ge h.row j e))⟩
    rcases h.row.2 with ⟨rfl, _⟩ | ⟨g, cap, cur, rfl, _, hgb, _⟩
    · simp [Value.ownBlock] at e
    · obtain rfl : g = j := by simpa [Value.ownBlock] using e
      exact ⟨_, hgb, rfl⟩
theorem GetI.turn {w : World} {B bl bn : Nat} {L : List Int} {v : Value} {x : Int} {W W' : World} {T : Nat → Prop} (h : GetI w B bl bn L v x W) (ht : Turns T W W') (h1 : ¬ T bl) (h2 : ¬ T bn) (h3 : ∀ k, T k → k < B) (h4 : ∀ k, T k → w.heap.size ≤ k) : GetI w B bl bn L v x W' := by
  refine ⟨ht.at h.box h1, ?_, ht.at h.num h2, ?_, Nat.le_trans h.sz ht.size⟩
  · obtain ⟨e, h0⟩ := h.row
    refine ⟨e, ?_⟩
    rcases h0 with h0 | ⟨g, cap, cur, rfl, a1, a2, a3⟩
    · exact .inl h0
    · exact .inr ⟨g, cap, cur, rfl, a1, ht.at a2 (fun a => by have := h3 g a; omega), a3⟩
  · exact ⟨ht.os.trans h.lo.os, ht.tape.trans h.lo.tape, ht.output.trans h.lo.output, Nat.le_trans h.lo.size ht.size, fun k hk => (ht.block k (Nat.lt_of_lt_of_le hk h.lo.size) (fun a => by have := h4 k a; omega)).trans (h.lo.block k hk)⟩
theorem getI_own (w : World) (B bl bn S : Nat) (f : List RunT → List Int) (hS : w.heap.size ≤ S) : OwnFrom S (fun pre W => ∃ v, GetI w B bl bn (f pre) v ((f pre).getLastD 0) W) := by
  rintro pre X Y row ⟨v, h⟩ hg hr
  have hr' : ∀ r, row = some r → ∃ o : Obj, X.heap[r]? = some o ∧ o.isCells = false := fun r e => (hr r e).2
  exact ⟨v, (grownBy_keeps_cells hg hr' h.box rfl).trans h.box, own_kept h.row hg hr', (grownBy_keeps_cells hg hr' h.num rfl).trans h.num, h.lo.grown hg h.lo.size (fun k e => Nat.le_trans hS (hr k e).1), Nat.le_trans h.sz hg.size⟩
end Go.Proofs.YtnhljfhpfpfniaaGreat

namespace Go.Proofs.YtnhljfhpfpfniaaGreat
open Go.RowKit Go.Shelf Base Base2
attribute [local go_sem] Oper.semAt_some

/-- A row that lies in a block that wasn't there. -/
def FreshA (w : World) (a : Option Addr) : Prop := ∀ (b off : Nat), a = some ⟨b, off, none⟩ → w.heap.size ≤ b
theorem FreshA.none (w : World) : FreshA w none := fun _ _ h => by cases h
/-- What Get answers, of numbers. -/
def GetA (w : World) (R : List Int × Nat × Int) (e : Ending) (w' : World) : Prop := (∃ a c, e = .returned (.tuple #[.slice a R.1.length c, .int .i64 (R.2.1 : Int), .int .i64 R.2.2]) ∧ I64s w' a R.1 ∧ FreshA w a) ∧ Below w.heap.size w w'

set_option maxRecDepth 100000 in
theorem get11_arg (s : ByteArray) (most : Int) (w : World) (h : most < 0 ∨ 65536 < most) : Calls Tryz.prog 71 #[.string s, .int .i64 most] w fun e w' => GetA w ([], 0, 1) e w' := by
  have HG := Lib.hid (show ∀ W, Below w.heap.size w W → GetA w ([], 0, 1) (.returned (.tuple #[.slice none 0 0, .int .i64 0, .int .i64 1])) W from fun W hb => ⟨⟨none, 0, rfl, .inl rfl, FreshA.none _⟩, hb⟩)
  obtain ⟨POST, hP⟩ : ∃ P, (fun e w' => GetA w ([], 0, 1) e w') = P := ⟨_, rfl⟩
  rw [hP]
  rcases h with h | h
  · go_enter Tryz.func71, Tryz.ntmps71
    go_wp2
    go_ret3
    subst hP
    exact HG.out _ (Below.refl _ _)
  · have h0 : ¬ most < 0 := by omega
    go_enter Tryz.func71, Tryz.ntmps71
    go_wp2
    go_ret3
    subst hP
    exact HG.out _ (Below.refl _ _)

set_option maxRecDepth 100000 in
set_option maxHeartbeats 8000000 in
theorem get11 (S : ByteArray) (mt : Nat) (w : World) (hs : S.size ≤ 1000000) (hm : mt ≤ 65536) :
    Calls Tryz.prog 71 #[.string S, .int .i64 (mt : Int)] w fun e w' => GetA w (getS S.data.toList mt) e w' := by
  refine (callsIn_wide (n := 10)).1 ?_
  obtain ⟨i0, hi0, hz0, hz1, hz2⟩ := info_parts info2C
  obtain ⟨n, j0, er, hn⟩ : ∃ n j e, numM S.data.toList mt = (n, j, e) := ⟨_, _, _, rfl⟩
  have hn' : numTo S.data.toList (fun n => decide ((n : Int) ≤ (mt : Int))) = (n, j0, er) := hn
  obtain ⟨RES, hRES⟩ : ∃ R, getS S.data.toList mt = R := ⟨_, rfl⟩
  have hN := fun p W (h : RdX W p S 0) => num19 p S 0 (mt : Int) W hs h
  simp only [hn', orZ_ok] at hN
  have hle := numTo_le S (fun n => decide ((n : Int) ≤ (mt : Int)))
  rw [hn'] at hle
  have hnb : n ≤ 65536 := by
    by_cases he : er = 0
    · subst he; have := (numM_some hn).2; omega
    · rw [numM_zero hn he]; omega
  obtain ⟨cur, hcur⟩ : ∃ c, (AfterX S 0 (j0 : Int) er).1 = c := ⟨_, rfl⟩
  have hcase : (er = 0 ∧ ∃ j0, j0 ≤ S.size ∧ cur = S.extract j0 S.size ∧ RES = contS S.data.toList n j0 []) ∨ (er ≠ 0 ∧ n = 0 ∧ RES = ([], 0, er)) := by
    by_cases he : er = 0
    · subst he
      refine .inl ⟨rfl, j0, hle, by rw [← hcur, AfterX_go], by rw [← hRES, getS_cont hn]⟩
    · refine .inr ⟨he, numM_zero hn he, ?_⟩
      rw [← hRES]
      unfold getS
      rw [if_pos (by rw [hn]; exact he), hn]
  have her : (AfterX S 0 (j0 : Int) er).2 = er := by
    by_cases he : er = 0
    · subst he; rw [AfterX_go]
    · rw [AfterX_bad _ _ _ he]
  rw [hcur, her] at hN
  have HSQ := Lib.hid (fun p C bR bL w0 hI => written_seq 9 (by omega) p C bR bL S cur er hs n hnb RES hcase w0 hI)
  have HN := Lib.hid hN
  have HRD := Lib.hid (fun W => read18 S W)
  rw [hRES]
  clear hn hn' hN hle hcase her hcur hRES
  have hmn : ¬ (mt : Int) < 0 := by omega
  have hmm : ¬ (65536 : Int) < (mt : Int) := by omega
  refine callsIn_of_wp_marks Tryz.func71 rfl trivial ?_ rfl
  simp only [Tryz.ntmps71, List.size_toArray, List.length_cons, List.length_nil, Nat.reduceAdd, Nat.reduceSub, Array.replicate_succ, Array.replicate_zero, List.push_toArray, List.append_toArray, List.nil_append, List.cons_append]
  gi_wp2_with (first
    | (refine ⟨trivial, ?_⟩; gi_at_call 22; refine (callsIn_wide.2 (HRD.out _)).mono ?_; rintro e w1 ⟨rfl, hr1, hb1⟩; have HR1 := Lib.hid hr1; have HB1 := Lib.hid hb1; clear hr1 hb1)
    | (refine ⟨trivial, ?_⟩; gi_at_call 23; refine (callsIn_wide.2 (HN.out _ _ (HR1.out.below ((Below.refl w1.heap.size _).alloc (Nat.le_refl _) (.cells #[.slice none 0 0] 59) |>.alloc (by simp) (.cells #[.int .i64 0] 2)) HR1.out.lt))).mono ?_; rintro e w2 ⟨rfl, hr2, hg2⟩; have HR2 := Lib.hid hr2; have HG2 := Lib.hid hg2; clear hr2 hg2)
    | (refine ⟨trivial, ?_⟩; gi_at_call 136; refine (callsIn_wide.2 (countdown23 (n : Int) _)).mono ?_; rintro e w3 ⟨rfl, rfl⟩)
    | (refine ⟨trivial, ?_⟩; gi_at_call 135; refine (callsIn_wide.2 (written22 _ _ _)).mono ?_; rintro e w4 ⟨rfl, rfl⟩))
  have hp1 := HR1.out.lt
  have hs1 := HB1.out.size
  have hs2 : w1.heap.size + 2 ≤ w2.heap.size := by simpa using HG2.out.size
  have bL1 : Boxed w2 w1.heap.size 59 (.slice none 0 0) := ((Boxed.new w1 _ _).alloc _).kept HG2.out (by intro e; have := Option.some.inj e; omega)
  have bN1 : Boxed w2 (w1.heap.size + 1) 2 (.int .i64 0) := by
    have h := Boxed.new (w1.alloc (.cells #[.slice none 0 0] 59)) 2 (.int .i64 0)
    rw [World.size_alloc] at h
    exact h.kept HG2.out (by intro e; have := Option.some.inj e; omega)
  have lo2 : Below w.heap.size w w2 := ((HB1.out.alloc hs1 _).alloc (by simp; omega) _).grown HG2.out (by simp; omega) (fun k e => by cases e; exact Nat.le_refl _)
  have bC := Boxed.new w2 50 (.int .u64 (n : Int))
  have bR := Boxed.new (w2.alloc (.cells #[.int .u64 (n : Int)] 50)) 70 (.pointer (some ⟨w.heap.size, 0, none⟩))
  have bF := Boxed.new ((w2.alloc (.cells #[.int .u64 (n : Int)] 50)).alloc (.cells #[.pointer (some ⟨w.heap.size, 0, none⟩)] 70)) 72 (lessV w2.heap.size)
  rw [World.size_alloc, World.size_alloc] at bF
  rw [World.size_alloc] at bR
  have hit : ItS w.heap.size w2.heap.size (w2.heap.size + 1) (w2.heap.size + 1 + 1) cur er n _ := ⟨((HR2.out.grown (grown_alloc _ _ none) (by simp)).grown (grown_alloc _ _ none) (by simp)).grown (grown_alloc _ _ none) (by simp), (bC.alloc _).alloc _, bR.alloc _, bF⟩
  have hgi : GetI w (w2.heap.size + 1 + 1 + 1) w1.heap.size (w1.heap.size + 1) [] (.slice none 0 0) 0 _ := ⟨((bL1.alloc (.cells #[.int .u64 (n : Int)] 50)).alloc (.cells #[.pointer (some ⟨w.heap.size, 0, none⟩)] 70)).alloc (.cells #[lessV w2.heap.size] 72), World.ownsRow_nil _ _ _ _, ((bN1.alloc _).alloc _).alloc _, ((lo2.alloc (by omega) _).alloc (by simp; omega) _).alloc (by simp; omega) _, by simp⟩
  have hsq := HSQ.out _ _ _ _ _ hit
  clear HSQ HN HRD HR1 HB1 HR2 HG2 bL1 bN1 lo2 bC bR bF hit
  refine range_turns rfl (by omega) (gf := 147) (lb := #[.pointer (some ⟨w2.heap.size + 1 + 1, 0, none⟩), .pointer (some ⟨w2.heap.size + 1, 0, none⟩)]) rfl trivial (enters_of Tryz.func147 (by kernel_rfl) rfl)
    hsq (by rintro k (rfl | rfl) <;> (simp; omega)) kpI_t (kpI_b (by simp only [World.size_alloc]; omega) (by simp only [World.size_alloc]; omega) (by simp only [World.size_alloc]; omega) (by simp only [World.size_alloc]; omega)) (Below.refl _ _) (fun _ => rfl) (finI_own _ _ _ _) (fun _ _ _ _ h _ _ => h)
    (fun pre W => ∃ v, GetI w (w2.heap.size + 1 + 1 + 1) w1.heap.size (w1.heap.size + 1) (undiff 0 (expand pre)) v ((undiff 0 (expand pre)).getLastD 0) W)
    (fun _ _ _ => False)
    (getI_own w _ _ _ _ (fun pre => undiff 0 (expand pre)) (by simp; omega))
    (fun _ _ _ _ _ h _ _ => h)
    (fun s A B ⟨v, h⟩ ht => ⟨v, h.turn ht (by rintro (a | a) <;> omega) (by rintro (a | a) <;> omega) (by rintro k (rfl | rfl) <;> omega) (by rintro k (rfl | rfl) <;> omega)⟩)
    (fun _ _ _ _ h _ => h)
    ⟨_, hgi⟩
    (fun x => { tmps := #[.string S, .int .i64 (mt : Int), undef, undef, .slice none 0 0, .int .i64 0, .int .i64 0, .pointer (some ⟨w.heap.size, 0, none⟩), .pointer (some ⟨w1.heap.size, 0, none⟩), .pointer (some ⟨w1.heap.size + 1, 0, none⟩), .int .i64 x.1, .int .u64 (x.2 : Int), undef, .int .i64 (mt : Int), .bool false, .bool false, .int .i64 (mt : Int), .bool false, .bool false, .string S, .pointer (some ⟨w.heap.size, 0, none⟩), .pointer (some ⟨w.heap.size, 0, none⟩), .pointer (some ⟨w.heap.size, 0, none⟩), .int .i64 (mt : Int), .int .u64 (mt : Int), .int .u64 (n : Int), lessV w2.heap.size, .func (.func 147) #[] #[.pointer (some ⟨w2.heap.size + 1 + 1, 0, none⟩), .pointer (some ⟨w2.heap.size + 1, 0, none⟩)], .int .i64 x.1, .int .u64 (x.2 : Int), undef, undef, undef, undef, undef, undef, undef, undef, undef, undef, undef, undef, undef, undef, undef, undef, undef, undef, undef, undef, undef, undef], defers := [] }) ?assign ?body ?done ?stop
  case assign =>
    intro l x W K hK
    dsimp only [encT]
    gi_wp2
    exact hK
  case body =>
    clear hgi hsq
    rintro lo pre ⟨d, k⟩ W ⟨v, hg⟩ htl
    obtain ⟨g1, g2, g3⟩ := runs_lens htl
    have htot : total pre + k ≤ n := by have := htl.2.1; rw [total_app] at this; exact this
    have hkb : (k : Int) ≤ 65536 := by dsimp only at g2; omega
    have hexp := expand_snoc pre d k
    have hlen : ∀ q, (undiff 0 (expand pre ++ List.replicate q d)).length = total pre + q := fun q => by rw [undiff_len, List.length_append, expand_len, List.length_replicate]
    have HNX := Lib.hid (fun q => last_undiff pre d q)
    have hg0 : GetI w (w2.heap.size + 1 + 1 + 1) w1.heap.size (w1.heap.size + 1) (undiff 0 (expand pre ++ List.replicate 0 d)) v ((undiff 0 (expand pre ++ List.replicate 0 d)).getLastD 0) W := by simpa using hg
    obtain ⟨f, hf⟩ : ∃ f : Nat → List Int, f = fun q => undiff 0 (expand pre ++ List.replicate q d) := ⟨_, rfl⟩
    have hfe : ∀ q, undiff 0 (expand pre ++ List.replicate q d) = f q := fun q => by rw [hf]
    have HFK := Lib.hid (show undiff 0 (expand (pre ++ [(d, k)])) = f k by rw [hexp, hfe])
    rw [hfe 0] at hg0
    simp only [hfe] at hlen HNX
    have HG0 := Lib.hid hg0
    have HLN := Lib.hid hlen
    have HTT := Lib.hid htot
    clear hg hexp hf hfe hg0 hlen htl g1 g2 g3 htot
    dsimp only
    gi_wp2
    gi_loopw [31] (fun vi Wx => ∃ (q : Nat) (v : Value), vi = .int .u64 (q : Int) ∧ q ≤ k ∧ GetI w (w2.heap.size + 1 + 1 + 1) w1.heap.size (w1.heap.size + 1) (f q) v ((f q).getLastD 0) Wx ∧ KeepL (w2.heap.size + 1 + 1 + 1) w1.heap.size (w1.heap.size + 1) W Wx) (fun vi _ => k - (intOf vi).toNat)
    case atStart => exact ⟨0, v, rfl, Nat.zero_le _, HG0.out, KeepL.refl _ _ _ _⟩
    case round =>
      clear HG0
      obtain ⟨q, v, rfl, hq, hG, hK⟩ := hrel
      by_cases hlt : q < k
      · have hnx := HNX.out q
        have hln := HLN.out q
        obtain ⟨L2, hL2⟩ : ∃ L, f q = L := ⟨_, rfl⟩
        rw [hL2] at hG hnx hln
        obtain ⟨x2, hx2⟩ : ∃ x, L2.getLastD 0 = x := ⟨_, rfl⟩
        rw [hx2] at hG hnx
        obtain ⟨z, hz⟩ : ∃ z, w64 (x2 + d) = z := ⟨_, rfl⟩
        rw [hz] at hnx
        have hz5 : IntKind.i64.wrap (x2 + d) = z := hz
        obtain ⟨hA, hKA⟩ := hG.step (by omega) (by omega) z
        have c9 := hG.num.cell
        have f9 := hG.num.frozen
        have c8A := hA.box.cell
        have c9A := hA.num.cell
        have b1 : L2.length + 1 ≤ maxLen := by unfold maxLen; have := HTT.out; omega
        have b2 : (L2.length + 1) * 8 ≤ 140737488355328 := by have := HTT.out; omega
        have b3 := hA.sz
        have hws : (wr.setCell ⟨w1.heap.size + 1, 0, none⟩ (.int .i64 z)).heap.size = wr.heap.size := by simp [World.setCell]
        have HNW := Lib.hid (new_one (wr.setCell ⟨w1.heap.size + 1, 0, none⟩ (.int .i64 z)) (.int .i64 z) 2)
        rw [hws] at HNW b3
        have HA := Lib.hid hA
        have HKA := Lib.hid (hK.trans hKA)
        have HE := Lib.hid (show f (q + 1) = L2 ++ [z] from hnx)
        have HGL := Lib.hid (show (L2 ++ [z]).getLastD 0 = z by simp)
        clear hnx hln hL2 hx2 hz hA hKA hG hK
        gi_wp2_with (gi_at_builtin; refine wpListIn_append_own _ rfl _ _ 59 rfl (w2.heap.size + 1 + 1 + 1) 2 i0 (.int .i64 0) 1 8 Tryz.underlying59 hi0 hz0 hz1 hz2 rfl (by decide) _ _ _ rfl (HA.out.row.alloc _) ⟨wr.heap.size, 0, none⟩ 1 1 [.int .i64 z] rfl rfl HNW.out (one_i64C _) b1 b2 (by rw [World.size_alloc, hws]; omega) ?_; intro v' w5 hown hgrow _; obtain ⟨g', cap', rfl⟩ := ownsRow_succ hown; obtain ⟨hb5, hG5, hK5⟩ := HA.out.app (by omega) (by omega) (by omega) hown hgrow; have hc5 := hb5.cell; have hf5 := hb5.frozen; have HG5 := Lib.hid hG5; have HK5 := Lib.hid (HKA.out.trans hK5); clear hown hgrow hb5 hG5 hK5)
        go_roundw
        case rel => exact ⟨q + 1, _, by go_num, hlt, by rw [HE.out, HGL.out]; exact HG5.out, HK5.out⟩
        case measure => simp [intOf]; omega
      · have hqk : q = k := by omega
        subst hqk
        have HG := Lib.hid hG
        have HK := Lib.hid hK
        clear hG hK
        gi_wp2
        exact ⟨HK.out.from _, ⟨HK.out.low _ (by omega) (by omega) (by omega), HK.out.low _ (by omega) (by omega) (by omega), HK.out.low _ (by omega) (by omega) (by omega), HK.out.low _ (by omega) (by omega) (by omega)⟩, _, by rw [HFK.out]; exact HG.out⟩
  case done =>
    rintro D ys W hD (⟨P, hP, hrd, hres⟩ | ⟨e, cur, he, hrd, hres⟩) ⟨v, hg⟩ hK
    · have c8 := hg.box.cell
      obtain ⟨z, hz⟩ : ∃ z, (S.extract P S.size).size = z := ⟨_, rfl⟩
      have hzP : (S.size : Int) - (z : Int) = (P : Int) := by rw [← hz]; simp [ByteArray.size_extract]; omega
      have HF := Lib.hid (fault22 _ _ _ _ hrd)
      have HL := Lib.hid (fun W' (h : RdX W' w.heap.size (S.extract P S.size) 0) => (left23 _ _ _ W' h).mono (fun e w' (h : _ ∧ W' = w') => (⟨h.1, h.2.symm⟩ : e = .returned (.int .i64 ((S.extract P S.size).size : Int)) ∧ w' = W')))
      rw [hz] at HL
      have HRD := Lib.hid hrd
      have HG := Lib.hid hg
      have HRES := Lib.hid hres
      clear hgi hsq hz hrd hg hres
      gi_wp2_with (refine ⟨trivial, ?_⟩; gi_at_call 27; refine (callsIn_wide.2 HF.out).mono ?_; rintro e w4 ⟨rfl, hw4⟩; subst hw4)
      refine wpIn_wide.2 ?_
      go_quiet (first | (go_at_call 25; exact Calls.quiet_of_same (HL.out _ (by exact HRD.out))))
      gi_wp2
      refine ⟨by simp, .inl ⟨_, _, rfl, run_takeDeferred (by exact hK), ?_⟩⟩
      obtain ⟨a', c', hv', hri⟩ := i64_own (ownsRow_putObj HG.out.row (.deferred none) hK rfl)
      exact ⟨_, results_tmp3 rfl _ _ _, by rw [HRES.out]; exact ⟨⟨a', c', by rw [← hv']; rfl, hri, fun b off e => by have := own_block_ge HG.out.row b (by rw [hv', e]; rfl); omega⟩, (below_drewN' HG.out.lo nq).trans (belowK_b (w := w) (Nat.le_refl _) (W.drewN nq) D _ _ (by simp at hD; omega) hK rfl rfl)⟩⟩
    · have g1 : (e != 0) = true := by simpa using he
      have HF := Lib.hid (fault22 _ _ _ _ hrd)
      have HRES := Lib.hid hres
      have HLO := Lib.hid hg.lo
      clear hgi hsq hrd hg hres he
      gi_wp2_with (refine ⟨trivial, ?_⟩; gi_at_call 27; refine (callsIn_wide.2 HF.out).mono ?_; rintro e w4 ⟨rfl, hw4⟩; subst hw4)
      refine ⟨by simp, .inl ⟨_, _, rfl, run_takeDeferred hK, ?_⟩⟩
      exact ⟨_, results_tmp3 rfl _ _ _, by rw [HRES.out]; exact ⟨⟨none, 0, rfl, .inl rfl, FreshA.none _⟩, HLO.out.trans (belowK_b (w := w) (Nat.le_refl _) W D _ _ (by simp at hD; omega) hK rfl rfl)⟩⟩
  case stop =>
    rintro D c pre W _ _ h _
    exact h.elim
end Go.Proofs.YtnhljfhpfpfniaaGreat
