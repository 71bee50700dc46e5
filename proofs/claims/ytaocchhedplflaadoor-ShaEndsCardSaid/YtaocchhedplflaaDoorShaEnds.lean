/- ShaEnds holds: whatever byte, whatever number of them: the digest is the document's, and has 32 bytes. No condition but that the program's table of constants is as its text lays it, which the card ties. -/
import Derived.Test.YtaocchhedplflaaDoorShaLaid
namespace Go.Proofs.YtaocchhedplflaaDoor.shaEnds
open Go.ChangeShapes Go.WideShapes Go.ChangeAt Go.RowKit Go.Lib

def fillB (b : UInt8) (m i : Nat) : Array Value := (List.replicate i (Value.int .u8 (b.toNat : Int)) ++ List.replicate (m - i) (Value.int .u8 0)).toArray
theorem fillB_size (b : UInt8) (m i : Nat) (h : i ≤ m) : (fillB b m i).size = m := by simp [fillB]; omega
theorem fillB_set (b : UInt8) (m i : Nat) (h : i < m) : (fillB b m i).setIfInBounds i (.int .u8 (b.toNat : Int)) = fillB b m (i + 1) := by
  obtain ⟨k, hk⟩ : ∃ k, m - i = k + 1 := ⟨m - i - 1, by omega⟩
  apply Array.ext'
  rw [Array.toList_setIfInBounds]
  simp only [fillB, hk, show m - (i + 1) = k by omega]
  rw [List.set_append_right _ _ (by simp)]
  simp only [List.length_replicate, Nat.sub_self, List.replicate_succ, List.set_cons_zero]
  rw [← List.replicate_succ, List.replicate_succ', List.append_assoc]
  rfl
theorem fillB_full (b : UInt8) (m : Nat) : (fillB b m m).toList = Lib.byteCells (List.replicate m b) := by simp [fillB, Lib.byteCells]

/-- What stands while the digests are made. -/
def EndS (w : World) (g : Nat) (b : UInt8) (m : Nat) (W : World) : Prop := W.heap[g]? = some (.cells (fillB b m m) 5 (0, 0)) ∧ Below w.heap.size w W ∧ g < W.heap.size ∧ KHeld w
theorem EndS.below {w W W' : World} {g m : Nat} {b : UInt8} (h : EndS w g b m W) (hw : w.heap.size ≤ g) (hb : Below W.heap.size W W') : EndS w g b m W' :=
  ⟨(hb.block g h.2.2.1).trans h.1, h.2.1.trans (hb.mono (by have := h.2.2.1; omega)), by have := hb.size; have := h.2.2.1; omega, h.2.2.2⟩
theorem EndS.k {w W : World} {g m : Nat} {b : UInt8} (h : EndS w g b m W) : KHeld W := KHeld_of h.2.2.2 h.2.1
theorem EndS.conv {w W : World} {g m : Nat} {b : UInt8} (h : EndS w g b m W) (hm : m ≤ 255) : (convert 36 9 (.slice (some ⟨g, 0, none⟩) m m)).run Tryd.prog W = .ok (.string ⟨(List.replicate m b).toArray⟩) W :=
  conv_own (base := 0) ⟨by simp [bc_len], .inr ⟨g, m, _, rfl, Nat.zero_le _, h.1, Nat.le_refl _, by unfold maxLen; omega, by rw [fillB_size _ _ _ (Nat.le_refl _), Nat.mul_one], by rw [fillB_full, List.take_of_length_le (by simp [bc_len])]⟩⟩
theorem yields_conv {ops : Array Oper} {S : World → Prop} {op : Oper} {a : Act} (hgd : op.guard = none) (x : Operand) (ho : op.op = .convert 36 9 x) (p v : Value) (hx : a.eval x = p)
    (hS : ∀ w, S w → (convert 36 9 p).run Tryd.prog w = .ok v w) : YieldsIf Tryd.prog ops S op v a :=
  .inl ⟨by simp [Region.wanted, hgd], fun w hw' => by
    unfold execOp
    simp only [ho, hx, Sem.run_bind, Sem.run_pure, hS w hw', Result.andThen_ok]⟩

set_option maxRecDepth 100000 in
set_option maxHeartbeats 1000000 in
theorem walk5 (b : UInt8) (m : Nat) (w : World) (hm : m ≤ 255) (hK : KHeld w) :
    Calls Tryd.prog 5 #[.int .u8 (b.toNat : Int), .int .u8 (m : Int)] w fun e w' => e = .returned (.bool true) ∧ Below w.heap.size w w' := by
  have hb := b.toNat_lt
  have HAL := Lib.hid (alive6 w hK)
  have HK := Lib.hid hK
  have hmk : ∀ W, (Instr.makeSlice 36 (.int .i64 (m : Int)) (.int .i64 (m : Int))).run Tryd.prog W = .ok (.slice (some ⟨W.heap.size, 0, none⟩) m m) (W.alloc (.cells (madeCells #[.int .u8 0] m) 5)) := fun W => make36 m m W (by omega) (by omega) _ _ rfl rfl _ _
  have hz : madeCells #[.int .u8 0] m = fillB b m 0 := by apply Array.ext'; rw [made_list]; simp [fillB]
  rw [hz] at hmk
  have HC9 := Lib.hid (fun W (h : KHeld W) => sum9d ⟨(List.replicate m b).toArray⟩ W (by show (List.replicate m b).toArray.size ≤ _; simp; omega) h)
  have HC7 := Lib.hid (fun W => refsum7 ⟨(List.replicate m b).toArray⟩ W (by show (List.replicate m b).toArray.size ≤ _; simp; omega))
  have hconv : ∀ (g : Nat) (W : World), EndS w g b m W → (convert 36 9 (.slice (some ⟨g, 0, none⟩) m m)).run Tryd.prog W = .ok (.string ⟨(List.replicate m b).toArray⟩) W := fun g W h => h.conv hm
  have hd := digS_size ⟨(List.replicate m b).toArray⟩
  generalize (⟨(List.replicate m b).toArray⟩ : ByteArray) = T at *
  generalize digS T = D at *
  have HCV := Lib.hid hconv
  have HD := Lib.hid hd
  clear hK hz hconv hd
  go_enter Tryd.func5, Tryd.ntmps5
  go_upto_region 4 with (go_at_call 6; refine HAL.out.mono ?_; rintro e w1 ⟨rfl, hb1⟩; have HB1 := Lib.hid hb1; clear hb1)
  refine at_world (Φ := fun W => W.heap[w1.heap.size]? = some (.cells (fillB b m 0) 5 (0, 0)) ∧ Below w.heap.size w W ∧ w1.heap.size < W.heap.size) ⟨heap_alloc_new w1 _, HB1.out.alloc HB1.out.size _, by simp⟩ ?_
  obtain ⟨g, hg⟩ : ∃ g, w1.heap.size = g := ⟨_, rfl⟩
  rintro W ⟨h1, h2, h3⟩
  have hwg : w.heap.size ≤ g := by rw [← hg]; exact HB1.out.size
  rw [hg] at h1 h3 ⊢
  have H1 := Lib.hid h1; have H2 := Lib.hid h2; have H3 := Lib.hid h3
  clear h1 h2 h3 hg hmk
  go_upto_region 5 with (fail)
  go_loopw [6] (fun v W' => ∃ i : Nat, i ≤ m ∧ v = .int .i64 (i : Int) ∧ W'.heap[g]? = some (.cells (fillB b m i) 5 (0, 0)) ∧ Below w.heap.size w W' ∧ g < W'.heap.size) (fun v _ => m - (intOf v).toNat)
  case atStart => exact ⟨0, by omega, rfl, H1.out, H2.out, H3.out⟩
  case round =>
    clear H1 H2 H3
    obtain ⟨i, hi, rfl, h1, h2, h3⟩ := hrel
    by_cases hlt : i < m
    · have hlt2 : (i : Int) < (m : Int) := by omega
      obtain ⟨uu, huu⟩ := cell_of_blk h1 i (by rw [fillB_size _ _ _ hi]; exact hlt)
      have huf := free_of_blk h1 i
      have H1 := Lib.hid h1; have H2 := Lib.hid h2; have H3 := Lib.hid h3
      clear h1 h2 h3
      go_wp2
      go_roundw
      case rel => exact ⟨i + 1, by omega, by go_num, by rw [set_blk H1.out, fillB_set _ _ _ hlt], H2.out.setCell hwg _, by simpa using H3.out⟩
      case measure => simp [intOf]; omega
    · have him : i = m := by omega
      have HS := Lib.hid (show EndS w g b m wr from ⟨by rw [him] at h1; exact h1, h2, h3, HK.out⟩)
      have ei : (i : Int) = (m : Int) := by omega
      clear him h1 h2 h3
      go_upto_region 8 with (fail)
      rw [ei]
      clear ei hlt hi
      have hcv := HCV.out g
      have HCV2 := Lib.hid hcv
      clear hcv HCV
      have hd32 : (D.size : Int) = 32 := by have := HD.out; omega
      refine wp_region_held_drew (S := fun W => EndS w g b m W) (by kernel_rfl) (show EndS w g b m wr.drew from ⟨HS.out.1, HS.out.2.1.drew, HS.out.2.2.1, HS.out.2.2.2⟩) (fun hS => ?_)
      refine wpAnyH_take (i := 0) (v := (.slice (some ⟨g, 0, none⟩) m m)) rfl (by kernel_rfl) (by kernel_rfl) (by kernel_rfl) (fun _ _ _ h => h) (Or.inl ⟨by simp [Region.wanted], fun W _ => by go_simp⟩) hS ?_
      simp only [List.getElem_toArray, List.getElem_cons_zero, Act.put, List.setIfInBounds_toArray, List.set_cons_zero, List.set_cons_succ]
      refine wpAnyH_take (i := 1) (v := .string T) rfl (by kernel_rfl) (by kernel_rfl) (by kernel_rfl) (fun _ _ _ h => h) (yields_conv rfl (.tmp 22) rfl _ _ rfl HCV2.out) hS ?_
      simp only [List.getElem_toArray, List.getElem_cons_zero, List.getElem_cons_succ, Act.put, List.setIfInBounds_toArray, List.set_cons_zero, List.set_cons_succ]
      refine wpAnyH_take (i := 3) (v := (.slice (some ⟨g, 0, none⟩) m m)) rfl (by kernel_rfl) (by kernel_rfl) (by kernel_rfl) (fun _ _ _ h => h) (Or.inl ⟨by simp [Region.wanted], fun W _ => by go_simp⟩) hS ?_
      simp only [List.getElem_toArray, List.getElem_cons_zero, List.getElem_cons_succ, Act.put, List.setIfInBounds_toArray, List.set_cons_zero, List.set_cons_succ]
      refine wpAnyH_take (i := 4) (v := .string T) rfl (by kernel_rfl) (by kernel_rfl) (by kernel_rfl) (fun _ _ _ h => h) (yields_conv rfl (.tmp 25) rfl _ _ rfl HCV2.out) hS ?_
      simp only [List.getElem_toArray, List.getElem_cons_zero, List.getElem_cons_succ, Act.put, List.setIfInBounds_toArray, List.set_cons_zero, List.set_cons_succ]
      refine wpAnyH_ready (rs := [2]) (by kernel_rfl) (by simp) ?_
      refine AllReadyH.cons rfl (fun K1 hK1 => ?_) AllReadyH.nil
      refine wanted_go rfl ?_
      simp only [List.getElem_toArray, List.getElem_cons_zero, List.getElem_cons_succ]
      go_wp2_with (go_at_call 9; refine (HC9.out _ hS.k).mono ?_; rintro e w2 ⟨rfl, hb2⟩)
      refine hK1.out _ _ (hS.below hwg hb2) (fun hS2 => ?_)
      refine wpAnyH_ready (rs := [5]) (by kernel_rfl) (by simp) ?_
      refine AllReadyH.cons rfl (fun K2 hK2 => ?_) AllReadyH.nil
      refine wanted_go rfl ?_
      simp only [List.getElem_toArray, List.getElem_cons_zero, List.getElem_cons_succ]
      go_wp2_with (go_at_call 7; refine (HC7.out _).mono ?_; rintro e w3 ⟨rfl, hb3⟩)
      refine hK2.out _ _ (hS2.below hwg hb3) (fun hS3 => ?_)
      refine wpAnyH_ready (rs := [6]) (by kernel_rfl) (by simp) ?_
      refine AllReadyH.cons rfl (fun K3 hK3 => ?_) AllReadyH.nil
      refine wanted_go rfl ?_
      simp only [List.getElem_toArray, List.getElem_cons_zero, List.getElem_cons_succ]
      go_wp2
      refine hK3.out _ _ hS3 (fun _ => ?_)
      refine wpAnyH_ready (rs := [7]) (by kernel_rfl) (by simp) ?_
      refine AllReadyH.cons rfl (fun K4 hK4 => ?_) AllReadyH.nil
      refine wanted_go rfl ?_
      simp only [List.getElem_toArray, List.getElem_cons_zero, List.getElem_cons_succ]
      go_wp2
      refine hK4.out _ _ hS3 (fun _ => ?_)
      refine wpAnyH_ready (rs := [8]) (by kernel_rfl) (by simp) ?_
      refine AllReadyH.cons rfl (fun K5 hK5 => ?_) AllReadyH.nil
      rw [if_pos (by rfl)]
      simp only [List.getElem_toArray, List.getElem_cons_zero, List.getElem_cons_succ]
      go_wp2
      refine hK5.out _ _ hS3 (fun _ => ?_)
      have hc3 := HCV2.out _ hS3
      refine wpAnyH_ready (rs := [9]) (by kernel_rfl) (by simp) ?_
      refine AllReadyH.cons rfl (fun K6 hK6 => ?_) AllReadyH.nil
      rw [if_pos (by rfl)]
      simp only [List.getElem_toArray, List.getElem_cons_zero, List.getElem_cons_succ]
      go_wp2
      refine hK6.out _ _ hS3 (fun _ => ?_)
      clear hc3
      refine wpAnyH_ready (rs := [10]) (by kernel_rfl) (by simp) ?_
      refine AllReadyH.cons rfl (fun K7 hK7 => ?_) AllReadyH.nil
      rw [if_pos (by rfl)]
      simp only [List.getElem_toArray, List.getElem_cons_zero, List.getElem_cons_succ]
      go_wp2_with (go_at_call 9; refine (HC9.out _ hS3.k).mono ?_; rintro e w4 ⟨rfl, hb4⟩)
      refine hK7.out _ _ (hS3.below hwg hb4) (fun hS4 => ?_)
      refine wpAnyH_ready (rs := [11]) (by kernel_rfl) (by simp) ?_
      refine AllReadyH.cons rfl (fun K8 hK8 => ?_) AllReadyH.nil
      rw [if_pos (by rfl)]
      simp only [List.getElem_toArray, List.getElem_cons_zero, List.getElem_cons_succ]
      go_wp2
      refine hK8.out _ _ hS4 (fun _ => ?_)
      refine wpAnyH_ready (rs := [12]) (by kernel_rfl) (by simp) ?_
      refine AllReadyH.cons rfl (fun K9 hK9 => ?_) AllReadyH.nil
      rw [if_pos (by rfl)]
      simp only [List.getElem_toArray, List.getElem_cons_zero, List.getElem_cons_succ]
      go_wp2
      refine hK9.out _ _ hS4 (fun _ => ?_)
      refine wpAnyH_ready (rs := [13]) (by kernel_rfl) (by simp) ?_
      refine AllReadyH.cons rfl (fun K10 hK10 => ?_) AllReadyH.nil
      refine wanted_go rfl ?_
      simp only [List.getElem_toArray, List.getElem_cons_zero, List.getElem_cons_succ]
      go_wp2
      refine hK10.out _ _ hS4 (fun _ => ?_)
      refine wpAnyH_ready (rs := [14]) (by kernel_rfl) (by simp) ?_
      refine AllReadyH.cons rfl (fun K11 hK11 => ?_) AllReadyH.nil
      refine wanted_go rfl ?_
      simp only [List.getElem_toArray, List.getElem_cons_zero, List.getElem_cons_succ]
      go_wp2
      refine hK11.out _ _ hS4 (fun _ => ?_)
      refine wpAnyH_done (by kernel_rfl) ?_ _
      go_wp2
      go_ret
      exact ⟨rfl, hS4.2.1⟩

theorem walkI (a0 a1 : Int) (w : World) (w0 : (Lit.int .u8 a0).wf = true) (w1 : (Lit.int .u8 a1).wf = true) (hK : KHeld w) :
    Calls Tryd.prog 5 #[.int .u8 a0, .int .u8 a1] w fun e w' => e = .returned (.bool true) ∧ Below w.heap.size w w' := by
  have h0 : 0 ≤ a0 ∧ a0 ≤ 255 := by simpa [Lit.wf, IntKind.min, IntKind.max, IntKind.signed, IntKind.bits] using w0
  have h1 : 0 ≤ a1 ∧ a1 ≤ 255 := by simpa [Lit.wf, IntKind.min, IntKind.max, IntKind.signed, IntKind.bits] using w1
  have e0 : a0 = ((UInt8.ofNat a0.toNat).toNat : Int) := by rw [UInt8.toNat_ofNat']; omega
  have e1 : a1 = ((a1.toNat : Nat) : Int) := by omega
  rw [e0, e1]
  exact walk5 _ _ w (by omega) hK

theorem witness_row (os : Os) {H : Type} (enc : TypeId × Value → H) :
    (OpenSpec.ofChange Rows.shaEndsSpec).preRow enc Tryd.prog Tryd.f5 Rows.shaEndsRow.domain false Rows.shaEndsRow.laid ((laidWorld os).forCall (fun _ _ => 0) ⟨#[], #[.int .u8 0, .int .u8 0], []⟩).memory #[.int .u8 0, .int .u8 0] := by
  have hw : (DataW.whole enc Tryd.prog ((laidWorld os).forCall (fun _ _ => 0) ⟨#[], #[.int .u8 0, .int .u8 0], []⟩).memory Tryd.f5.params.toList (OpenSpec.ofChange Rows.shaEndsSpec).vars false #[Value.int .u8 0, .int .u8 0].toList 8).map (fun x => (x.1, x.2.1)) =
      some ([.lit (.int .u8 0), .lit (.int .u8 0)], []) := by kernel_rfl
  obtain ⟨⟨x1, x2, x3⟩, hx, hx1⟩ := Option.map_eq_some_iff.1 hw
  simp only [Prod.mk.injEq] at hx1
  obtain ⟨rfl, rfl⟩ := hx1
  exact OpenSpec.preRow_of_cond 8 hx (by kernel_rfl) (fun k hk => by cases hk) (by kernel_rfl) (laid_met os _)

set_option maxRecDepth 100000 in
set_option maxHeartbeats 2000000 in
theorem lifted (os : Os) (started : os.Started) (H : Type) (enc : TypeId × Value → H) (F : Stop.Interp) :
    ReturnsInHanded {} Tryd.checked os 5 .any ((OpenSpec.ofChange Rows.shaEndsSpec).preRow enc Tryd.prog Tryd.f5 Rows.shaEndsRow.domain false Rows.shaEndsRow.laid) (((OpenSpec.ofChange Rows.shaEndsSpec).at F).post enc Tryd.prog Tryd.f5 false true false false) := by
  refine returnsInHanded_of_row (C := Tryd.checked) (s := OpenSpec.ofChange Rows.shaEndsSpec) ownK started (by kernel_rfl) Tryd.func5
    (witness_row_atRef (enc := enc) (C := Tryd.checked) false (laidWorld os) #[.int .u8 0, .int .u8 0] rfl (by kernel_rfl) (by kernel_rfl) (by kernel_rfl) (witness_row os enc)) ?_
  intro W base args ds gs before hval0 hW hcnd0 _ _ hL _ _
  have hval : ∀ (j : Nat) t v, Tryd.f5.params[j]? = some t → args[j]? = some v → Value.okWide Tryd.prog W .any base t v := hval0
  have hW' := hW
  obtain ⟨p, q, hA0, hV0, rfl, _, _⟩ := hW
  have hA : DataW.TrodAll enc Tryd.prog W 0 (fun _ => true) true Tryd.f5.params.toList args.toList ds p := hA0
  rw [Tryd.params5] at hA hval
  obtain ⟨v0, vs0, d0, ds0, p0, q0, hargs, rfl, rfl, h0, r0⟩ := trodAll_cons hA
  obtain ⟨v1, vs1, d1, ds1, p1, q1, rfl, rfl, rfl, h1, r1⟩ := trodAll_cons r0
  obtain ⟨rfl, rfl, rfl⟩ := trodAll_nil r1
  obtain rfl : args = #[v0, v1] := by cases args; simp_all
  obtain ⟨rfl, rfl⟩ := trodVars_none hV0
  obtain ⟨a0, rfl, rfl, rfl, w0⟩ := open_int Tryd.underlying5 (hval 0 5 v0 rfl rfl) h0
  obtain ⟨a1, rfl, rfl, rfl, w1⟩ := open_int Tryd.underlying5 (hval 1 5 v1 rfl rfl) h1
  clear hA0 hV0 hval0
  simp only [List.append_nil] at hW'
  refine (walkI a0 a1 W w0 w1 (held_of_laid hL)).mono ?_
  rintro e W' ⟨rfl, hg⟩
  exact ⟨_, rfl, _, _, _, [], [], [], hW', trodAll_cons_mk (shut_bool Tryd.underlying4 _) trodAll_mk0, (trodAll_cons_mk (shut_int Tryd.underlying5 w0) (trodAll_cons_mk (shut_int Tryd.underlying5 w1) trodAll_mk0)), rfl, hg.frame _, fun h => by cases h⟩

theorem holds : Rows.ShaEndsSaid :=
  OpenClaim.holds_of_cond 5 Tryd.f5 rfl rfl rfl rfl rfl rfl rfl ⟨rfl, rfl, rfl, rfl, rfl⟩ rfl rfl rfl rfl rfl (by kernel_rfl) Tryd.func5 (by kernel_rfl)
    (of_decide_eq_true (by kernel_rfl)) (by unfold Func.isWrapper; first | (rw [if_pos (by decide +kernel)]; kernel_rfl) | (rw [if_neg (of_decide_eq_false (by kernel_rfl))]; exact ⟨rfl, rfl⟩))
    (fun os started H enc _ F0 => by rw [OpenClaim.pre_eq_preRow]; exact lifted os started H enc F0)

/-- The card: the table tied to the program's text. -/
theorem card_holds : Rows.ShaEndsCardSaid :=
  Claim7.holds_tied_plain_at .later [] [.data] true (true, "79a68dcad377e88d0c63e955265bd1dff131f86c08b17e5d719a2bdb590eb835") false
    holds (fun _ h => by cases h) (by kernel_rfl) (fun _ h => by cases h) shaEnds_row_tie rfl ⟨rfl, rfl⟩ (by kernel_rfl) rfl
    (fun f fn hf hfn => by
      obtain rfl : f = 5 := Option.some.inj ((show Tryd.prog.funcNamed "engross/engrosslaw02.ShaEnds" = some 5 by kernel_rfl).symm.trans hf) |>.symm
      obtain rfl : fn = Tryd.f5 := (Option.some.inj (Tryd.func5.symm.trans hfn)).symm
      exact ⟨by kernel_rfl, fun j t ht => by
        rw [Tryd.params5] at ht
        have h3 : t = 5 ∨ t = 5 := by
          rcases j with _ | _ | j
          · left; simpa using ht.symm
          · right; simpa using ht.symm
          · simp at ht
        rcases h3 with rfl | rfl
        · exact (show Tryd.prog.wantsStandIn 5 = false by kernel_rfl)
        · exact (show Tryd.prog.wantsStandIn 5 = false by kernel_rfl)⟩)
    (by kernel_rfl)
#print axioms card_holds
end Go.Proofs.YtaocchhedplflaaDoor.shaEnds
