/- The document's Weigh: the contract. -/
import Derived.Test.YtfodnadmabnacaaDoorRuRef4
namespace Go.Proofs.YtfodnadmabnacaaDoor
open Go.RowKit Base Base2

theorem infoVd : (Tryd.prog.info? 35).map (·.size) = some 2 := by kernel_rfl
theorem weigh_drop {l : List StepT} {i : Nat} {s : StepT} (h : l[i]? = some s) : l.drop i = s :: l.drop (i + 1) := by
  obtain ⟨hlt, he⟩ := List.getElem?_eq_some_iff.1 h
  rw [← he, List.drop_eq_getElem_cons hlt]
theorem weigh_over {s : StepT} (l : List StepT) (n : Int) (h : s.o = true) : weighS (s :: l) n = (12, 0) := if_pos h
theorem weigh_not {s : StepT} (l : List StepT) (n : Int) (h : s.o = false) (h2 : holdS s = false) : weighS (s :: l) n = ((rowT s.r).2.2, 0) := by unfold weighS; rw [h, h2, if_neg (by simp), if_neg (by simp)]
theorem weigh_holds {s : StepT} (l : List StepT) (n : Int) (h : s.o = false) (h2 : holdS s = true) : weighS (s :: l) n = weighS l (if s.r = 20 then s.x else n) := by rw [weighS, h, h2, if_neg (by simp), if_pos rfl]
set_option maxRecDepth 100000 in
set_option maxHeartbeats 8000000 in
theorem rweigh18 (a : Option Addr) (c : Nat) (l : List StepT) (w : World) (hr : StepsAt w a l) (hl : l.length ≤ 10000) :
    Calls Tryd.prog 18 #[.slice a l.length c] w fun e w' => e = .returned (.agg #[.int .i64 (weighS l 0).1, .int .i64 (weighS l 0).2]) ∧ Below w.heap.size w w' := by
  obtain ⟨n, hn⟩ : ∃ n, l.length = n := ⟨_, rfl⟩
  have HN := Lib.hid hn
  obtain ⟨R, hR⟩ : ∃ R, weighS l 0 = R := ⟨_, rfl⟩
  have HR0 := Lib.hid hR
  have HHO := Lib.hid (fun (s : StepT) W => rholds12 s W)
  have HTB := Lib.hid (fun (r : Int) W => rtable7 r W)
  obtain ⟨W0, hW0⟩ : ∃ z, w.alloc (.cells #[.int .i64 0, .int .i64 0] 35) = z := ⟨_, rfl⟩
  have hb0 : Below w.heap.size w W0 := by rw [← hW0]; exact (Below.refl _ _).alloc (Nat.le_refl _) _
  have hx0 : W0.heap[w.heap.size]? = some (.cells #[.int .i64 0, .int .i64 0] 35 (0, 0)) := by rw [← hW0]; exact heap_alloc_new w _
  have HR := Lib.hid (hr.below hb0)
  have HB0 := Lib.hid hb0
  have HX0 := Lib.hid (fun W (h : Below W0.heap.size W0 W) => show W.heap[w.heap.size]? = some (.cells #[.int .i64 0, .int .i64 0] 35 (0, 0)) from (h.block _ (blk_ltR hx0)).trans hx0)
  rw [hn, hR]
  rw [hn] at hl
  clear hr hn hR hb0 hx0
  go_enter Tryd.func18, Tryd.ntmps18
  go_wp2
  (try rw [hW0])
  clear hW0
  go_loopw [3, 4] (fun vn vi W => ∃ (i : Nat) (nd : Int), vn = .int .i64 nd ∧ vi = .int .i64 (i : Int) ∧ i ≤ n ∧ weighS (l.drop i) nd = R ∧ Below W0.heap.size W0 W) (fun _ vi _ => n - (intOf vi).toNat)
  case atStart => exact ⟨0, 0, rfl, rfl, Nat.zero_le _, HR0.out, Below.refl _ _⟩
  case round =>
    obtain ⟨i, nd, rfl, rfl, hi, hwe, hlo⟩ := hrel
    have HLO := Lib.hid hlo
    have HWE := Lib.hid hwe
    clear hlo hwe
    by_cases hlt : i < n
    · obtain ⟨s, hx⟩ : ∃ s, l[i]? = some s := ⟨l[i]'(by rw [HN.out]; exact hlt), by simp [HN.out, hlt]⟩
      obtain ⟨b0, off, rfl, hcs⟩ := HR.out.at hx
      have HCS := Lib.hid (fun W h => hcs i s hx W h)
      obtain ⟨k0, k1, k2, k3⟩ := hcs i s hx wr HLO.out
      rw [weigh_drop hx] at HWE
      clear hcs hx
      obtain ⟨r, x, y, ov⟩ := s
      dsimp only at k0 k1 k2 k3 HCS
      cases ov with
      | true =>
        rw [weigh_over _ _ rfl] at HWE
        have HM := Lib.hid HWE.out.symm
        have HXB := Lib.hid (HX0.out _ HLO.out)
        go_wp2_with (refine wpList_store_row rfl 35 (.tmp 2) (.tmp 16) rfl w.heap.size #[.int .i64 12, .int .i64 0] rfl rfl 35 #[.int .i64 0, .int .i64 0] HXB.out infoVd rfl (by simp [Value.oneCell']) ?_)
        refine ret_cell rfl rfl rfl (setRow_heap _ _ _ _ 35 (0, 0) HXB.out) Tryd.underlying35 rfl infoVd ⟨by rw [HM.out], below_rowB (HB0.out.trans (HLO.out.mono HB0.out.size)) (Nat.le_refl _)⟩
      | false =>
        have HHS := Lib.hid (HHO.out ⟨r, x, y, false⟩ wr)
        dsimp only at HHS
        cases hh : holdS ⟨r, x, y, false⟩ with
        | false =>
          rw [hh] at HHS
          rw [weigh_not _ _ rfl hh] at HWE
          dsimp only at HWE
          have HTT := Lib.hid (fun W => HTB.out r W)
          unfold rowV at HTT
          clear hh
          generalize (rowT r).1 = nm at *
          generalize (rowT r).2.1 = rl at *
          generalize (rowT r).2.2 = cd at *
          have hf := fun W => field_code nm rl cd W
          have HM := Lib.hid HWE.out.symm
          go_upto_region 8 with (go_at_call 12; refine HHS.out.mono ?_; rintro e w5 ⟨rfl, hb5⟩; have HB5 := Lib.hid (HLO.out.trans (hb5.mono HLO.out.size)); clear hb5)
          obtain ⟨m0, m1, m2, m3⟩ := HCS.out w5 HB5.out
          go_wp2_with (first
            | (go_at_call 7; refine (HTT.out _).mono ?_; rintro e w6 ⟨rfl, hb6⟩; have HB6 := Lib.hid (HB5.out.trans (hb6.mono HB5.out.size)); have HXB := Lib.hid (HX0.out _ HB6.out); clear hb6)
            | (refine wpList_store_row rfl 35 (.tmp 2) (.tmp 30) rfl w.heap.size #[.int .i64 cd, .int .i64 0] rfl rfl 35 #[.int .i64 0, .int .i64 0] HXB.out infoVd rfl (by simp [Value.oneCell']) ?_))
          refine ret_cell rfl rfl rfl (setRow_heap _ _ _ _ 35 (0, 0) HXB.out) Tryd.underlying35 rfl infoVd ⟨by rw [HM.out], below_rowB (HB0.out.trans (HB6.out.mono HB0.out.size)) (Nat.le_refl _)⟩
        | true =>
          rw [hh] at HHS
          rw [weigh_holds _ _ rfl hh] at HWE
          dsimp only at HWE
          clear hh
          go_upto_region 9 with (go_at_call 12; refine HHS.out.mono ?_; rintro e w5 ⟨rfl, hb5⟩; have HB5 := Lib.hid (HLO.out.trans (hb5.mono HLO.out.size)); clear hb5)
          obtain ⟨m0, m1, m2, m3⟩ := HCS.out w5 HB5.out
          by_cases h20 : r = 20
          · subst h20
            rw [if_pos rfl] at HWE
            go_wp2
            go_roundw
            case rel => exact ⟨i + 1, x, rfl, by go_num, hlt, HWE.out, HB5.out⟩
            case measure => simp [intOf]; omega
          · rw [if_neg h20] at HWE
            have g : (r == 20) = false := by rw [beq_eq_false_iff_ne]; exact h20
            clear h20
            go_wp2
            go_roundw
            case rel => exact ⟨i + 1, nd, rfl, by go_num, hlt, HWE.out, HB5.out⟩
            case measure => simp [intOf]; omega
    · rw [List.drop_of_length_le (by rw [HN.out]; omega)] at HWE
      have HM := Lib.hid (show R = (0, nd) from HWE.out.symm)
      have HXB := Lib.hid (HX0.out _ HLO.out)
      go_wp2_with (refine wpList_store_row rfl 35 (.tmp 2) (.tmp 43) rfl w.heap.size #[.int .i64 0, .int .i64 nd] rfl rfl 35 #[.int .i64 0, .int .i64 0] HXB.out infoVd rfl (by simp [Value.oneCell']) ?_)
      refine ret_cell rfl rfl rfl (setRow_heap _ _ _ _ 35 (0, 0) HXB.out) Tryd.underlying35 rfl infoVd ⟨by rw [HM.out], below_rowB (HB0.out.trans (HLO.out.mono HB0.out.size)) (Nat.le_refl _)⟩
end Go.Proofs.YtfodnadmabnacaaDoor
