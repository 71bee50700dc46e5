/- A block is mixed in: the contract of mixed. -/
import Derived.Test.YtipaicfmodgcoaaDoorShaSched
import Derived.Deep.RegionHeld3
import Derived.Deep.CutRange
namespace Go.Proofs.YtipaicfmodgcoaaDoor
open Go.RowKit

theorem wrow_list (l : List Wd) (n : Nat) (h : l.length = n) : (wrow l n).toList = l.map wv := by simp [wrow, h]
theorem info46 : (Tryd.prog.info? 123).map (·.size) = some 64 := by kernel_rfl
theorem bA_size (p : List UInt8) : (bA p).size = p.length := by simp [bA]
theorem stA_size (s : St) : (stA s).size = 8 := rfl
theorem load_row {P : Program} (W : World) (g : Nat) (ty t : TypeId) (cs : Array Value) (d : TypeDesc) (h : W.heap[g]? = some (.cells cs t (0, 0))) (hu : P.underlying ty = some d)
    (hd : (match d with | .struct _ | .array _ _ => true | _ => false) = true) (hi : (P.info? ty).map (·.size) = some cs.size) :
    (Instr.loadAt ty (.pointer (some ⟨g, 0, none⟩))).run P W = .ok (.agg cs) W := by
  have h := run_loadVar_row W g t ty cs (0, 0) d h hu hd hi
  simp only [Instr.loadAt, Instr.sureAddr, Sem.run_bind, Sem.run_pure, Result.andThen_ok, h]

theorem yieldsIf_load {P : Program} {ops : Array Oper} {S : World → Prop} {op : Oper} {a : Act} (hgd : op.guard = none) (ty : TypeId) (x : Operand) (ho : op.op = .load ty x)
    (p v : Value) (hx : a.eval x = p) (hS : ∀ w, S w → (Instr.loadAt ty p).run P w = .ok v w) : YieldsIf P ops S op v a :=
  .inl ⟨by simp [Region.wanted, hgd], fun w hw' => by
    unfold execOp
    simp only [ho, hx, Sem.run_bind, Sem.run_pure, hS w hw', Result.andThen_ok]⟩

theorem step_store_row0 {P : Program} {ops : Array Oper} {o : Oper} {a : Act} {w : World} {K : Act → World → Prop} {Q : Exit → Act → World → Prop} {E : Prop} (hgd : o.guard = none) (hd0 : o.dst = none) (ty : TypeId) (x y : Operand) (ho : o.op = .store ty x y)
    (g : Nat) (cells : Array Value) (hx : a.eval x = .pointer (some ⟨g, 0, none⟩)) (hy : a.eval y = .agg cells)
    (t : TypeId) (old : Array Value) (hg : w.heap[g]? = some (.cells old t (0, 0))) (hi : (P.info? ty).map (·.size) = some cells.size)
    (hold : old.size = cells.size) (h1 : cells.all (·.oneCell') = true)
    (h : K a (w.setRow g cells)) : if Region.wanted o (yielded ops a.tmps) = true then Oper.wp P o a w K Q else E :=
  step_store_row hgd ty x y ho g cells hx hy t old hg hi hold h1 (by rw [hd0]; exact h)

theorem wanted_go {ops : Array Oper} {o : Oper} {a : Act} {A B : Prop} (hgd : o.guard = none) (h : A) : if Region.wanted o (yielded ops a.tmps) = true then A else B := by
  rw [if_pos (by simp [Region.wanted, hgd])]; exact h

/-- What stands while the new state is made. -/
def MixS (w : World) (s : St) (p : List UInt8) (W : World) : Prop :=
  W.heap[w.heap.size]? = some (.cells (stA s) 35 (0, 0)) ∧ W.heap[w.heap.size + 1]? = some (.cells (bA p) 123 (0, 0)) ∧ (∃ Z, W.heap[w.heap.size + 1 + 1]? = some (.cells Z 35 (0, 0)) ∧ Z.size = 8) ∧ KHeld w ∧ Below w.heap.size w W ∧ w.heap.size + 3 ≤ W.heap.size
theorem MixS.drew {w W : World} {s : St} {p : List UInt8} (h : MixS w s p W) : MixS w s p W.drew := by
  obtain ⟨h1, h2, h3, h4, h5, h6⟩ := h
  exact ⟨h1, h2, h3, h4, h5.drew, h6⟩
theorem MixS.below {w W W' : World} {s : St} {p : List UInt8} (h : MixS w s p W) (hb : Below W.heap.size W W') : MixS w s p W' := by
  obtain ⟨h1, h2, h3, h4, h5, h6⟩ := h
  refine ⟨(hb.block _ (by omega)).trans h1, (hb.block _ (by omega)).trans h2, ?_, h4, h5.trans (hb.mono (by omega)), by have := hb.size; omega⟩
  obtain ⟨Z, hz, hs⟩ := h3
  exact ⟨Z, (hb.block _ (by omega)).trans hz, hs⟩
theorem MixS.alloc {w W : World} {s : St} {p : List UInt8} (h : MixS w s p W) (o : Obj) : MixS w s p (W.alloc o) := h.below ((Below.refl _ _).alloc (Nat.le_refl _) _)

theorem MixS.k {w W : World} {s : St} {p : List UInt8} (h : MixS w s p W) : KHeld W := KHeld_of h.2.2.2.1 h.2.2.2.2.1
theorem mix_setRow {w W : World} {s : St} {p : List UInt8} {g : Nat} (h : MixS w s p W) (hg : w.heap.size + 3 ≤ g) (cs : Array Value) : MixS w s p (W.setRow g cs) := by
  obtain ⟨h1, h2, ⟨Z, h3, hz⟩, h4, h5, h6⟩ := h
  refine ⟨row_other (by omega) h1, row_other (by omega) h2, ⟨Z, row_other (by omega) h3, hz⟩, h4, below_row1 h5 (by omega), by simpa using h6⟩

/-- The words of a state, by their places. -/
def sw (s : St) (j : Nat) : Wd := [s.a, s.b, s.c, s.d, s.e, s.f, s.g, s.h].getD j 0
theorem stA_at (s : St) (j : Nat) (hj : j < 8) : (stA s)[j]? = some (.int .u32 (vn (sw s j))) := by
  match j, hj with
  | 0, _ => rfl
  | 1, _ => rfl
  | 2, _ => rfl
  | 3, _ => rfl
  | 4, _ => rfl
  | 5, _ => rfl
  | 6, _ => rfl
  | 7, _ => rfl
def AddRel (w : World) (g : Nat) (s t : St) (v : Value) (W : World) : Prop :=
  ∃ (i : Nat) (cs : Array Value), i ≤ 8 ∧ v = .int .i64 (i : Int) ∧ cs.size = 8 ∧ (∀ j, j < 8 → cs[j]? = some (.int .u32 (vn (if j < i then sw s j + sw t j else sw s j)))) ∧
    W.heap[w.heap.size]? = some (.cells cs 35 (0, 0)) ∧ W.heap[g]? = some (.cells (stA t) 35 (0, 0)) ∧ Below w.heap.size w W

set_option maxRecDepth 100000 in
set_option maxHeartbeats 1000000 in
theorem mixed20 (s : St) (p : List UInt8) (w : World) (hl : p.length = 64) (hK : KHeld w) :
    Calls Tryd.prog 80 #[.agg (stA s), .agg (bA p)] w fun e w' => e = .returned (.agg (stA (blk p 0 s))) ∧ Below w.heap.size w w' := by
  have i46 : (Tryd.prog.info? 123).map (·.size) = some (bA p).size := by rw [bA_size, hl]; exact info46
  have i41 : (Tryd.prog.info? 35).map (·.size) = some (stA s).size := info41
  have hl7 : ∀ W, MixS w s p W → (Instr.loadAt 35 (.pointer (some ⟨w.heap.size, 0, none⟩))).run Tryd.prog W = .ok (.agg (stA s)) W := fun W h => load_row W _ 35 35 _ _ h.1 Tryd.underlying35 rfl i41
  have hl8 : ∀ W, MixS w s p W → (Instr.loadAt 123 (.pointer (some ⟨w.heap.size + 1, 0, none⟩))).run Tryd.prog W = .ok (.agg (bA p)) W := fun W h => load_row W _ 123 123 _ _ h.2.1 Tryd.underlying123 rfl i46
  have HL := Lib.hid hl
  have HL7 := Lib.hid hl7; have HL8 := Lib.hid hl8
  have HS := Lib.hid (show ∀ Z : Array Value, Z.size = 8 → MixS w s p (((w.alloc (.cells (stA s) 35)).alloc (.cells (bA p) 123)).alloc (.cells Z 35)) from fun Z hZ => by
    have t := @three_alloc w (.cells (stA s) 35) (.cells (bA p) 123) (.cells Z 35)
    exact ⟨t.1, t.2.1, ⟨_, t.2.2.1, hZ⟩, hK, t.2.2.2, by simp⟩)
  have HC25 := Lib.hid (fun W => schedule25 p W hl)
  have HC24 := Lib.hid (fun W (h : KHeld W) => rounds24 s _ (sch p 0 64) W (wrow_list _ 64 (sch_len _ _ _)) (sch_len _ _ _) h)
  clear hl hK hl7 hl8 i46 i41
  generalize ht : rnds (sch p 0 64) s 64 = t at *
  generalize hws : wrow (sch p 0 64) 64 = ws at *
  have HT := Lib.hid ht
  clear ht hws
  have ota : (stA t).all (·.oneCell') = true := stA_one t
  have hts : (8 : Nat) = (stA t).size := rfl
  have hit : (Tryd.prog.info? 35).map (·.size) = some (stA t).size := info41
  generalize hta : stA t = ta at *
  have HTA := Lib.hid hta; have HTS := Lib.hid hts; have HIT := Lib.hid hit
  clear hta hts hit
  generalize hsa : stA s = sa at *
  generalize hba : bA p = ba at *
  have HSA := Lib.hid hsa; have HBA := Lib.hid hba
  clear hsa hba
  go_enter Tryd.func80, Tryd.ntmps80
  go_wp2
  go_cut [5] from 7 to 10 (fun s5 wx => ∃ g, s5 = .pointer (some ⟨g, 0, none⟩) ∧ wx.heap[g]? = some (.cells ta 35 (0, 0)) ∧ w.heap.size + 3 ≤ g ∧ MixS w s p wx)
  case first =>
    rename_i J K' hJ hK'
    refine at_world (Φ := fun W => MixS w s p W) (HS.out _ rfl) ?_
    intro W hW
    refine wp_region_held_drew (S := fun W => MixS w s p W) (by kernel_rfl) hW.drew (fun hS => ?_)
    refine wpAnyH_take (i := 0) (v := .agg sa) rfl (by kernel_rfl) (by kernel_rfl) (by kernel_rfl) (fun _ _ _ h => h) (yieldsIf_load rfl 35 (.tmp 2) rfl _ _ rfl HL7.out) hS ?_
    refine wpAnyH_take (i := 1) (v := .agg ba) rfl (by kernel_rfl) (by kernel_rfl) (by kernel_rfl) (fun _ _ _ h => h) (yieldsIf_load rfl 123 (.tmp 3) rfl _ _ rfl HL8.out) hS ?_
    refine wpAnyH_ready (rs := [2, 4]) (by kernel_rfl) (by simp) ?_
    refine AllReadyH.cons rfl (fun K hK => ?_) (AllReadyH.cons rfl (fun K hK => ?_) AllReadyH.nil)
    · refine wanted_go rfl ?_
      go_wp2_with (go_at_call 84; refine (HC25.out _).mono ?_; rintro e w5 ⟨rfl, hb5⟩)
      refine hK.out _ _ (hS.below hb5) (fun hS5 => ?_)
      refine wpAnyH_ready (rs := [3, 4]) (by kernel_rfl) (by simp) ?_
      refine AllReadyH.cons rfl (fun K1 hK1 => ?_) (AllReadyH.cons rfl (fun K1 hK1 => ?_) AllReadyH.nil)
      · refine wanted_go rfl ?_
        go_wp2_with (go_at_call 83; refine (HC24.out _ (MixS.k ‹_›)).mono ?_; rintro e w4 ⟨rfl, hb4⟩)
        refine hK1.out _ _ (hS5.below hb4) (fun hS4 => ?_)
        refine wpAnyH_ready (rs := [4]) (by kernel_rfl) (by simp) ?_
        refine AllReadyH.cons rfl (fun K2 hK2 => ?_) AllReadyH.nil
        refine wanted_go rfl ?_
        go_wp2
        refine hK2.out _ _ (hS4.alloc _) (fun hSA => ?_)
        refine wpAnyH_ready (rs := [5]) (by kernel_rfl) (by simp) ?_
        refine AllReadyH.cons rfl (fun K3 hK3 => ?_) AllReadyH.nil
        refine step_store_row0 rfl rfl 35 (.tmp 5) (.tmp 10) rfl w4.heap.size ta rfl rfl 35 _ (heap_alloc_new _ _) HIT.out HTS.out ota ?_
        refine hK3.out _ _ (mix_setRow ‹_› hS4.2.2.2.2.2 _) (fun hSE => ?_)
        refine wpAnyH_done (by kernel_rfl) ?_ _
        refine hK' _ _ (Met.intro (hJ _ _ ?_))
        (repeat apply Exists.intro)
        exact ⟨⟨w4.heap.size, rfl, setRow_heap _ _ _ _ 35 (0, 0) (heap_alloc_new _ _), hS4.2.2.2.2.2, hSE⟩, rfl⟩

      · refine wanted_go rfl ?_
        go_wp2
        refine hK1.out _ _ (hS5.alloc _) (fun hSA => ?_)
        refine wpAnyH_ready (rs := [3]) (by kernel_rfl) (by simp) ?_
        refine AllReadyH.cons rfl (fun K2 hK2 => ?_) AllReadyH.nil
        refine wanted_go rfl ?_
        go_wp2_with (go_at_call 83; refine (HC24.out _ (MixS.k ‹_›)).mono ?_; rintro e w4 ⟨rfl, hb4⟩)
        refine hK2.out _ _ (hSA.below hb4) (fun hS4 => ?_)
        refine wpAnyH_ready (rs := [5]) (by kernel_rfl) (by simp) ?_
        refine AllReadyH.cons rfl (fun K3 hK3 => ?_) AllReadyH.nil
        refine step_store_row0 rfl rfl 35 (.tmp 5) (.tmp 10) rfl w5.heap.size ta rfl rfl 35 _ ((hb4.block _ (by simp)).trans (heap_alloc_new _ _)) HIT.out HTS.out ota ?_
        refine hK3.out _ _ (mix_setRow ‹_› hS5.2.2.2.2.2 _) (fun hSE => ?_)
        refine wpAnyH_done (by kernel_rfl) ?_ _
        refine hK' _ _ (Met.intro (hJ _ _ ?_))
        (repeat apply Exists.intro)
        exact ⟨⟨w5.heap.size, rfl, setRow_heap _ _ _ _ 35 (0, 0) ((hb4.block _ (by simp)).trans (heap_alloc_new _ _)), hS5.2.2.2.2.2, hSE⟩, rfl⟩

    · refine wanted_go rfl ?_
      go_wp2
      refine hK.out _ _ (hS.alloc _) (fun hSA => ?_)
      refine wpAnyH_ready (rs := [2]) (by kernel_rfl) (by simp) ?_
      refine AllReadyH.cons rfl (fun K1 hK1 => ?_) AllReadyH.nil
      refine wanted_go rfl ?_
      go_wp2_with (go_at_call 84; refine (HC25.out _).mono ?_; rintro e w5 ⟨rfl, hb5⟩)
      refine hK1.out _ _ (hSA.below hb5) (fun hS5 => ?_)
      refine wpAnyH_ready (rs := [3]) (by kernel_rfl) (by simp) ?_
      refine AllReadyH.cons rfl (fun K2 hK2 => ?_) AllReadyH.nil
      refine wanted_go rfl ?_
      go_wp2_with (go_at_call 83; refine (HC24.out _ (MixS.k ‹_›)).mono ?_; rintro e w4 ⟨rfl, hb4⟩)
      refine hK2.out _ _ (hS5.below hb4) (fun hS4 => ?_)
      refine wpAnyH_ready (rs := [5]) (by kernel_rfl) (by simp) ?_
      refine AllReadyH.cons rfl (fun K3 hK3 => ?_) AllReadyH.nil
      refine step_store_row0 rfl rfl 35 (.tmp 5) (.tmp 10) rfl W.heap.size ta rfl rfl 35 _ ((hb4.block _ (by have := hb5.size; simp at this; omega)).trans ((hb5.block _ (by simp)).trans (heap_alloc_new W.drew _))) HIT.out HTS.out ota ?_
      refine hK3.out _ _ (mix_setRow ‹_› hW.2.2.2.2.2 _) (fun hSE => ?_)
      refine wpAnyH_done (by kernel_rfl) ?_ _
      refine hK' _ _ (Met.intro (hJ _ _ ?_))
      (repeat apply Exists.intro)
      exact ⟨⟨W.heap.size, rfl, setRow_heap _ _ _ _ 35 (0, 0) ((hb4.block _ (by have := hb5.size; simp at this; omega)).trans ((hb5.block _ (by simp)).trans (heap_alloc_new W.drew _))), hW.2.2.2.2.2, hSE⟩, rfl⟩
  case rest =>
    obtain ⟨g, rfl, hg, hle, hS⟩ := hcut
    rw [← HTA.out] at hg
    clear HTS HIT ota
    have hadd := vn_add
    obtain ⟨h1, h2, ⟨Z, h3, hz⟩, h4, h5, h6⟩ := hS
    have HG := Lib.hid hg; have H1 := Lib.hid h1; have H3 := Lib.hid h3; have HZ := Lib.hid hz; have HB := Lib.hid h5
    clear hg h1 h2 h3 h4 h5 hz HC25 HC24 HL7 HL8 HS
    go_wp2
    go_loopw [11] (fun v W => AddRel w g s t v W ∧ W.heap[w.heap.size + 1 + 1]? = some (.cells Z 35 (0, 0))) (fun v _ => 8 - (intOf v).toNat)
    case atStart => exact ⟨⟨0, stA s, by omega, rfl, rfl, fun j hj => by rw [if_neg (by omega)]; exact stA_at s j hj, H1.out, HG.out, HB.out⟩, H3.out⟩
    case round =>
      obtain ⟨⟨i, cs, hi, rfl, hsz, hcs, h1, h2, h5⟩, h3⟩ := hrel
      clear HG H1 H3 HB
      have HG := Lib.hid h2; have H1 := Lib.hid h1; have H3 := Lib.hid h3; have HB := Lib.hid h5; have HSZ := Lib.hid hsz; have HCS := Lib.hid hcs
      clear h1 h2 h3 h5 hsz hcs
      by_cases hlt : i < 8
      · have hlt2 : (i : Int) < 8 := by omega
        have c1 : wr.cell? ⟨w.heap.size, i, none⟩ = some (.int .u32 (vn (sw s i))) := by
          rw [cell_of_row wr _ i cs 35 (0, 0) H1.out, HCS.out i hlt, if_neg (by omega)]
        have c2 : wr.cell? ⟨g, i, none⟩ = some (.int .u32 (vn (sw t i))) := by
          rw [cell_of_row wr _ i _ 35 (0, 0) HG.out, stA_at t i hlt]
        have f1 := free_of_blk H1.out i
        obtain ⟨x, hx⟩ : ∃ x, sw s i = x := ⟨_, rfl⟩
        obtain ⟨y, hy⟩ : ∃ y, sw t i = y := ⟨_, rfl⟩
        rw [hx] at c1; rw [hy] at c2
        have HX := Lib.hid hx; have HY := Lib.hid hy
        clear hx hy
        go_wp2
        go_still_tail 7, (by kernel_rfl)
        go_wp2
        go_roundw
        case rel =>
          refine ⟨⟨i + 1, cs.setIfInBounds i (.int .u32 (vn (x + y))), by omega, by go_num, by simp [HSZ.out], ?_, set_blk H1.out i _, ?_, ?_⟩, ?_⟩
          · intro j hj
            rw [Array.getElem?_setIfInBounds]
            by_cases hij : i = j
            · subst hij; rw [if_pos rfl, if_pos (by rw [HSZ.out]; exact hlt), if_pos (by omega), HX.out, HY.out]
            · rw [if_neg hij, HCS.out j hj]
              by_cases hji : j < i
              · rw [if_pos hji, if_pos (by omega)]
              · rw [if_neg hji, if_neg (by omega)]
          · exact (Below.heap_setCell _ _ _ _ (by simp; omega)).trans HG.out
          · exact (HB.out.setCell (by simp) _).drew
          · exact (Below.heap_setCell _ _ _ _ (by show _ ≠ _; simp; omega)).trans H3.out
        case measure => simp [intOf]; omega
      · have hi8 : (i : Int) = 8 := by omega
        have hcs : cs = stA (add8 s t) := by
          have i8 : i = 8 := by omega
          apply Array.ext_getElem?
          intro j
          by_cases hj : j < 8
          · rw [HCS.out j hj, if_pos (by omega), stA_at _ j hj]
            match j, hj with
            | 0, _ => rfl
            | 1, _ => rfl
            | 2, _ => rfl
            | 3, _ => rfl
            | 4, _ => rfl
            | 5, _ => rfl
            | 6, _ => rfl
            | 7, _ => rfl
          · rw [Array.getElem?_eq_none (by rw [HSZ.out]; omega), Array.getElem?_eq_none (by rw [stA_size]; omega)]
        have HR := Lib.hid hcs
        have HF := Lib.hid (show add8 s t = blk p 0 s by rw [blk, HT.out])
        have ho := Lib.hid (show cs.all (·.oneCell') = true by rw [hcs]; exact stA_one _)
        have hi1 := Lib.hid (show (Tryd.prog.info? 35).map (·.size) = some cs.size by rw [HSZ.out]; exact info41)
        have hz1 := Lib.hid (show Z.size = cs.size by rw [HZ.out, HSZ.out])
        clear hcs HCS HSZ
        rw [hi8]
        clear hi8 hlt hi hadd
        go_wp2_with (first
          | (refine wpList_load_row rfl 35 (.tmp 2) rfl w.heap.size rfl 35 cs (0, 0) _ H1.out Tryd.underlying35 rfl hi1.out ?_)
          | (refine wpList_store_row rfl 35 (.tmp 4) (.tmp 23) rfl (w.heap.size + 1 + 1) cs rfl rfl 35 Z H3.out hi1.out hz1.out ho.out ?_))
        refine bodyPost_ret (v := .agg cs) ?_ rfl ⟨by rw [HR.out, HF.out], ?_⟩
        · rw [results_cell rfl]
          exact results_run1 _ _ _ rfl (run_loadVar_row _ _ 35 35 cs (0, 0) _ (setRow_heap _ _ Z cs 35 (0, 0) H3.out) Tryd.underlying35 rfl hi1.out)
        · exact below_row1 HB.out (by omega)
end Go.Proofs.YtipaicfmodgcoaaDoor
