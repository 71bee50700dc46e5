/- A new hash; its digest; how many bytes came: the contracts of New, Len, Sum of a hash, Sum of bytes. -/
import Derived.Test.YtipaicfmodgcoaaDoorShaWrite
namespace Go.Proofs.YtipaicfmodgcoaaDoor
open Go.RowKit

theorem built_st0 : Tryd.prog.built 35 [(0, .int .u32 1779033703), (1, .int .u32 3144134277), (2, .int .u32 1013904242), (3, .int .u32 2773480762), (4, .int .u32 1359893119), (5, .int .u32 2600822924), (6, .int .u32 528734635), (7, .int .u32 1541459225)] = some (stA st0) := by kernel_rfl
theorem built_new : Tryd.prog.built 125 [(0, .agg (stA st0))] = some (hC st0 (List.replicate 64 0) 0) := by kernel_rfl
theorem hash_new {W : World} {g : Nat} (h : W.heap[g]? = some (.cells (hC st0 (List.replicate 64 0) 0) 125 (0, 0))) : HashAt W g [] := ⟨List.replicate 64 0, tail_nil _ rfl, h⟩

set_option maxRecDepth 100000 in
set_option maxHeartbeats 1000000 in
theorem new12 (w : World) :
    Calls Tryd.prog 76 #[] w fun e w' => e = .returned (.pointer (some ⟨w.heap.size, 0, none⟩)) ∧ HashAt w' w.heap.size [] ∧ Below w.heap.size w w' ∧ w.heap.size < w'.heap.size := by
  have hb1 := built_st0
  have hb2 := built_new
  have hn : ∀ (W : World) (g : Nat), W.heap[g]? = some (.cells (hC st0 (List.replicate 64 0) 0) 125 (0, 0)) → HashAt W g [] := fun W g h => hash_new h
  generalize hC st0 (List.replicate 64 0) 0 = hc at *
  generalize stA st0 = sa at *
  have HB1 := Lib.hid hb1; have HB2 := Lib.hid hb2; have HN := Lib.hid hn
  clear hb1 hb2 hn
  go_enter Tryd.func76, Tryd.ntmps76
  go_wp2_with (first
    | (refine wpList_build_eq rfl 35 #[(0, .const (.int .u32 1779033703)), (1, .const (.int .u32 3144134277)), (2, .const (.int .u32 1013904242)), (3, .const (.int .u32 2773480762)), (4, .const (.int .u32 1359893119)), (5, .const (.int .u32 2600822924)), (6, .const (.int .u32 528734635)), (7, .const (.int .u32 1541459225))] rfl
        [(0, .int .u32 1779033703), (1, .int .u32 3144134277), (2, .int .u32 1013904242), (3, .int .u32 2773480762), (4, .int .u32 1359893119), (5, .int .u32 2600822924), (6, .int .u32 528734635), (7, .int .u32 1541459225)] sa (by simp [Act.eval]) HB1.out ?_)
    | (refine wpList_build_eq rfl 125 #[(0, .tmp 1)] rfl [(0, .agg sa)] hc (by simp [Act.eval, Act.put]) HB2.out ?_))
  go_ret
  exact ⟨rfl, HN.out _ _ (heap_alloc_new w _), (Below.refl _ w).alloc (Nat.le_refl _) _, by simp⟩

theorem sum_nil (w : World) : Calls Tryd.prog 78 #[.pointer none] w fun e w' => e = .returned (.string ⟨#[]⟩) ∧ w = w' := by
  go_enter Tryd.func78, Tryd.ntmps78
  go_wp2
  go_ret
  exact ⟨rfl, rfl⟩
theorem write_nil (s : ByteArray) (w : World) : Calls Tryd.prog 77 #[.pointer none, .string s] w fun e w' => e = .returned (.tuple #[]) ∧ w = w' := by
  go_enter Tryd.func77, Tryd.ntmps77
  go_wp2
  refine bodyPost_ret (v := .tuple #[]) (results_none rfl _ _ _) rfl ⟨rfl, rfl⟩

/-- The first words' bytes. -/
def outT (s : St) : Nat → List UInt8
  | 0 => []
  | i + 1 => outT s i ++ hf (sw s i).toNat 4
theorem outT_8 (s : St) : outT s 8 = outB s := by
  simp only [outT, outB, be4_hf]
  rfl
theorem wpList_load_eq {P : Program} {ops : Array Oper} {rest : List Oper} {op : Oper} {a : Act} {w : World} {Q : Exit → Act → World → Prop} (hgd : op.guard = none) (ty : TypeId) (x : Operand) (ho : op.op = .load ty x) (p v : Value) (hx : a.eval x = p)
    (hr : (Instr.loadAt ty p).run P w = .ok v w) (h : wpList P ops Q rest (a.put op.dst v) w) : wpList P ops Q (op :: rest) a w := by
  refine wpList_plain hgd fun _ hK => ?_
  unfold Oper.wp execOp
  simp only [ho, hx, Sem.run_bind, Sem.run_pure, hr, Result.andThen_ok]
  exact hK _ _ h
def SumRel (w : World) (base : Nat) (s : St) (v vi : Value) (W : World) : Prop :=
  ∃ i : Nat, i ≤ 8 ∧ vi = .int .i64 (i : Int) ∧ W.ownsRow base 5 1 v (4 * i) (Lib.byteCells (outT s i)) ∧ Below w.heap.size w W ∧ base ≤ W.heap.size
theorem info48 : (Tryd.prog.info? 125).map (·.size) = some 73 := by kernel_rfl
theorem hC_one (s : St) (b : List UInt8) (n : Nat) : (hC s b n).all (·.oneCell') = true := by
  refine all_oneCell_toArray fun v hv => ?_
  simp only [List.mem_append, List.mem_singleton] at hv
  rcases hv with (hv | hv) | rfl
  · exact (Array.all_eq_true_iff_forall_mem.1 (stA_one s)) v (by simpa using hv)
  · exact Lib.byteCells_one _ v hv
  · rfl
theorem zero48 (W : World) : ∃ Z : Array Value, Z.size = 73 ∧ (zeroValue 125).run Tryd.prog W = .ok (.agg Z) W := ⟨hC ⟨0, 0, 0, 0, 0, 0, 0, 0⟩ (List.replicate 64 0) 0, rfl, by kernel_rfl⟩

theorem size39 (W : World) : (sizeOf 33).run Tryd.prog W = .ok 1 W := by kernel_rfl
theorem index41 (cs : Array Value) (i : Nat) (v : Int) (h : cs[i]? = some (.int .u32 v)) (hi : i < 8) (W : World) : (Instr.index 35 (.agg cs) (.int .i64 (i : Int))).run Tryd.prog W = .ok (.int .u32 v) W := by
  have h1 : (0 : Int) ≤ (i : Int) ∧ (i : Int) < ((8 : Nat) : Int) := by omega
  simp only [Instr.index, asIntOf, Sem.run_bind, Sem.run_pure, Result.andThen_ok, run_underlying Tryd.underlying35, if_pos h1, size39]
  have e1 : (isAgg 33).run Tryd.prog W = .ok false W := by kernel_rfl
  simp [part, e1, Sem.run_bind, Result.andThen, h]

set_option maxRecDepth 100000 in
set_option maxHeartbeats 1000000 in
theorem sum13 (g : Nat) (all : List UInt8) (w : World) (hl : all.length ≤ 800000) (hh : HashAt w g all) (hK : KHeld w) :
    Calls Tryd.prog 78 #[.pointer (some ⟨g, 0, none⟩)] w fun e w' => e = .returned (.string ⟨(digB all).toArray⟩) ∧ Below w.heap.size w w' := by
  obtain ⟨b, ht, hb⟩ := hh
  have hsize := hash_size hb ht.1
  have hgl : g < w.heap.size := lt_of_block hb
  obtain ⟨hc, hhc⟩ : ∃ hc, hC (sOf all) b all.length = hc := ⟨_, rfl⟩
  have hhs : hc.size = 73 := by rw [← hhc]; exact hC_size _ _ _ ht.1
  have hho : hc.all (·.oneCell') = true := by rw [← hhc]; exact hC_one _ _ _
  have hhi : (Tryd.prog.info? 125).map (·.size) = some hc.size := by rw [hhs]; exact info48
  have hha : ∀ W : World, W.heap[w.heap.size]? = some (.cells hc 125 (0, 0)) → HashAt W w.heap.size all := fun W h => ⟨b, ht, by rw [hhc]; exact h⟩
  rw [hhc] at hb
  have hz : ∃ Z : Array Value, Z.size = 73 ∧ ∀ W, (zeroValue 125).run Tryd.prog W = .ok (.agg Z) W := ⟨hC ⟨0, 0, 0, 0, 0, 0, 0, 0⟩ (List.replicate 64 0) 0, rfl, fun W => by kernel_rfl⟩
  obtain ⟨Z, hZs, hZ⟩ := hz
  have HB := Lib.hid hb; have HHS := Lib.hid hhs; have HHI := Lib.hid hhi; have HHA := Lib.hid hha; have HZS := Lib.hid hZs
  obtain ⟨n, hn⟩ : ∃ n, all.length = n := ⟨_, rfl⟩
  rw [hn] at hsize hl
  have HN := Lib.hid hn
  have HK := Lib.hid hK
  have HC18 := Lib.hid (fun W => ending18 n W (by omega))
  clear hb ht hhs hhi hha hZs hn hhc hK
  go_enter Tryd.func78, Tryd.ntmps78
  go_upto_region 4 with (first
    | (refine wpList_load_row rfl 125 (.tmp 10) rfl g rfl 125 hc (0, 0) _ HB.out Tryd.underlying125 rfl HHI.out ?_)
    | (refine wpList_store_row rfl 125 (.tmp 3) (.tmp 11) rfl w.heap.size hc rfl rfl 125 Z (heap_alloc_new w _) HHI.out (by rw [HZS.out, HHS.out]) hho ?_))
  refine at_world (Φ := fun W => W.heap[w.heap.size]? = some (.cells hc 125 (0, 0)) ∧ Below w.heap.size w W ∧ w.heap.size < W.heap.size ∧ W.cell? ⟨g, 72, none⟩ = some (.int .u64 (n : Int))) ⟨setRow_heap _ _ _ _ 125 (0, 0) (heap_alloc_new w _), below_row1 ((Below.refl _ w).alloc (Nat.le_refl _) _) (Nat.le_refl _), by simp, ?_⟩ ?_
  · rw [(below_row1 ((Below.refl _ w).alloc (Nat.le_refl _) _) (Nat.le_refl _)).cell (p := ⟨g, 72, none⟩) hgl]; exact hsize
  rintro W ⟨h1, h2, h3, h4⟩
  have HW := Lib.hid h1; have HBW := Lib.hid h2; have HSW := Lib.hid h3
  have HKW := Lib.hid (KHeld_of HK.out h2)
  have HG0 := Lib.hid (show w.heap.size ≠ 0 by have := KHeld_pos HK.out; omega)
  have HEL := Lib.hid (show (⟨(endB n).toArray⟩ : ByteArray).size ≤ 1000 by show (endB n).toArray.size ≤ 1000; rw [List.size_toArray, endB_len]; unfold padn; omega)
  have HED := Lib.hid (show (⟨(endB n).toArray⟩ : ByteArray).data.toList = endB n by simp)
  have hm : ∀ W, (Instr.makeSlice 76 (.int .i64 0) (.int .i64 32)).run Tryd.prog W = .ok (.slice (some ⟨W.heap.size, 0, none⟩) 0 32) (W.alloc (.cells (madeCells #[.int .u8 0] 32) 5)) := fun W => make36 0 32 W (by omega) (by omega) _ _ rfl rfl _ _
  have hms : (madeCells #[.int .u8 0] 32).size = 32 * 1 := by simp [madeCells]
  generalize madeCells #[.int .u8 0] 32 = zc at *
  have HMS := Lib.hid hms
  generalize (⟨(endB n).toArray⟩ : ByteArray) = es at *
  clear h1 h2 h3 HB HK hZ hms hsize
  go_upto_region 5 with (first
    | (go_at_call 81; refine (HC18.out _).mono ?_; rintro e w1 ⟨rfl, hb1⟩; have HB1 := Lib.hid hb1; clear hb1)
    | (go_at_call 77; refine (write15 w.heap.size all es w1 (by rw [HN.out]; have := HEL.out; omega) (HHA.out _ ((HB1.out.block _ HSW.out).trans HW.out)) (KHeld_of HKW.out HB1.out) HG0.out).mono ?_; rintro e w2 ⟨rfl, hh2, hg2⟩; have HH2 := Lib.hid hh2; have HG2 := Lib.hid hg2; clear hh2 hg2))
  obtain ⟨b2, ht2, hb2⟩ := HH2.out
  rw [HED.out] at ht2 hb2
  have HOUT := Lib.hid (show outB (sOf (all ++ endB n)) = digB all by rw [dig_sOf, HN.out])
  obtain ⟨S, hS⟩ : ∃ S, sOf (all ++ endB n) = S := ⟨_, rfl⟩
  rw [hS] at hb2 HOUT
  clear hS ht2
  go_upto_region 6 with (fail)
  refine at_world (Φ := fun W3 => (Instr.loadAt 35 (.pointer (some ⟨w.heap.size, 0, none⟩))).run Tryd.prog W3 = .ok (.agg (stA S)) W3 ∧ W3.ownsRow w.heap.size 5 1 (.slice (some ⟨w2.heap.size, 0, none⟩) 0 32) 0 [] ∧ Below w.heap.size w W3 ∧ w.heap.size ≤ W3.heap.size) ⟨?_, ?_, ?_, ?_⟩ ?_
  · exact hash_state ((Below.heap_alloc _ _ _ (lt_of_block hb2)).trans hb2)
  · exact World.ownsRow_made w2 zc 32 (by have := HSW.out; have := HB1.out.size; have := HG2.out.size; omega) (by unfold maxLen; omega) HMS.out
  · exact ((((HBW.out.trans (HB1.out.mono (Nat.le_of_lt HSW.out)))).grown HG2.out (by have := HSW.out; have := HB1.out.size; omega) (by intro k hk; simp at hk; omega)).alloc (by have := HSW.out; have := HB1.out.size; have := HG2.out.size; omega) _)
  · have := HSW.out; have := HB1.out.size; have := HG2.out.size; simp; omega
  rintro W3 ⟨h1, h2, h3, h5⟩
  obtain ⟨sa, hsa⟩ : ∃ sa, stA S = sa := ⟨_, rfl⟩
  rw [hsa] at h1
  have HL := Lib.hid h1; have HO := Lib.hid h2; have HB := Lib.hid h3; have HS3 := Lib.hid h5; have HSA := Lib.hid hsa
  clear h1 h2 h3 h5 hb2 hsa h4 hm
  go_wp2_with (refine wpList_load_eq rfl 35 (.tmp 19) rfl _ _ rfl HL.out ?_)
  go_loopw [4, 21] (fun v vi W => SumRel w w.heap.size S v vi W) (fun _ vi _ => 8 - (intOf vi).toNat)
  case atStart => exact ⟨0, by omega, rfl, HO.out, HB.out, HS3.out⟩
  case round =>
    obtain ⟨i, hi, rfl, ho, hbl, hbs⟩ := hrel
    clear HO HB HS3
    have HO := Lib.hid ho; have HB := Lib.hid hbl; have HS3 := Lib.hid hbs
    clear ho hbl hbs
    by_cases hlt : i < 8
    · have hlt2 : (i : Int) < 8 := by omega
      have hat := stA_at S i hlt
      rw [HSA.out] at hat
      obtain ⟨x, hx⟩ : ∃ x, sw S i = x := ⟨_, rfl⟩
      rw [hx] at hat
      have HX := Lib.hid hx
      have hx1 := vn_lo x
      have hx2 := vn_hi x
      have hidx : ∀ W, (Instr.index 35 (.agg sa) (.int .i64 (i : Int))).run Tryd.prog W = .ok (.int .u32 (vn x)) W := fun W => index41 sa i _ hat hlt W
      clear hx hat
      have HC19 := Lib.hid (highest19 w.heap.size x.toNat 4 (4 * i) _ u4 wr (by have := x.isLt; omega) (by omega) (by omega) HO.out HS3.out)
      go_wp2_with (go_at_call 82; refine HC19.out.mono ?_; rintro e w5 ⟨v', rfl, hown, hb5⟩; have HO5 := Lib.hid hown; have HB5 := Lib.hid hb5; clear hown hb5)
      go_roundw
      case rel =>
        refine ⟨i + 1, by omega, by go_num, ?_, HB.out.trans (HB5.out.mono (Nat.le_refl _)), by have := HB5.out.size; have := HS3.out; omega⟩
        rw [outT, HX.out]
        exact HO5.out
      case measure => simp [intOf]; omega
    · have hi8 : i = 8 := by omega
      have HF := Lib.hid (show wr.ownsRow w.heap.size 5 1 u4 32 (Lib.byteCells (digB all)) by have h := HO.out; rw [hi8, outT_8, HOUT.out] at h; exact h)
      obtain ⟨g', cap', hv'⟩ := own_slice HF.out (by omega)
      subst hv'
      have hcv := conv_own HF.out
      clear hi8
      go_wp2
      go_ret
      exact ⟨rfl, HB.out⟩

set_option maxHeartbeats 1000000 in
/-- The digest of bytes. -/
theorem sum9 (s : ByteArray) (w : World) (hs : s.size ≤ 800000) (hK : KHeld w) :
    Calls Tryd.prog 68 #[.string s] w fun e w' => e = .returned (.string ⟨(digB s.data.toList).toArray⟩) ∧ Below w.heap.size w w' := by
  have HK := Lib.hid hK
  clear hK
  go_enter Tryd.func68, Tryd.ntmps68
  go_wp2_with (first
    | (go_at_call 76; refine (new12 w).mono ?_; rintro e w1 ⟨rfl, hh1, hb1, hs1⟩; have HH1 := Lib.hid hh1; have HB1 := Lib.hid hb1; have HS1 := Lib.hid hs1; clear hh1 hb1 hs1)
    | (go_at_call 77; refine (write15 w.heap.size [] s w1 (by simpa using Nat.le_trans hs (by omega)) HH1.out (KHeld_of HK.out HB1.out) (by have := KHeld_pos HK.out; omega)).mono ?_; rintro e w2 ⟨rfl, hh2, hg2⟩; have HH2 := Lib.hid hh2; have HG2 := Lib.hid hg2; clear hh2 hg2)
    | (go_at_call 78; refine (sum13 w.heap.size ([] ++ s.data.toList) w2 (by simpa using hs) HH2.out (KHeld_grown (KHeld_of HK.out HB1.out) (by have := KHeld_pos HK.out; omega) HG2.out)).mono ?_; rintro e w3 ⟨rfl, hb3⟩; have HB3 := Lib.hid hb3; clear hb3))
  go_ret
  exact ⟨rfl, (HB1.out.grown HG2.out (by have := HS1.out; omega) (by intro k hk; simp at hk; omega)).trans (HB3.out.mono (by have := HS1.out; have := HG2.out.size; omega))⟩
end Go.Proofs.YtipaicfmodgcoaaDoor
