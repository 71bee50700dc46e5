/- The walk of EventPuts. -/
import Derived.Test.YtnakmlnjfjgghaaDoorEvEq
namespace Go.Proofs.YtnakmlnjfjgghaaDoor
open Go.RowKit Base

theorem wp_loadG {P : Program} {o : Oper} {a : Act} {w : World} {K : Act → World → Prop} {Q : Exit → Act → World → Prop} (ty : TypeId) (x : Operand) (ho : o.op = .load ty x)
    (p v : Value) (hx : a.eval x = p) (hr : (Instr.loadAt ty p).run P w = .ok v w) (h : K (a.put o.dst v) w) : o.wp P a w K Q := by
  unfold Oper.wp execOp
  simp only [ho, hx, Sem.run_bind, Sem.run_pure, hr, Result.andThen_ok]
  exact h
theorem wpList_loadG {P : Program} {ops : Array Oper} {rest : List Oper} {o : Oper} {a : Act} {w : World} {Q : Exit → Act → World → Prop} (hw : Region.wanted o (yielded ops a.tmps) = true) (ty : TypeId) (x : Operand) (ho : o.op = .load ty x)
    (p v : Value) (hx : a.eval x = p) (hr : (Instr.loadAt ty p).run P w = .ok v w) (h : wpList P ops Q rest (a.put o.dst v) w) : wpList P ops Q (o :: rest) a w :=
  BigFrame.wpList_want hw fun _ hK => wp_loadG ty x ho p v hx hr (hK _ _ h)
theorem load_row {W : World} {g T : Nat} {R : Array Value} {fs : Array Field} (hg : W.heap[g]? = some (.cells R T (0, 0))) (hu : Tryd.prog.underlying T = some (.struct fs)) (hi : (Tryd.prog.info? T).map (·.size) = some R.size) :
    (Instr.loadAt T (.pointer (some ⟨g, 0, none⟩))).run Tryd.prog W = .ok (.agg R) W := by
  simp only [Instr.loadAt, Instr.sureAddr, Sem.run_bind, Sem.run_pure, Result.andThen_ok, run_loadVar_row W g T T R (0, 0) (.struct fs) hg hu rfl hi]
/-- The event, the verdict of a pair, where the pair lies. -/
theorem load_ev (l : List Int) (h : l.length = 9) (W : World) (g : Nat) (hg : W.heap[g]? = some (.cells (rowI l) 27 (0, 0))) : (Instr.loadAt 23 (.pointer (some ⟨g, 0, none⟩))).run Tryd.prog W = .ok (.agg (rowI (l.take 7))) W := by
  refine load_at W g 0 23 ((l.take 7).map (Value.int .i64)) _ (fun j v hj => ?_) Tryd.underlying23 rfl (by rw [List.length_map, List.length_take, h]; kernel_rfl)
  rw [cell_of_row W g _ _ 27 (0, 0) hg]
  have hj2 : j < 7 := by
    have := (List.getElem?_eq_some_iff.1 hj).1
    simp [h] at this; omega
  simpa [rowI, hj2] using hj
theorem load_ve (l : List Int) (h : l.length = 9) (W : World) (g : Nat) (hg : W.heap[g]? = some (.cells (rowI l) 27 (0, 0))) : (Instr.loadAt 25 (.pointer (some ⟨g, 7, none⟩))).run Tryd.prog W = .ok (.agg (rowI (l.drop 7))) W := by
  refine load_at W g 7 25 ((l.drop 7).map (Value.int .i64)) _ (fun j v hj => ?_) Tryd.underlying25 rfl (by rw [List.length_map, List.length_drop, h]; kernel_rfl)
  rw [cell_of_row W g _ _ 27 (0, 0) hg]
  simpa [rowI, Nat.add_comm] using hj

set_option maxRecDepth 100000 in
set_option maxHeartbeats 8000000 in
theorem walk3 (l : List Int) (hl : l.length = 9) (w : World) (hin : In64L l) (hK : KHeld w) : Calls Tryd.prog 3 #[.agg (rowI l)] w fun e w' => e = .returned (.bool true) ∧ Below w.heap.size w w' := by
  have hin7 : In64L (l.take 7) := fun x hx => hin x (List.mem_of_mem_take hx)
  have hin2 : In64L (l.drop 7) := fun x hx => hin x (List.mem_of_mem_drop hx)
  have l7 : (l.take 7).length = 7 := by simp [hl]
  have l2 : (l.drop 7).length = 2 := by simp [hl]
  have HK := Lib.hid hK
  have HA := Lib.hid (fun (W : World) (h : KHeld W) => alive6 W h)
  have M7 := Lib.hid (fun (W : World) (g : Nat) (h : W.heap[g]? = some (.cells (rowI l) 27 (0, 0))) => load_ev l hl W g h)
  have M2 := Lib.hid (fun (W : World) (g : Nat) (h : W.heap[g]? = some (.cells (rowI l) 27 (0, 0))) => load_ve l hl W g h)
  have I9 : Hid ((Tryd.prog.info? 27).map (·.size) = some (rowI l).size) := by show _ = _; rw [rowI_size, hl]; kernel_rfl
  have I7 : Hid ((Tryd.prog.info? 23).map (·.size) = some (rowI (l.take 7)).size) := by show _ = _; rw [rowI_size, l7]; kernel_rfl
  have I2 : Hid ((Tryd.prog.info? 25).map (·.size) = some (rowI (l.drop 7)).size) := by show _ = _; rw [rowI_size, l2]; kernel_rfl
  have P7 := Lib.hid (fun (W : World) => put7R _ l7 hin7 W)
  have P2 := Lib.hid (fun (W : World) => put8R _ l2 hin2 W)
  have P9 := Lib.hid (fun (W : World) => put9R _ hl hin W)
  have Q7 := Lib.hid (fun (W : World) => rput13R _ l7 hin7 W)
  have Q2 := Lib.hid (fun (W : World) => rput14R _ l2 hin2 W)
  have Q9 := Lib.hid (fun (W : World) => rput15R _ hl hin W)
  have s7 : (encS (l.take 7)).size ≤ 1000000 := by have := encS_size (l.take 7); omega
  have s2 : (encS (l.drop 7)).size ≤ 1000000 := by have := encS_size (l.drop 7); omega
  have s9 : (encS l).size ≤ 1000000 := by have := encS_size l; omega
  have e7 := getN_enc _ hin7
  have e2 := getN_enc _ hin2
  have e9 := getN_enc _ hin
  rw [l7] at e7; rw [l2] at e2; rw [hl] at e9
  have g7 := fun (W : World) => get10 _ W s7
  have g2 := fun (W : World) => get11 _ W s2
  have g9 := fun (W : World) => get12 _ W s9
  rw [e7] at g7; rw [e2] at g2; rw [e9] at g9
  have G7 := Lib.hid g7; have G2 := Lib.hid g2; have G9 := Lib.hid g9
  have E7 := eqR23 _ l7; have E2 := eqR25 _ l2; have E9 := eqR27 _ hl
  have O7 := Lib.hid (rowI_one (l.take 7)); have O2 := Lib.hid (rowI_one (l.drop 7)); have O9 := Lib.hid (rowI_one l)
  have Z7 : Hid (7 = (rowI (l.take 7)).size) := by show _ = _; rw [rowI_size, l7]
  have Z2 : Hid (2 = (rowI (l.drop 7)).size) := by show _ = _; rw [rowI_size, l2]
  have Z9 : Hid (9 = (rowI l).size) := by show _ = _; rw [rowI_size, hl]
  simp only at G7 G2 G9
  generalize encS (l.take 7) = x7 at *
  generalize encS (l.drop 7) = x2 at *
  generalize encS l = x9 at *
  generalize rowI (l.take 7) = R7 at *
  generalize rowI (l.drop 7) = R2 at *
  have HN : Hid (Stand w [(w.heap.size, rowI l, 27)] (w.alloc (.cells (rowI l) 27))) := by
    refine ⟨fun x hx => ?_, (Below.refl _ w).alloc (Nat.le_refl _) _⟩
    simp at hx
    subst hx
    exact heap_alloc_new w _
  generalize rowI l = R9 at *
  have HK1 : Hid (KHeld (w.alloc (.cells R9 27))) := HK.out.below HN.out.2
  clear hin hin7 hin2 l7 l2 hl s7 s2 s9 e7 e2 e9 g7 g2 g9 hK HK
  go_enter Tryd.func3, Tryd.ntmps3
  go_upto_region 3 with (go_at_call 6; refine (HA.out _ HK1.out).mono ?_; rintro e w1 ⟨rfl, hb⟩; have HS1 := Lib.hid (HN.out.below hb); clear hb)
  clear HA HK1 HN
  generalize w.heap.size = q at *
  have HD := Lib.hid (HS1.out.below (Below.refl _ w1).drew)
  clear HS1
  refine wp_region_held_drew (S := fun W => Stand w [(q, R9, 27)] W) (by kernel_rfl) (HD.out) (fun hS => ?_)
  refine wpAnyH_take (i := 0) (v := .pointer (some ⟨q, 0, none⟩)) rfl (by kernel_rfl) (by kernel_rfl) (by kernel_rfl) (fun _ _ _ h => h) (Or.inl ⟨by simp [Region.wanted], fun W _ => by go_simp⟩) hS ?_
  simp only [List.getElem_toArray, List.getElem_cons_zero, Act.put, List.setIfInBounds_toArray, List.set_cons_zero, List.set_cons_succ]
  refine wpAnyH_take (i := 1) (v := .agg R7) rfl (by kernel_rfl) (by kernel_rfl) (by kernel_rfl) (fun _ _ _ h => h) (yieldsIf_load rfl 23 (.tmp 14) rfl _ _ rfl (fun W hW => M7.out W q (hW.1 (q, R9, 27) (by simp)))) hS ?_
  simp only [List.getElem_toArray, List.getElem_cons_zero, List.getElem_cons_succ, Act.put, List.setIfInBounds_toArray, List.set_cons_zero, List.set_cons_succ]
  refine wpAnyH_take (i := 3) (v := .pointer (some ⟨q, 7, none⟩)) rfl (by kernel_rfl) (by kernel_rfl) (by kernel_rfl) (fun _ _ _ h => h) (Or.inl ⟨by simp [Region.wanted], fun W _ => by go_simp⟩) hS ?_
  simp only [List.getElem_toArray, List.getElem_cons_zero, List.getElem_cons_succ, Act.put, List.setIfInBounds_toArray, List.set_cons_zero, List.set_cons_succ]
  refine wpAnyH_take (i := 4) (v := .agg R2) rfl (by kernel_rfl) (by kernel_rfl) (by kernel_rfl) (fun _ _ _ h => h) (yieldsIf_load rfl 25 (.tmp 17) rfl _ _ rfl (fun W hW => M2.out W q (hW.1 (q, R9, 27) (by simp)))) hS ?_
  simp only [List.getElem_toArray, List.getElem_cons_zero, List.getElem_cons_succ, Act.put, List.setIfInBounds_toArray, List.set_cons_zero, List.set_cons_succ]
  refine wpAnyH_take (i := 6) (v := .agg R9) rfl (by kernel_rfl) (by kernel_rfl) (by kernel_rfl) (fun _ _ _ h => h) (yieldsIf_load rfl 27 (.tmp 1) rfl _ _ rfl (fun W hW => load_row (hW.1 (q, R9, 27) (by simp)) Tryd.underlying27 I9.out)) hS ?_
  simp only [List.getElem_toArray, List.getElem_cons_zero, List.getElem_cons_succ, Act.put, List.setIfInBounds_toArray, List.set_cons_zero, List.set_cons_succ]
  refine wpAnyH_ready (rs := [2]) (by kernel_rfl) (by simp) ?_
  refine AllReadyH.cons rfl (fun K1 hK1 => ?_) AllReadyH.nil
  refine wanted_go rfl ?_
  simp only [List.getElem_toArray, List.getElem_cons_zero, List.getElem_cons_succ]
  go_wp2_with (go_at_call 7; refine (P7.out _).mono ?_; rintro e v1 ⟨rfl, hb⟩; have HB1 := Lib.hid hb; clear hb)
  refine hK1.out _ _ (hS.below HB1.out) (fun hS1 => ?_)
  refine wpAnyH_ready (rs := [5]) (by kernel_rfl) (by simp) ?_
  refine AllReadyH.cons rfl (fun K2 hK2 => ?_) AllReadyH.nil
  refine wanted_go rfl ?_
  simp only [List.getElem_toArray, List.getElem_cons_zero, List.getElem_cons_succ]
  go_wp2_with (go_at_call 8; refine (P2.out _).mono ?_; rintro e v2 ⟨rfl, hb⟩; have HB2 := Lib.hid hb; clear hb)
  refine hK2.out _ _ (hS1.below HB2.out) (fun hS2 => ?_)
  refine wpAnyH_ready (rs := [7]) (by kernel_rfl) (by simp) ?_
  refine AllReadyH.cons rfl (fun K3 hK3 => ?_) AllReadyH.nil
  refine wanted_go rfl ?_
  simp only [List.getElem_toArray, List.getElem_cons_zero, List.getElem_cons_succ]
  go_wp2_with (go_at_call 9; refine (P9.out _).mono ?_; rintro e v3 ⟨rfl, hb⟩; have HB3 := Lib.hid hb; clear hb)
  refine hK3.out _ _ (hS2.below HB3.out) (fun hS3 => ?_)
  refine wpAnyH_take (i := 8) (v := .string x7) rfl (by kernel_rfl) (by kernel_rfl) (by kernel_rfl) (fun _ _ _ h => h) (Or.inl ⟨by simp [Region.wanted], fun W _ => by go_simp⟩) hS3 ?_
  simp only [List.getElem_toArray, List.getElem_cons_zero, List.getElem_cons_succ, Act.put, List.setIfInBounds_toArray, List.set_cons_zero, List.set_cons_succ]
  refine wpAnyH_take (i := 9) (v := .string x2) rfl (by kernel_rfl) (by kernel_rfl) (by kernel_rfl) (fun _ _ _ h => h) (Or.inl ⟨by simp [Region.wanted], fun W _ => by go_simp⟩) hS3 ?_
  simp only [List.getElem_toArray, List.getElem_cons_zero, List.getElem_cons_succ, Act.put, List.setIfInBounds_toArray, List.set_cons_zero, List.set_cons_succ]
  refine wpAnyH_take (i := 10) (v := .string x9) rfl (by kernel_rfl) (by kernel_rfl) (by kernel_rfl) (fun _ _ _ h => h) (Or.inl ⟨by simp [Region.wanted], fun W _ => by go_simp⟩) hS3 ?_
  simp only [List.getElem_toArray, List.getElem_cons_zero, List.getElem_cons_succ, Act.put, List.setIfInBounds_toArray, List.set_cons_zero, List.set_cons_succ]
  refine wpAnyH_done (by kernel_rfl) ?_ _
  have HS3 := Lib.hid hS3
  clear hS hS1 hS2 hS3 HD P7 P2 P9
  go_upto_region 5 with (first
    | (go_at_call 10; refine (G7.out _).mono ?_; rintro e v1 ⟨rfl, hb⟩; have HT := Lib.hid (HS3.out.below hb); clear hb)
    | (refine wpList_store_row rfl 23 (.tmp 6) (.tmp 25) rfl v1.heap.size R7 rfl rfl 23 #[Value.int .i64 0, Value.int .i64 0, Value.int .i64 0, Value.int .i64 0, Value.int .i64 0, Value.int .i64 0, Value.int .i64 0] (heap_alloc_new v1 _) I7.out Z7.out O7.out ?_))
  have hT := HT.out.push 23 #[Value.int .i64 0, Value.int .i64 0, Value.int .i64 0, Value.int .i64 0, Value.int .i64 0, Value.int .i64 0, Value.int .i64 0] R7
  generalize v1.heap.size = q0 at *
  refine at_world (Φ := fun W => Stand w [(q0, R7, 23), (q, R9, 27)] W) hT ?_
  clear hT HT HS3 G7
  rintro w4 hT
  have HS4 := Lib.hid hT
  clear hT
  go_upto_region 6 with (first
    | (go_at_call 11; refine (G2.out _).mono ?_; rintro e v1 ⟨rfl, hb⟩; have HT := Lib.hid (HS4.out.below hb); clear hb)
    | (refine wpList_store_row rfl 25 (.tmp 8) (.tmp 30) rfl v1.heap.size R2 rfl rfl 25 #[Value.int .i64 0, Value.int .i64 0] (heap_alloc_new v1 _) I2.out Z2.out O2.out ?_))
  have hT := HT.out.push 25 #[Value.int .i64 0, Value.int .i64 0] R2
  generalize v1.heap.size = q1 at *
  refine at_world (Φ := fun W => Stand w [(q1, R2, 25), (q0, R7, 23), (q, R9, 27)] W) hT ?_
  clear hT HT HS4 G2
  rintro w5 hT
  have HS5 := Lib.hid hT
  clear hT
  go_upto_region 7 with (first
    | (go_at_call 12; refine (G9.out _).mono ?_; rintro e v1 ⟨rfl, hb⟩; have HT := Lib.hid (HS5.out.below hb); clear hb)
    | (refine wpList_store_row rfl 27 (.tmp 10) (.tmp 35) rfl v1.heap.size R9 rfl rfl 27 #[Value.int .i64 0, Value.int .i64 0, Value.int .i64 0, Value.int .i64 0, Value.int .i64 0, Value.int .i64 0, Value.int .i64 0, Value.int .i64 0, Value.int .i64 0] (heap_alloc_new v1 _) I9.out Z9.out O9.out ?_))
  have hT := HT.out.push 27 #[Value.int .i64 0, Value.int .i64 0, Value.int .i64 0, Value.int .i64 0, Value.int .i64 0, Value.int .i64 0, Value.int .i64 0, Value.int .i64 0, Value.int .i64 0] R9
  generalize v1.heap.size = q2 at *
  refine at_world (Φ := fun W => Stand w [(q2, R9, 27), (q1, R2, 25), (q0, R7, 23), (q, R9, 27)] W) hT ?_
  clear hT HT HS5 G9
  rintro w6 hT
  have HS6 := Lib.hid hT
  clear hT
  go_wp2_with (first
    | ((with_reducible refine atLoad (ty := 23) (x := .tmp 38) rfl ?_); have hq := HS6.out.1 (q, R9, 27) (by simp); refine wpList_loadG (by rfl) 23 (.tmp 38) rfl (.pointer (some ⟨q, 0, none⟩)) (.agg R7) rfl (M7.out _ q hq) ?_; clear hq)
    | ((with_reducible refine atLoad (ty := 25) (x := .tmp 44) rfl ?_); have hq := HSa.out.1 (q, R9, 27) (by simp); refine wpList_loadG (by rfl) 25 (.tmp 44) rfl (.pointer (some ⟨q, 7, none⟩)) (.agg R2) rfl (M2.out _ q hq) ?_; clear hq)
    | ((with_reducible refine atLoad (ty := 27) (x := .tmp 1) rfl ?_); have hq := HSc.out.1 (q, R9, 27) (by simp); refine wpList_loadG (by rfl) 27 (.tmp 1) rfl (.pointer (some ⟨q, 0, none⟩)) (.agg R9) rfl (load_row hq Tryd.underlying27 I9.out) ?_; clear hq)
    | ((with_reducible refine atLoad (ty := 27) (x := .tmp 1) rfl ?_); have hq := HSb.out.1 (q, R9, 27) (by simp); refine wpList_loadG (by rfl) 27 (.tmp 1) rfl (.pointer (some ⟨q, 0, none⟩)) (.agg R9) rfl (load_row hq Tryd.underlying27 I9.out) ?_; clear hq)
    | ((with_reducible refine atLoad (ty := 23) (x := .tmp 6) rfl ?_); have hq := HSc.out.1 (q0, R7, 23) (by simp); refine wpList_loadG (by rfl) 23 (.tmp 6) rfl (.pointer (some ⟨q0, 0, none⟩)) (.agg R7) rfl (load_row hq Tryd.underlying23 I7.out) ?_; clear hq)
    | ((with_reducible refine atLoad (ty := 23) (x := .tmp 61) rfl ?_); have hq := HSc.out.1 (q, R9, 27) (by simp); refine wpList_loadG (by rfl) 23 (.tmp 61) rfl (.pointer (some ⟨q, 0, none⟩)) (.agg R7) rfl (M7.out _ q hq) ?_; clear hq)
    | ((with_reducible refine atLoad (ty := 25) (x := .tmp 8) rfl ?_); have hq := HSc.out.1 (q1, R2, 25) (by simp); refine wpList_loadG (by rfl) 25 (.tmp 8) rfl (.pointer (some ⟨q1, 0, none⟩)) (.agg R2) rfl (load_row hq Tryd.underlying25 I2.out) ?_; clear hq)
    | ((with_reducible refine atLoad (ty := 25) (x := .tmp 71) rfl ?_); have hq := HSc.out.1 (q, R9, 27) (by simp); refine wpList_loadG (by rfl) 25 (.tmp 71) rfl (.pointer (some ⟨q, 7, none⟩)) (.agg R2) rfl (M2.out _ q hq) ?_; clear hq)
    | ((with_reducible refine atLoad (ty := 27) (x := .tmp 10) rfl ?_); have hq := HSc.out.1 (q2, R9, 27) (by simp); refine wpList_loadG (by rfl) 27 (.tmp 10) rfl (.pointer (some ⟨q2, 0, none⟩)) (.agg R9) rfl (load_row hq Tryd.underlying27 I9.out) ?_; clear hq)
    | (go_at_call 13; refine (Q7.out _).mono ?_; rintro x v7 ⟨rfl, hb⟩; have HSa := Lib.hid (HS6.out.below hb); clear hb)
    | (go_at_call 14; refine (Q2.out _).mono ?_; rintro x v8 ⟨rfl, hb⟩; have HSb := Lib.hid (HSa.out.below hb); clear hb)
    | (go_at_call 15; refine (Q9.out _).mono ?_; rintro x v9 ⟨rfl, hb⟩; have HSc := Lib.hid (HSb.out.below hb); clear hb))
  go_ret
  exact ⟨rfl, HSc.out.2⟩
end Go.Proofs.YtnakmlnjfjgghaaDoor
