/- The document's After: the contract. -/
import Derived.Test.YtmndkbfjmamnfaaMgRef4
import Derived.Test.YtmndkbfjmamnfaaMoneyOf
namespace Go.Proofs.Ytmndkbfjmamnfaa
open Go.RowKit Base Base2

theorem results_tmp4 {fn : Func} {t u v x : Tmp} (h : fn.results = #[.tmp t, .tmp u, .tmp v, .tmp x]) (tmps : Array Value) (P : Program) (w : World) :
    (results fn tmps).run P w = .ok (.tuple #[tmps.getD t undef, tmps.getD u undef, tmps.getD v undef, tmps.getD x undef]) w := by
  simp [results, h]
/-- Two great numbers in variables made one behind the other. -/
structure TwoB (W0 : World) (x y : Bool) (u v : Value) (a b : Int) (W : World) : Prop where
  b1 : BoxAt W W0.heap.size x u
  b2 : BoxAt W (W0.heap.size + 1) y v
  g1 : BigIs W (.agg #[.bool x, u]) a
  g2 : BigIs W (.agg #[.bool y, v]) b
  lo : Below W0.heap.size W0 W
theorem TwoB.below {W0 : World} {x y : Bool} {u v : Value} {a b : Int} {W W' : World} (h : TwoB W0 x y u v a b W) (hb : Below W.heap.size W W') : TwoB W0 x y u v a b W' := ⟨h.b1.below hb, h.b2.below hb, h.g1.below hb, h.g2.below hb, h.lo.trans (hb.mono h.lo.size)⟩
theorem TwoB.new {W0 : World} {x y : Bool} {u v : Value} {a b : Int} (h1 : BigIs W0 (.agg #[.bool x, u]) a) (h2 : BigIs W0 (.agg #[.bool y, v]) b) : TwoB W0 x y u v a b ((W0.alloc (.cells #[.bool x, u] 71)).alloc (.cells #[.bool y, v] 71)) := by
  obtain ⟨k1, k2, k3⟩ := BoxAt.new2 (w := W0) x y u v
  exact ⟨k1, k2, h1.below k3, h2.below k3, k3⟩
theorem TwoB.one {W0 : World} {x y x' : Bool} {p q p' : Option Addr} {k c l e k' c' : Nat} {a b a' : Int} {W : World} (s : TwoB W0 x y (.slice p k c) (.slice q l e) a b W) (hb : BigIs W (.agg #[.bool x', .slice p' k' c']) a') :
    TwoB W0 x' y (.slice p' k' c') (.slice q l e) a' b ((W.setCell ⟨W0.heap.size, 0, none⟩ (.bool x')).setCell ⟨W0.heap.size, 1, none⟩ (.slice p' k' c')) :=
  ⟨(s.b1.set0 x').set1 _, (s.b2.other (by omega)).other (by omega), (hb.boxCell s.b1 (i := 0) (.bool x')).boxCell (s.b1.set0 x') (i := 1) _, (s.g2.boxCell s.b1 (i := 0) (.bool x')).boxCell (s.b1.set0 x') (i := 1) _, (s.lo.setCell (p := ⟨_, 0, none⟩) (Nat.le_refl _) _).setCell (p := ⟨_, 1, none⟩) (Nat.le_refl _) _⟩
theorem TwoB.two {W0 : World} {x y y' : Bool} {p q p' : Option Addr} {k c l e k' c' : Nat} {a b b' : Int} {W : World} (s : TwoB W0 x y (.slice p k c) (.slice q l e) a b W) (hb : BigIs W (.agg #[.bool y', .slice p' k' c']) b') :
    TwoB W0 x y' (.slice p k c) (.slice p' k' c') a b' ((W.setCell ⟨W0.heap.size + 1, 0, none⟩ (.bool y')).setCell ⟨W0.heap.size + 1, 1, none⟩ (.slice p' k' c')) :=
  ⟨(s.b1.other (by omega)).other (by omega), (s.b2.set0 y').set1 _, (s.g1.boxCell s.b2 (i := 0) (.bool y')).boxCell (s.b2.set0 y') (i := 1) _, (hb.boxCell s.b2 (i := 0) (.bool y')).boxCell (s.b2.set0 y') (i := 1) _, (s.lo.setCell (p := ⟨_, 0, none⟩) (Nat.le_succ _) _).setCell (p := ⟨_, 1, none⟩) (Nat.le_succ _) _⟩
theorem left_fine {b : BookT} (hk : BookOk 2000 b) {a q p : Int} (d : Int) (hq : In64' q) (hp : In64' p) : Fine (leftT b a d q p) := by
  have h1 := cash_in hk.hs a
  have h2 := prod_nat hq hp
  unfold leftT
  rw [sg_mul]
  unfold In64' at h1
  split <;> exact fine_of (by omega)
theorem much_fine {b : BookT} (hk : BookOk 2000 b) {a s q : Int} (d : Int) (hq : In64' q) : Fine (muchT b a s d q) := by
  have h1 := stake_in hk.ss a s
  unfold muchT
  rw [sg_mul]
  unfold In64' at h1 hq
  split <;> exact fine_of (by omega)
set_option maxRecDepth 100000 in
set_option maxHeartbeats 8000000 in
theorem rafter17 (v : Slots) (b : BookT) (o0 acc sy d o4 o5 q pc : Int) (w : World) (hb : BookIn w v b) (hk : BookOk 2000 b) (hq : In64' q) (hpc : In64' pc) :
    Calls Try.prog 17 #[.agg (cellsB v b), .agg #[.int .i64 o0, .int .i64 acc, .int .i64 sy, .int .i64 d, .int .i64 o4, .int .i64 o5], .int .i64 q, .int .i64 pc] w fun e w' => e = .returned (.tuple #[.int .i64 (if sideB d then fitV (leftT b acc d q pc) else 0), .int .i64 (if sideB d then fitV (muchT b acc sy d q) else 0), .bool (sideB d && fitB (leftT b acc d q pc)), .bool (sideB d && fitB (muchT b acc sy d q))]) ∧ Below w.heap.size w w' := by
  obtain ⟨ob, hob⟩ : ∃ ob, #[Value.int .i64 o0, .int .i64 acc, .int .i64 sy, .int .i64 d, .int .i64 o4, .int .i64 o5] = ob := ⟨_, rfl⟩
  obtain ⟨W0, hW0⟩ : ∃ x, (w.alloc (.cells (cellsB v b) 27)).alloc (.cells #[Value.int .i64 o0, .int .i64 acc, .int .i64 sy, .int .i64 d, .int .i64 o4, .int .i64 o5] 37) = x := ⟨_, rfl⟩
  have hA : Below w.heap.size w W0 := by rw [← hW0]; exact ((Below.refl _ w).alloc (Nat.le_refl _) _).alloc (by simp) _
  have hN := two_new (W := w) (O := .cells (cellsB v b) 27) (P := .cells #[Value.int .i64 o0, .int .i64 acc, .int .i64 sy, .int .i64 d, .int .i64 o4, .int .i64 o5] 37)
  rw [hW0] at hN
  have hg : BoxB W0 w.heap.size v b := hN.1
  have ho := hN.2
  have HA := Lib.hid hA
  have HBI := Lib.hid (show BkIn w.heap.size v b W0 from ⟨hg, hb.below hA⟩)
  have HOP := Lib.hid (fun W (h : Below W0.heap.size W0 W) => show W.heap[w.heap.size + 1]? = some (.cells #[Value.int .i64 o0, .int .i64 acc, .int .i64 sy, .int .i64 d, .int .i64 o4, .int .i64 o5] 37 (0, 0)) from (h.block _ (blk_ltK ho)).trans ho)
  have HO1 := Lib.hid (fun W (h : Below W0.heap.size W0 W) => show W.cell? ⟨w.heap.size + 1, 1, none⟩ = some (.int .i64 acc) from by rw [cell_of_row _ _ _ _ _ _ (HOP.out W h)]; rfl)
  have HO2 := Lib.hid (fun W (h : Below W0.heap.size W0 W) => show W.cell? ⟨w.heap.size + 1, 2, none⟩ = some (.int .i64 sy) from by rw [cell_of_row _ _ _ _ _ _ (HOP.out W h)]; rfl)
  have HO3 := Lib.hid (fun W (h : Below W0.heap.size W0 W) => show W.cell? ⟨w.heap.size + 1, 3, none⟩ = some (.int .i64 d) from by rw [cell_of_row _ _ _ _ _ _ (HOP.out W h)]; rfl)
  have HLB := Lib.hid (fun W (h : Below W0.heap.size W0 W) => load_book (HBI.out.box h))
  obtain ⟨hp, hr, hs, hv⟩ := cash_form hk.hs acc
  have HH := Lib.hid (rholder18 v b acc W0 (hb.below hA) hk.hs)
  rw [hv] at HH
  have HST := Lib.hid (fun W (h : Below W0.heap.size W0 W) => show Calls Try.prog 40 #[.agg (cellsB v b), .int .i64 acc, .int .i64 sy] W fun e w' => e = .returned (.int .i64 (stakeOf b acc sy)) ∧ Below W.heap.size W w' from rstake22 v b acc sy W (HBI.out.book h) hk.ss)
  have ch64 := cash_in hk.hs acc
  have st64 := stake_in hk.ss acc sy
  have HLF := Lib.hid (left_fine hk (a := acc) d hq hpc).pow
  have HMF := Lib.hid (much_fine hk (a := acc) (s := sy) d hq).pow
  have HWO := Lib.hid (fun W => rmul34 q pc W hq hpc)
  have HPW := Lib.hid (prod_pow hq hpc)
  have HOQ := Lib.hid (fun W => of7 q W hq.1 hq.2)
  have HQW := Lib.hid (in64_pow hq)
  have HLT := Lib.hid (show leftT b acc d q pc = cashOf b acc + -(sgD d * (q * pc)) by unfold leftT; omega)
  have HMT := Lib.hid (show muchT b acc sy d q = stakeOf b acc sy + sgD d * q from rfl)
  generalize leftT b acc d q pc = lt at *
  generalize muchT b acc sy d q = mt at *
  generalize cashOf b acc = ch at *
  generalize stakeOf b acc sy = st at *
  generalize q * pc = qp at *
  have HCW := Lib.hid (in64_pow ch64)
  have HSW := Lib.hid (in64_pow st64)
  have HOC := Lib.hid (fun W => of7 ch W ch64.1 ch64.2)
  have HOS := Lib.hid (fun W => of7 st W st64.1 st64.2)
  obtain ⟨fe, hfe⟩ : ∃ x, Ending.returned (.tuple #[.int .i64 (if sideB d then fitV lt else 0), .int .i64 (if sideB d then fitV mt else 0), .bool (sideB d && fitB lt), .bool (sideB d && fitB mt)]) = x := ⟨_, rfl⟩
  have HFE := Lib.hid hfe
  rw [hfe]
  clear hfe hb hk hA hg hq hpc hv ch64 st64 ho hN hob ob
  generalize hCA : cellsB v b = CA at *
  have HCA := Lib.hid hCA
  clear hCA
  have o1 := HO1.out W0 (Below.refl _ _); have o2 := HO2.out W0 (Below.refl _ _); have o3 := HO3.out W0 (Below.refl _ _)
  by_cases hd : d = 0 ∨ d = 1
  case neg =>
    have d0 : d ≠ 0 := fun h => hd (.inl h)
    have d1 : d ≠ 1 := fun h => hd (.inr h)
    rw [side_no d0 d1] at HFE
    have g0 : (d != 0) = true := by simpa using d0
    have g1 : (d != 1) = true := by simpa using d1
    clear hd d0 d1
    go_enter Try.func17, Try.ntmps17
    go_wp2
    (try simp only [Exit.inBlock, Exit.then])
    refine bodyPost_ret (results_tmp4 rfl _ _ _) rfl ?_
    exact ⟨HFE.out, HA.out⟩
  have hsd : sideB d = true := by unfold sideB; rcases hd with h | h <;> simp [h]
  rw [hsd, if_pos rfl, if_pos rfl, Bool.true_and, Bool.true_and] at HFE
  clear hsd
  go_enter Try.func17, Try.ntmps17
  rcases hd with rfl | rfl
  · go_upto_region 5 with (first
      | ((with_reducible refine atLoad (ty := 27) (x := .tmp 4) rfl ?_); refine loadE (wanted_noneD rfl) 27 (.tmp 4) rfl _ (.agg CA) rfl (HLB.out _ (Below.refl _ _)) ?_)
      | (go_at_call 18; refine HH.out.mono ?_; rintro e w1 ⟨rfl, hb1⟩; have HB1 := Lib.hid hb1; clear hb1)
      | (go_at_call 34; refine (HWO.out _).mono ?_; rintro e w2 ⟨x0, p0, k0, c0, rfl, hbig, hb2⟩; have HG2 := Lib.hid hbig; have HB2 := Lib.hid hb2; clear hbig hb2)
      | (go_at_call 31; refine (HOQ.out _).mono ?_; rintro e w3 ⟨x3, p3, k3, c3, rfl, hbig, hb3⟩; have HG3 := Lib.hid hbig; have HB3 := Lib.hid hb3; clear hbig hb3))
    have h23 : Below w1.heap.size w1 w3 := ((((Below.refl _ w1).alloc (Nat.le_refl _) (.cells #[.int .i64 hp, .int .i64 ch, .int .i64 hr, .int .i64 hs] 45)).trans (HB2.out.mono (by simp))).trans (HB3.out.mono (by have := HB2.out.size; simp at this; omega)))
    have h03 : Below W0.heap.size W0 w3 := HB1.out.trans (h23.mono HB1.out.size)
    have hhc : w3.heap[w1.heap.size]? = some (.cells #[.int .i64 hp, .int .i64 ch, .int .i64 hr, .int .i64 hs] 45 (0, 0)) := by
      have e := heap_alloc_new w1 (.cells #[.int .i64 hp, .int .i64 ch, .int .i64 hr, .int .i64 hs] 45)
      exact (HB3.out.block _ (by have := HB2.out.size; simp at this; omega)).trans ((HB2.out.block _ (by simp)).trans e)
    have HHC := Lib.hid (fun (W : World) (h : Below w3.heap.size w3 W) => show W.cell? ⟨w1.heap.size, 1, none⟩ = some (.int .i64 ch) from by rw [cell_of_row _ _ _ _ _ _ ((h.block _ (blk_ltK hhc)).trans hhc)]; rfl)
    have HLW := Lib.hid (fun (W : World) (h : Below w3.heap.size w3 W) => show Below W0.heap.size W0 W from h03.trans (h.mono h03.size))
    refine at_world (Φ := fun W => TwoB w3 x0 x3 (.slice p0 k0 c0) (.slice p3 k3 c3) qp q W) (TwoB.new (HG2.out.below HB3.out) HG3.out) ?_
    clear h23 h03 hhc hW0 HB1 HB2 HB3 HG2 HG3 o1 o2 o3 HH HWO HOQ
    rintro W3 hM
    have HM1 := Lib.hid hM
    clear hM
    have o3 := HO3.out W3 (HLW.out _ HM1.out.lo)
    have c0' := HM1.out.b1.c0; have c1' := HM1.out.b1.c1; have f0' := HM1.out.b1.f 0; have f1' := HM1.out.b1.f 1
    have HNE := Lib.hid (fun v W h => neg14 v qp W h HPW.out)
    go_upto_region 8 with (go_at_call 41; refine (HNE.out _ _ HM1.out.g1).mono ?_; rintro e w4 ⟨x4, p4, k4, c4, rfl, hbig, hb4⟩; have HG4 := Lib.hid hbig; have HM4 := Lib.hid (HM1.out.below hb4); clear hbig hb4 c0' c1' f0' f1'; have c0' := HM4.out.b1.c0; have c1' := HM4.out.b1.c1; have f0' := HM4.out.b1.f 0; have f1' := HM4.out.b1.f 1)
    clear c0' c1' f0' f1' o3
    refine at_world (Φ := fun W => TwoB w3 x4 x3 (.slice p4 k4 c4) (.slice p3 k3 c3) (-(sgD 0 * qp)) (sgD 0 * q) W) (by rw [show sgD 0 * qp = qp by rw [sg_mul, if_neg (by decide)], show sgD 0 * q = q by rw [sg_mul, if_neg (by decide)]]; exact HM4.out.one HG4.out) ?_
    rintro W5 hM
    have HM5 := Lib.hid hM
    clear hM HM1 HM4 HG4 HNE
    have hfz : (-(sgD 0 * qp)).natAbs < 10000 ^ 100 := by rw [Int.natAbs_neg, sg_mul]; have := HPW.out; split <;> omega
    have hfy : (sgD 0 * q).natAbs < 10000 ^ 100 := by rw [sg_mul]; have := HQW.out; split <;> omega
    have HA1 := Lib.hid (fun (v1 v2 : Value) (W : World) (h1 : BigIs W v1 ch) (h2 : BigIs W v2 (-(sgD 0 * qp))) => add13 v1 v2 ch (-(sgD 0 * qp)) W h1 h2 HCW.out hfz)
    have HA2 := Lib.hid (fun (v1 v2 : Value) (W : World) (h1 : BigIs W v1 st) (h2 : BigIs W v2 (sgD 0 * q)) => add13 v1 v2 st (sgD 0 * q) W h1 h2 HSW.out hfy)
    rw [← HLT.out] at HA1
    rw [← HMT.out] at HA2
    have HF1 := Lib.hid (fun v1 W h => fits24 v1 lt W h HLF.out)
    have HF2 := Lib.hid (fun v1 W h => fits24 v1 mt W h HMF.out)
    clear hfz hfy
    generalize -(sgD 0 * qp) = za at *
    generalize sgD 0 * q = zb at *
    have HE := Lib.hid (HM5.out.below ((Below.refl _ W5).drew))
    clear HM5
    refine wp_region_held_drew (S := fun W => TwoB w3 x4 x3 (.slice p4 k4 c4) (.slice p3 k3 c3) za zb W) (by kernel_rfl) HE.out (fun hS => ?_)
    refine wpAnyH_take (i := 0) (v := .pointer (some ⟨w1.heap.size, 1, none⟩)) rfl (by kernel_rfl) (by kernel_rfl) (by kernel_rfl) (fun _ _ _ h => h) (Or.inl ⟨by simp [Region.wanted], fun W _ => by go_simp⟩) hS ?_
    simp only [List.getElem_toArray, List.getElem_cons_zero, Act.put, List.setIfInBounds_toArray, List.set_cons_zero, List.set_cons_succ]
    refine wpAnyH_take (i := 1) (v := .int .i64 ch) rfl (by kernel_rfl) (by kernel_rfl) (by kernel_rfl) (fun _ _ _ h => h) (Or.inl ⟨by simp [Region.wanted], fun W hW => by have h1 := HHC.out W hW.lo; go_simp⟩) hS ?_
    simp only [List.getElem_toArray, List.getElem_cons_zero, List.getElem_cons_succ, Act.put, List.setIfInBounds_toArray, List.set_cons_zero, List.set_cons_succ]
    refine wpAnyH_take (i := 3) (v := .agg #[.bool x4, .slice p4 k4 c4]) rfl (by kernel_rfl) (by kernel_rfl) (by kernel_rfl) (fun _ _ _ h => h) (Or.inl ⟨by simp [Region.wanted], fun W hW => by have h1 := hW.b1.c0; have h2 := hW.b1.c1; go_simp⟩) hS ?_
    simp only [List.getElem_toArray, List.getElem_cons_zero, List.getElem_cons_succ, Act.put, List.setIfInBounds_toArray, List.set_cons_zero, List.set_cons_succ]
    refine wpAnyH_ready (rs := [2]) (by kernel_rfl) (by simp) ?_
    refine AllReadyH.cons rfl (fun K hK => ?_) AllReadyH.nil
    refine wanted_go rfl ?_
    simp only [List.getElem_toArray, List.getElem_cons_zero, List.getElem_cons_succ]
    go_wp2_with (go_at_call 31; refine (HOC.out _).mono ?_; rintro e v5 ⟨x5, p5, k5, c5, rfl, hbig, hb5⟩; have HG5 := Lib.hid hbig; have HS5 := Lib.hid (hS.below hb5); clear hbig hb5)
    refine hK.out _ _ (HS5.out) (fun _ => ?_)
    refine wpAnyH_ready (rs := [4]) (by kernel_rfl) (by simp) ?_
    refine AllReadyH.cons rfl (fun K hK => ?_) AllReadyH.nil
    refine wanted_go rfl ?_
    simp only [List.getElem_toArray, List.getElem_cons_zero, List.getElem_cons_succ]
    go_wp2_with (go_at_call 33; refine (HA1.out _ _ _ HG5.out HS5.out.g1).mono ?_; rintro e v6 ⟨x6, p6, k6, c6, rfl, hbig, hb6⟩; have HG6 := Lib.hid hbig; have HS6 := Lib.hid (HS5.out.below hb6); clear hbig hb6)
    refine hK.out _ _ (HS6.out) (fun _ => ?_)
    refine wpAnyH_ready (rs := [5]) (by kernel_rfl) (by simp) ?_
    refine AllReadyH.cons rfl (fun K hK => ?_) AllReadyH.nil
    refine wanted_go rfl ?_
    simp only [List.getElem_toArray, List.getElem_cons_zero, List.getElem_cons_succ]
    go_wp2_with (go_at_call 35; refine (HF1.out _ _ HG6.out).mono ?_; rintro e v7 ⟨rfl, hb7⟩; have HS7 := Lib.hid (HS6.out.below hb7); clear hb7)
    refine hK.out _ _ (HS7.out) (fun _ => ?_)
    refine wpAnyH_take (i := 6) (v := .tuple #[.int .i64 (fitV lt), .bool (fitB lt)]) rfl (by kernel_rfl) (by kernel_rfl) (by kernel_rfl) (fun _ _ _ h => h) (Or.inl ⟨by simp [Region.wanted], fun W _ => by go_simp⟩) HS7.out ?_
    simp only [List.getElem_toArray, List.getElem_cons_zero, List.getElem_cons_succ, Act.put, List.setIfInBounds_toArray, List.set_cons_zero, List.set_cons_succ]
    refine wpAnyH_take (i := 7) (v := .int .i64 (fitV lt)) rfl (by kernel_rfl) (by kernel_rfl) (by kernel_rfl) (fun _ _ _ h => h) (Or.inl ⟨by simp [Region.wanted], fun W _ => by go_simp⟩) HS7.out ?_
    simp only [List.getElem_toArray, List.getElem_cons_zero, List.getElem_cons_succ, Act.put, List.setIfInBounds_toArray, List.set_cons_zero, List.set_cons_succ]
    refine wpAnyH_take (i := 8) (v := .bool (fitB lt)) rfl (by kernel_rfl) (by kernel_rfl) (by kernel_rfl) (fun _ _ _ h => h) (Or.inl ⟨by simp [Region.wanted], fun W _ => by go_simp⟩) HS7.out ?_
    simp only [List.getElem_toArray, List.getElem_cons_zero, List.getElem_cons_succ, Act.put, List.setIfInBounds_toArray, List.set_cons_zero, List.set_cons_succ]
    refine wpAnyH_take (i := 9) (v := .int .i64 (fitV lt)) rfl (by kernel_rfl) (by kernel_rfl) (by kernel_rfl) (fun _ _ _ h => h) (Or.inl ⟨by simp [Region.wanted], fun W _ => by go_simp⟩) HS7.out ?_
    simp only [List.getElem_toArray, List.getElem_cons_zero, List.getElem_cons_succ, Act.put, List.setIfInBounds_toArray, List.set_cons_zero, List.set_cons_succ]
    refine wpAnyH_take (i := 10) (v := .bool (fitB lt)) rfl (by kernel_rfl) (by kernel_rfl) (by kernel_rfl) (fun _ _ _ h => h) (Or.inl ⟨by simp [Region.wanted], fun W _ => by go_simp⟩) HS7.out ?_
    simp only [List.getElem_toArray, List.getElem_cons_zero, List.getElem_cons_succ, Act.put, List.setIfInBounds_toArray, List.set_cons_zero, List.set_cons_succ]
    refine wpAnyH_done (by kernel_rfl) ?_ _
    go_upto_region 9 with (fail)
    have HN := Lib.hid (HS7.out.below ((Below.refl _ v7).drew))
    clear HS7 HS6 HS5 HE HG5 HG6 hS
    refine wp_region_held_drew (S := fun W => TwoB w3 x4 x3 (.slice p4 k4 c4) (.slice p3 k3 c3) za zb W) (by kernel_rfl) HN.out (fun hS => ?_)
    refine wpAnyH_take (i := 0) (v := .agg CA) rfl (by kernel_rfl) (by kernel_rfl) (by kernel_rfl) (fun _ _ _ h => h) (yieldsIf_load rfl 27 (.tmp 4) rfl (.pointer (some ⟨w.heap.size, 0, none⟩)) _ rfl (fun W hW => HLB.out W (HLW.out W hW.lo))) hS ?_
    simp only [List.getElem_toArray, List.getElem_cons_zero, Act.put, List.setIfInBounds_toArray, List.set_cons_zero, List.set_cons_succ]
    refine wpAnyH_take (i := 1) (v := .pointer (some ⟨w.heap.size + 1, 1, none⟩)) rfl (by kernel_rfl) (by kernel_rfl) (by kernel_rfl) (fun _ _ _ h => h) (Or.inl ⟨by simp [Region.wanted], fun W _ => by go_simp⟩) hS ?_
    simp only [List.getElem_toArray, List.getElem_cons_zero, List.getElem_cons_succ, Act.put, List.setIfInBounds_toArray, List.set_cons_zero, List.set_cons_succ]
    refine wpAnyH_take (i := 2) (v := .int .i64 acc) rfl (by kernel_rfl) (by kernel_rfl) (by kernel_rfl) (fun _ _ _ h => h) (Or.inl ⟨by simp [Region.wanted], fun W hW => by have h1 := HO1.out W (HLW.out W hW.lo); go_simp⟩) hS ?_
    simp only [List.getElem_toArray, List.getElem_cons_zero, List.getElem_cons_succ, Act.put, List.setIfInBounds_toArray, List.set_cons_zero, List.set_cons_succ]
    refine wpAnyH_take (i := 3) (v := .pointer (some ⟨w.heap.size + 1, 2, none⟩)) rfl (by kernel_rfl) (by kernel_rfl) (by kernel_rfl) (fun _ _ _ h => h) (Or.inl ⟨by simp [Region.wanted], fun W _ => by go_simp⟩) hS ?_
    simp only [List.getElem_toArray, List.getElem_cons_zero, List.getElem_cons_succ, Act.put, List.setIfInBounds_toArray, List.set_cons_zero, List.set_cons_succ]
    refine wpAnyH_take (i := 4) (v := .int .i64 sy) rfl (by kernel_rfl) (by kernel_rfl) (by kernel_rfl) (fun _ _ _ h => h) (Or.inl ⟨by simp [Region.wanted], fun W hW => by have h1 := HO2.out W (HLW.out W hW.lo); go_simp⟩) hS ?_
    simp only [List.getElem_toArray, List.getElem_cons_zero, List.getElem_cons_succ, Act.put, List.setIfInBounds_toArray, List.set_cons_zero, List.set_cons_succ]
    refine wpAnyH_take (i := 7) (v := .agg #[.bool x3, .slice p3 k3 c3]) rfl (by kernel_rfl) (by kernel_rfl) (by kernel_rfl) (fun _ _ _ h => h) (Or.inl ⟨by simp [Region.wanted], fun W hW => by have h1 := hW.b2.c0; have h2 := hW.b2.c1; go_simp⟩) hS ?_
    simp only [List.getElem_toArray, List.getElem_cons_zero, List.getElem_cons_succ, Act.put, List.setIfInBounds_toArray, List.set_cons_zero, List.set_cons_succ]
    refine wpAnyH_ready (rs := [5]) (by kernel_rfl) (by simp) ?_
    refine AllReadyH.cons rfl (fun K hK => ?_) AllReadyH.nil
    refine wanted_go rfl ?_
    simp only [List.getElem_toArray, List.getElem_cons_zero, List.getElem_cons_succ]
    go_wp2_with (go_at_call 40; refine (HST.out _ (HLW.out _ hS.lo)).mono ?_; rintro e u4 ⟨rfl, hb4⟩; have HS4 := Lib.hid (hS.below hb4); clear hb4)
    refine hK.out _ _ (HS4.out) (fun _ => ?_)
    refine wpAnyH_ready (rs := [6]) (by kernel_rfl) (by simp) ?_
    refine AllReadyH.cons rfl (fun K hK => ?_) AllReadyH.nil
    refine wanted_go rfl ?_
    simp only [List.getElem_toArray, List.getElem_cons_zero, List.getElem_cons_succ]
    go_wp2_with (go_at_call 31; refine (HOS.out _).mono ?_; rintro e u5 ⟨y5, p5, k5, c5, rfl, hbig, hb5⟩; have HG5 := Lib.hid hbig; have HS5 := Lib.hid (HS4.out.below hb5); clear hbig hb5)
    refine hK.out _ _ (HS5.out) (fun _ => ?_)
    refine wpAnyH_ready (rs := [8]) (by kernel_rfl) (by simp) ?_
    refine AllReadyH.cons rfl (fun K hK => ?_) AllReadyH.nil
    refine wanted_go rfl ?_
    simp only [List.getElem_toArray, List.getElem_cons_zero, List.getElem_cons_succ]
    go_wp2_with (go_at_call 33; refine (HA2.out _ _ _ HG5.out HS5.out.g2).mono ?_; rintro e u6 ⟨y6, p6, k6, c6, rfl, hbig, hb6⟩; have HG6 := Lib.hid hbig; have HS6 := Lib.hid (HS5.out.below hb6); clear hbig hb6)
    refine hK.out _ _ (HS6.out) (fun _ => ?_)
    refine wpAnyH_ready (rs := [9]) (by kernel_rfl) (by simp) ?_
    refine AllReadyH.cons rfl (fun K hK => ?_) AllReadyH.nil
    refine wanted_go rfl ?_
    simp only [List.getElem_toArray, List.getElem_cons_zero, List.getElem_cons_succ]
    go_wp2_with (go_at_call 35; refine (HF2.out _ _ HG6.out).mono ?_; rintro e u7 ⟨rfl, hb7⟩; have HS7 := Lib.hid (HS6.out.below hb7); clear hb7)
    refine hK.out _ _ (HS7.out) (fun _ => ?_)
    refine wpAnyH_take (i := 10) (v := .tuple #[.int .i64 (fitV mt), .bool (fitB mt)]) rfl (by kernel_rfl) (by kernel_rfl) (by kernel_rfl) (fun _ _ _ h => h) (Or.inl ⟨by simp [Region.wanted], fun W _ => by go_simp⟩) HS7.out ?_
    simp only [List.getElem_toArray, List.getElem_cons_zero, List.getElem_cons_succ, Act.put, List.setIfInBounds_toArray, List.set_cons_zero, List.set_cons_succ]
    refine wpAnyH_take (i := 11) (v := .int .i64 (fitV mt)) rfl (by kernel_rfl) (by kernel_rfl) (by kernel_rfl) (fun _ _ _ h => h) (Or.inl ⟨by simp [Region.wanted], fun W _ => by go_simp⟩) HS7.out ?_
    simp only [List.getElem_toArray, List.getElem_cons_zero, List.getElem_cons_succ, Act.put, List.setIfInBounds_toArray, List.set_cons_zero, List.set_cons_succ]
    refine wpAnyH_take (i := 12) (v := .bool (fitB mt)) rfl (by kernel_rfl) (by kernel_rfl) (by kernel_rfl) (fun _ _ _ h => h) (Or.inl ⟨by simp [Region.wanted], fun W _ => by go_simp⟩) HS7.out ?_
    simp only [List.getElem_toArray, List.getElem_cons_zero, List.getElem_cons_succ, Act.put, List.setIfInBounds_toArray, List.set_cons_zero, List.set_cons_succ]
    refine wpAnyH_take (i := 13) (v := .int .i64 (fitV mt)) rfl (by kernel_rfl) (by kernel_rfl) (by kernel_rfl) (fun _ _ _ h => h) (Or.inl ⟨by simp [Region.wanted], fun W _ => by go_simp⟩) HS7.out ?_
    simp only [List.getElem_toArray, List.getElem_cons_zero, List.getElem_cons_succ, Act.put, List.setIfInBounds_toArray, List.set_cons_zero, List.set_cons_succ]
    refine wpAnyH_take (i := 14) (v := .bool (fitB mt)) rfl (by kernel_rfl) (by kernel_rfl) (by kernel_rfl) (fun _ _ _ h => h) (Or.inl ⟨by simp [Region.wanted], fun W _ => by go_simp⟩) HS7.out ?_
    simp only [List.getElem_toArray, List.getElem_cons_zero, List.getElem_cons_succ, Act.put, List.setIfInBounds_toArray, List.set_cons_zero, List.set_cons_succ]
    refine wpAnyH_done (by kernel_rfl) ?_ _
    go_wp2
    (try simp only [Exit.inBlock, Exit.then])
    refine bodyPost_ret (results_tmp4 rfl _ _ _) rfl ?_
    exact ⟨HFE.out, HA.out.trans ((HLW.out _ HS7.out.lo).mono HA.out.size)⟩
  · go_upto_region 5 with (first
      | ((with_reducible refine atLoad (ty := 27) (x := .tmp 4) rfl ?_); refine loadE (wanted_noneD rfl) 27 (.tmp 4) rfl _ (.agg CA) rfl (HLB.out _ (Below.refl _ _)) ?_)
      | (go_at_call 18; refine HH.out.mono ?_; rintro e w1 ⟨rfl, hb1⟩; have HB1 := Lib.hid hb1; clear hb1)
      | (go_at_call 34; refine (HWO.out _).mono ?_; rintro e w2 ⟨x0, p0, k0, c0, rfl, hbig, hb2⟩; have HG2 := Lib.hid hbig; have HB2 := Lib.hid hb2; clear hbig hb2)
      | (go_at_call 31; refine (HOQ.out _).mono ?_; rintro e w3 ⟨x3, p3, k3, c3, rfl, hbig, hb3⟩; have HG3 := Lib.hid hbig; have HB3 := Lib.hid hb3; clear hbig hb3))
    have h23 : Below w1.heap.size w1 w3 := ((((Below.refl _ w1).alloc (Nat.le_refl _) (.cells #[.int .i64 hp, .int .i64 ch, .int .i64 hr, .int .i64 hs] 45)).trans (HB2.out.mono (by simp))).trans (HB3.out.mono (by have := HB2.out.size; simp at this; omega)))
    have h03 : Below W0.heap.size W0 w3 := HB1.out.trans (h23.mono HB1.out.size)
    have hhc : w3.heap[w1.heap.size]? = some (.cells #[.int .i64 hp, .int .i64 ch, .int .i64 hr, .int .i64 hs] 45 (0, 0)) := by
      have e := heap_alloc_new w1 (.cells #[.int .i64 hp, .int .i64 ch, .int .i64 hr, .int .i64 hs] 45)
      exact (HB3.out.block _ (by have := HB2.out.size; simp at this; omega)).trans ((HB2.out.block _ (by simp)).trans e)
    have HHC := Lib.hid (fun (W : World) (h : Below w3.heap.size w3 W) => show W.cell? ⟨w1.heap.size, 1, none⟩ = some (.int .i64 ch) from by rw [cell_of_row _ _ _ _ _ _ ((h.block _ (blk_ltK hhc)).trans hhc)]; rfl)
    have HLW := Lib.hid (fun (W : World) (h : Below w3.heap.size w3 W) => show Below W0.heap.size W0 W from h03.trans (h.mono h03.size))
    refine at_world (Φ := fun W => TwoB w3 x0 x3 (.slice p0 k0 c0) (.slice p3 k3 c3) qp q W) (TwoB.new (HG2.out.below HB3.out) HG3.out) ?_
    clear h23 h03 hhc hW0 HB1 HB2 HB3 HG2 HG3 o1 o2 o3 HH HWO HOQ
    rintro W3 hM
    have HM1 := Lib.hid hM
    clear hM
    have o3 := HO3.out W3 (HLW.out _ HM1.out.lo)
    have c0' := HM1.out.b2.c0; have c1' := HM1.out.b2.c1; have f0' := HM1.out.b2.f 0; have f1' := HM1.out.b2.f 1
    have HNE := Lib.hid (fun v W h => neg14 v q W h HQW.out)
    go_upto_region 8 with (go_at_call 41; refine (HNE.out _ _ HM1.out.g2).mono ?_; rintro e w4 ⟨x4, p4, k4, c4, rfl, hbig, hb4⟩; have HG4 := Lib.hid hbig; have HM4 := Lib.hid (HM1.out.below hb4); clear hbig hb4 c0' c1' f0' f1'; have c0' := HM4.out.b2.c0; have c1' := HM4.out.b2.c1; have f0' := HM4.out.b2.f 0; have f1' := HM4.out.b2.f 1)
    clear c0' c1' f0' f1' o3
    refine at_world (Φ := fun W => TwoB w3 x0 x4 (.slice p0 k0 c0) (.slice p4 k4 c4) (-(sgD 1 * qp)) (sgD 1 * q) W) (by rw [show -(sgD 1 * qp) = qp by rw [sg_mul, if_pos rfl]; omega, show sgD 1 * q = -q by rw [sg_mul, if_pos rfl]]; exact HM4.out.two HG4.out) ?_
    rintro W5 hM
    have HM5 := Lib.hid hM
    clear hM HM1 HM4 HG4 HNE
    have hfz : (-(sgD 1 * qp)).natAbs < 10000 ^ 100 := by rw [Int.natAbs_neg, sg_mul]; have := HPW.out; split <;> omega
    have hfy : (sgD 1 * q).natAbs < 10000 ^ 100 := by rw [sg_mul]; have := HQW.out; split <;> omega
    have HA1 := Lib.hid (fun (v1 v2 : Value) (W : World) (h1 : BigIs W v1 ch) (h2 : BigIs W v2 (-(sgD 1 * qp))) => add13 v1 v2 ch (-(sgD 1 * qp)) W h1 h2 HCW.out hfz)
    have HA2 := Lib.hid (fun (v1 v2 : Value) (W : World) (h1 : BigIs W v1 st) (h2 : BigIs W v2 (sgD 1 * q)) => add13 v1 v2 st (sgD 1 * q) W h1 h2 HSW.out hfy)
    rw [← HLT.out] at HA1
    rw [← HMT.out] at HA2
    have HF1 := Lib.hid (fun v1 W h => fits24 v1 lt W h HLF.out)
    have HF2 := Lib.hid (fun v1 W h => fits24 v1 mt W h HMF.out)
    clear hfz hfy
    generalize -(sgD 1 * qp) = za at *
    generalize sgD 1 * q = zb at *
    have HE := Lib.hid (HM5.out.below ((Below.refl _ W5).drew))
    clear HM5
    refine wp_region_held_drew (S := fun W => TwoB w3 x0 x4 (.slice p0 k0 c0) (.slice p4 k4 c4) za zb W) (by kernel_rfl) HE.out (fun hS => ?_)
    refine wpAnyH_take (i := 0) (v := .pointer (some ⟨w1.heap.size, 1, none⟩)) rfl (by kernel_rfl) (by kernel_rfl) (by kernel_rfl) (fun _ _ _ h => h) (Or.inl ⟨by simp [Region.wanted], fun W _ => by go_simp⟩) hS ?_
    simp only [List.getElem_toArray, List.getElem_cons_zero, Act.put, List.setIfInBounds_toArray, List.set_cons_zero, List.set_cons_succ]
    refine wpAnyH_take (i := 1) (v := .int .i64 ch) rfl (by kernel_rfl) (by kernel_rfl) (by kernel_rfl) (fun _ _ _ h => h) (Or.inl ⟨by simp [Region.wanted], fun W hW => by have h1 := HHC.out W hW.lo; go_simp⟩) hS ?_
    simp only [List.getElem_toArray, List.getElem_cons_zero, List.getElem_cons_succ, Act.put, List.setIfInBounds_toArray, List.set_cons_zero, List.set_cons_succ]
    refine wpAnyH_take (i := 3) (v := .agg #[.bool x0, .slice p0 k0 c0]) rfl (by kernel_rfl) (by kernel_rfl) (by kernel_rfl) (fun _ _ _ h => h) (Or.inl ⟨by simp [Region.wanted], fun W hW => by have h1 := hW.b1.c0; have h2 := hW.b1.c1; go_simp⟩) hS ?_
    simp only [List.getElem_toArray, List.getElem_cons_zero, List.getElem_cons_succ, Act.put, List.setIfInBounds_toArray, List.set_cons_zero, List.set_cons_succ]
    refine wpAnyH_ready (rs := [2]) (by kernel_rfl) (by simp) ?_
    refine AllReadyH.cons rfl (fun K hK => ?_) AllReadyH.nil
    refine wanted_go rfl ?_
    simp only [List.getElem_toArray, List.getElem_cons_zero, List.getElem_cons_succ]
    go_wp2_with (go_at_call 31; refine (HOC.out _).mono ?_; rintro e v5 ⟨x5, p5, k5, c5, rfl, hbig, hb5⟩; have HG5 := Lib.hid hbig; have HS5 := Lib.hid (hS.below hb5); clear hbig hb5)
    refine hK.out _ _ (HS5.out) (fun _ => ?_)
    refine wpAnyH_ready (rs := [4]) (by kernel_rfl) (by simp) ?_
    refine AllReadyH.cons rfl (fun K hK => ?_) AllReadyH.nil
    refine wanted_go rfl ?_
    simp only [List.getElem_toArray, List.getElem_cons_zero, List.getElem_cons_succ]
    go_wp2_with (go_at_call 33; refine (HA1.out _ _ _ HG5.out HS5.out.g1).mono ?_; rintro e v6 ⟨x6, p6, k6, c6, rfl, hbig, hb6⟩; have HG6 := Lib.hid hbig; have HS6 := Lib.hid (HS5.out.below hb6); clear hbig hb6)
    refine hK.out _ _ (HS6.out) (fun _ => ?_)
    refine wpAnyH_ready (rs := [5]) (by kernel_rfl) (by simp) ?_
    refine AllReadyH.cons rfl (fun K hK => ?_) AllReadyH.nil
    refine wanted_go rfl ?_
    simp only [List.getElem_toArray, List.getElem_cons_zero, List.getElem_cons_succ]
    go_wp2_with (go_at_call 35; refine (HF1.out _ _ HG6.out).mono ?_; rintro e v7 ⟨rfl, hb7⟩; have HS7 := Lib.hid (HS6.out.below hb7); clear hb7)
    refine hK.out _ _ (HS7.out) (fun _ => ?_)
    refine wpAnyH_take (i := 6) (v := .tuple #[.int .i64 (fitV lt), .bool (fitB lt)]) rfl (by kernel_rfl) (by kernel_rfl) (by kernel_rfl) (fun _ _ _ h => h) (Or.inl ⟨by simp [Region.wanted], fun W _ => by go_simp⟩) HS7.out ?_
    simp only [List.getElem_toArray, List.getElem_cons_zero, List.getElem_cons_succ, Act.put, List.setIfInBounds_toArray, List.set_cons_zero, List.set_cons_succ]
    refine wpAnyH_take (i := 7) (v := .int .i64 (fitV lt)) rfl (by kernel_rfl) (by kernel_rfl) (by kernel_rfl) (fun _ _ _ h => h) (Or.inl ⟨by simp [Region.wanted], fun W _ => by go_simp⟩) HS7.out ?_
    simp only [List.getElem_toArray, List.getElem_cons_zero, List.getElem_cons_succ, Act.put, List.setIfInBounds_toArray, List.set_cons_zero, List.set_cons_succ]
    refine wpAnyH_take (i := 8) (v := .bool (fitB lt)) rfl (by kernel_rfl) (by kernel_rfl) (by kernel_rfl) (fun _ _ _ h => h) (Or.inl ⟨by simp [Region.wanted], fun W _ => by go_simp⟩) HS7.out ?_
    simp only [List.getElem_toArray, List.getElem_cons_zero, List.getElem_cons_succ, Act.put, List.setIfInBounds_toArray, List.set_cons_zero, List.set_cons_succ]
    refine wpAnyH_take (i := 9) (v := .int .i64 (fitV lt)) rfl (by kernel_rfl) (by kernel_rfl) (by kernel_rfl) (fun _ _ _ h => h) (Or.inl ⟨by simp [Region.wanted], fun W _ => by go_simp⟩) HS7.out ?_
    simp only [List.getElem_toArray, List.getElem_cons_zero, List.getElem_cons_succ, Act.put, List.setIfInBounds_toArray, List.set_cons_zero, List.set_cons_succ]
    refine wpAnyH_take (i := 10) (v := .bool (fitB lt)) rfl (by kernel_rfl) (by kernel_rfl) (by kernel_rfl) (fun _ _ _ h => h) (Or.inl ⟨by simp [Region.wanted], fun W _ => by go_simp⟩) HS7.out ?_
    simp only [List.getElem_toArray, List.getElem_cons_zero, List.getElem_cons_succ, Act.put, List.setIfInBounds_toArray, List.set_cons_zero, List.set_cons_succ]
    refine wpAnyH_done (by kernel_rfl) ?_ _
    go_upto_region 9 with (fail)
    have HN := Lib.hid (HS7.out.below ((Below.refl _ v7).drew))
    clear HS7 HS6 HS5 HE HG5 HG6 hS
    refine wp_region_held_drew (S := fun W => TwoB w3 x0 x4 (.slice p0 k0 c0) (.slice p4 k4 c4) za zb W) (by kernel_rfl) HN.out (fun hS => ?_)
    refine wpAnyH_take (i := 0) (v := .agg CA) rfl (by kernel_rfl) (by kernel_rfl) (by kernel_rfl) (fun _ _ _ h => h) (yieldsIf_load rfl 27 (.tmp 4) rfl (.pointer (some ⟨w.heap.size, 0, none⟩)) _ rfl (fun W hW => HLB.out W (HLW.out W hW.lo))) hS ?_
    simp only [List.getElem_toArray, List.getElem_cons_zero, Act.put, List.setIfInBounds_toArray, List.set_cons_zero, List.set_cons_succ]
    refine wpAnyH_take (i := 1) (v := .pointer (some ⟨w.heap.size + 1, 1, none⟩)) rfl (by kernel_rfl) (by kernel_rfl) (by kernel_rfl) (fun _ _ _ h => h) (Or.inl ⟨by simp [Region.wanted], fun W _ => by go_simp⟩) hS ?_
    simp only [List.getElem_toArray, List.getElem_cons_zero, List.getElem_cons_succ, Act.put, List.setIfInBounds_toArray, List.set_cons_zero, List.set_cons_succ]
    refine wpAnyH_take (i := 2) (v := .int .i64 acc) rfl (by kernel_rfl) (by kernel_rfl) (by kernel_rfl) (fun _ _ _ h => h) (Or.inl ⟨by simp [Region.wanted], fun W hW => by have h1 := HO1.out W (HLW.out W hW.lo); go_simp⟩) hS ?_
    simp only [List.getElem_toArray, List.getElem_cons_zero, List.getElem_cons_succ, Act.put, List.setIfInBounds_toArray, List.set_cons_zero, List.set_cons_succ]
    refine wpAnyH_take (i := 3) (v := .pointer (some ⟨w.heap.size + 1, 2, none⟩)) rfl (by kernel_rfl) (by kernel_rfl) (by kernel_rfl) (fun _ _ _ h => h) (Or.inl ⟨by simp [Region.wanted], fun W _ => by go_simp⟩) hS ?_
    simp only [List.getElem_toArray, List.getElem_cons_zero, List.getElem_cons_succ, Act.put, List.setIfInBounds_toArray, List.set_cons_zero, List.set_cons_succ]
    refine wpAnyH_take (i := 4) (v := .int .i64 sy) rfl (by kernel_rfl) (by kernel_rfl) (by kernel_rfl) (fun _ _ _ h => h) (Or.inl ⟨by simp [Region.wanted], fun W hW => by have h1 := HO2.out W (HLW.out W hW.lo); go_simp⟩) hS ?_
    simp only [List.getElem_toArray, List.getElem_cons_zero, List.getElem_cons_succ, Act.put, List.setIfInBounds_toArray, List.set_cons_zero, List.set_cons_succ]
    refine wpAnyH_take (i := 7) (v := .agg #[.bool x4, .slice p4 k4 c4]) rfl (by kernel_rfl) (by kernel_rfl) (by kernel_rfl) (fun _ _ _ h => h) (Or.inl ⟨by simp [Region.wanted], fun W hW => by have h1 := hW.b2.c0; have h2 := hW.b2.c1; go_simp⟩) hS ?_
    simp only [List.getElem_toArray, List.getElem_cons_zero, List.getElem_cons_succ, Act.put, List.setIfInBounds_toArray, List.set_cons_zero, List.set_cons_succ]
    refine wpAnyH_ready (rs := [5]) (by kernel_rfl) (by simp) ?_
    refine AllReadyH.cons rfl (fun K hK => ?_) AllReadyH.nil
    refine wanted_go rfl ?_
    simp only [List.getElem_toArray, List.getElem_cons_zero, List.getElem_cons_succ]
    go_wp2_with (go_at_call 40; refine (HST.out _ (HLW.out _ hS.lo)).mono ?_; rintro e u4 ⟨rfl, hb4⟩; have HS4 := Lib.hid (hS.below hb4); clear hb4)
    refine hK.out _ _ (HS4.out) (fun _ => ?_)
    refine wpAnyH_ready (rs := [6]) (by kernel_rfl) (by simp) ?_
    refine AllReadyH.cons rfl (fun K hK => ?_) AllReadyH.nil
    refine wanted_go rfl ?_
    simp only [List.getElem_toArray, List.getElem_cons_zero, List.getElem_cons_succ]
    go_wp2_with (go_at_call 31; refine (HOS.out _).mono ?_; rintro e u5 ⟨y5, p5, k5, c5, rfl, hbig, hb5⟩; have HG5 := Lib.hid hbig; have HS5 := Lib.hid (HS4.out.below hb5); clear hbig hb5)
    refine hK.out _ _ (HS5.out) (fun _ => ?_)
    refine wpAnyH_ready (rs := [8]) (by kernel_rfl) (by simp) ?_
    refine AllReadyH.cons rfl (fun K hK => ?_) AllReadyH.nil
    refine wanted_go rfl ?_
    simp only [List.getElem_toArray, List.getElem_cons_zero, List.getElem_cons_succ]
    go_wp2_with (go_at_call 33; refine (HA2.out _ _ _ HG5.out HS5.out.g2).mono ?_; rintro e u6 ⟨y6, p6, k6, c6, rfl, hbig, hb6⟩; have HG6 := Lib.hid hbig; have HS6 := Lib.hid (HS5.out.below hb6); clear hbig hb6)
    refine hK.out _ _ (HS6.out) (fun _ => ?_)
    refine wpAnyH_ready (rs := [9]) (by kernel_rfl) (by simp) ?_
    refine AllReadyH.cons rfl (fun K hK => ?_) AllReadyH.nil
    refine wanted_go rfl ?_
    simp only [List.getElem_toArray, List.getElem_cons_zero, List.getElem_cons_succ]
    go_wp2_with (go_at_call 35; refine (HF2.out _ _ HG6.out).mono ?_; rintro e u7 ⟨rfl, hb7⟩; have HS7 := Lib.hid (HS6.out.below hb7); clear hb7)
    refine hK.out _ _ (HS7.out) (fun _ => ?_)
    refine wpAnyH_take (i := 10) (v := .tuple #[.int .i64 (fitV mt), .bool (fitB mt)]) rfl (by kernel_rfl) (by kernel_rfl) (by kernel_rfl) (fun _ _ _ h => h) (Or.inl ⟨by simp [Region.wanted], fun W _ => by go_simp⟩) HS7.out ?_
    simp only [List.getElem_toArray, List.getElem_cons_zero, List.getElem_cons_succ, Act.put, List.setIfInBounds_toArray, List.set_cons_zero, List.set_cons_succ]
    refine wpAnyH_take (i := 11) (v := .int .i64 (fitV mt)) rfl (by kernel_rfl) (by kernel_rfl) (by kernel_rfl) (fun _ _ _ h => h) (Or.inl ⟨by simp [Region.wanted], fun W _ => by go_simp⟩) HS7.out ?_
    simp only [List.getElem_toArray, List.getElem_cons_zero, List.getElem_cons_succ, Act.put, List.setIfInBounds_toArray, List.set_cons_zero, List.set_cons_succ]
    refine wpAnyH_take (i := 12) (v := .bool (fitB mt)) rfl (by kernel_rfl) (by kernel_rfl) (by kernel_rfl) (fun _ _ _ h => h) (Or.inl ⟨by simp [Region.wanted], fun W _ => by go_simp⟩) HS7.out ?_
    simp only [List.getElem_toArray, List.getElem_cons_zero, List.getElem_cons_succ, Act.put, List.setIfInBounds_toArray, List.set_cons_zero, List.set_cons_succ]
    refine wpAnyH_take (i := 13) (v := .int .i64 (fitV mt)) rfl (by kernel_rfl) (by kernel_rfl) (by kernel_rfl) (fun _ _ _ h => h) (Or.inl ⟨by simp [Region.wanted], fun W _ => by go_simp⟩) HS7.out ?_
    simp only [List.getElem_toArray, List.getElem_cons_zero, List.getElem_cons_succ, Act.put, List.setIfInBounds_toArray, List.set_cons_zero, List.set_cons_succ]
    refine wpAnyH_take (i := 14) (v := .bool (fitB mt)) rfl (by kernel_rfl) (by kernel_rfl) (by kernel_rfl) (fun _ _ _ h => h) (Or.inl ⟨by simp [Region.wanted], fun W _ => by go_simp⟩) HS7.out ?_
    simp only [List.getElem_toArray, List.getElem_cons_zero, List.getElem_cons_succ, Act.put, List.setIfInBounds_toArray, List.set_cons_zero, List.set_cons_succ]
    refine wpAnyH_done (by kernel_rfl) ?_ _
    go_wp2
    (try simp only [Exit.inBlock, Exit.then])
    refine bodyPost_ret (results_tmp4 rfl _ _ _) rfl ?_
    exact ⟨HFE.out, HA.out.trans ((HLW.out _ HS7.out.lo).mono HA.out.size)⟩
end Go.Proofs.Ytmndkbfjmamnfaa
