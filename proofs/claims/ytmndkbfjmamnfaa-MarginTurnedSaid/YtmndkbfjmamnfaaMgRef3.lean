/- The document's Need: the contract. -/
import Derived.Test.YtmndkbfjmamnfaaMgRef2
import Derived.Test.YtmndkbfjmamnfaaMoneyUp
namespace Go.Proofs.Ytmndkbfjmamnfaa
open Go.RowKit Base Base2

theorem BigIs.absM {W : World} {x : Bool} {p : Option Addr} {n c : Nat} {z : Int} (h : BigIs W (.agg #[.bool x, .slice p n c]) z) : BigIs W (.agg #[.bool false, .slice p n c]) (z.natAbs : Int) := by
  obtain ⟨neg, a, l, cap, h1, h2, h3, h4, h5, h6, h7⟩ := h
  simp only [Value.agg.injEq, Array.mk.injEq, List.cons.injEq, Value.bool.injEq, Value.slice.injEq, and_true] at h1
  obtain ⟨rfl, rfl, rfl, rfl⟩ := h1
  refine ⟨false, _, l, _, rfl, h2, h3, h4, h5, (fun h => by cases h), ?_⟩
  rw [h7]
  cases x
  · rw [sgn_false]; simp
  · rw [sgn_true]; rw [sgn_false]; simp
theorem BigIs.signM {W : World} {x : Bool} {u : Value} {z : Int} (h : BigIs W (.agg #[.bool x, u]) z) : x = decide (z < 0) := by
  obtain ⟨neg, a, l, cap, h1, h2, h3, h4, h5, h6, h7⟩ := h
  simp only [Value.agg.injEq, Array.mk.injEq, List.cons.injEq, Value.bool.injEq, and_true] at h1
  obtain ⟨rfl, rfl⟩ := h1
  rw [h7]
  cases x
  · rw [sgn_false]; exact (decide_eq_false (by omega)).symm
  · rw [sgn_true]
    have hv : valD l ≠ 0 := fun e => h6 rfl (topD_zero h5 e)
    exact (decide_eq_true (by omega)).symm
/-- Another great number loses its sign. -/
theorem MidB.other {W0 : World} {x y : Bool} {p p' : Option Addr} {k c k' c' g : Nat} {z : Int} {W : World} (s : MidB W0 x (.slice p k c) z W) (hy : BoxAt W g y (.slice p' k' c')) (hg : W0.heap.size < g) (b : Bool) : MidB W0 x (.slice p k c) z (W.setCell ⟨g, 0, none⟩ (.bool b)) :=
  ⟨s.bx.other (by omega), s.big.boxCell hy (i := 0) _, s.lo.setCell (p := ⟨_, 0, none⟩) (Nat.le_of_lt hg) _⟩
theorem need_no1 {z r : Int} (h : z < 0) : mayB z r = false := decide_eq_false (by omega)
theorem need_no2 {z r : Int} (h : r < 0) : mayB z r = false := decide_eq_false (by omega)
theorem need_no3 {z r : Int} (h : 1000 < r) : mayB z r = false := decide_eq_false (by omega)
theorem need_yes {z r : Int} (h : ¬ z < 0) (h2 : ¬ r < 0) (h3 : ¬ 1000 < r) : mayB z r = true := decide_eq_true (by omega)
theorem need_up {z r : Int} (hz : Fine z) (h : ¬ z < 0) (h2 : ¬ r < 0) (h3 : ¬ 1000 < r) : 0 ≤ z * r ∧ (z * r).natAbs < 10000 ^ 100 ∧ (shr z r).natAbs < 10000 ^ 100 ∧ ((((z * r).toNat + (100 - 1)) / 100 : Nat) : Int) = shr z r := by
  have h0 := Int.mul_nonneg (show 0 ≤ z by omega) (show 0 ≤ r by omega)
  have hm : (z * r).natAbs ≤ 1000000000000000000000000000000000000000000 * 1000000 := by
    rw [Int.natAbs_mul]
    exact Nat.le_trans (Nat.mul_le_mul hz (show r.natAbs ≤ 1000 by omega)) (by decide)
  refine ⟨h0, pow50 (by omega), pow50 (by unfold shr; omega), by unfold shr; omega⟩
set_option maxRecDepth 100000 in
set_option maxHeartbeats 8000000 in
theorem rneed13 (v : Slots) (b : BookT) (acc q pc r : Int) (w : World) (hb : BookIn w v b) (hk : BookOk 2000 b) (hq : In64' q) (hpc : In64' pc) (hr : In64' r) :
    Calls Try.prog 13 #[.agg (cellsB v b), .int .i64 acc, .int .i64 q, .int .i64 pc, .int .i64 r] w fun e w' => e = .returned (.tuple #[.int .i64 (if mayB (exT b acc q pc) r then fitV (shr (exT b acc q pc) r) else 0), .bool (mayB (exT b acc q pc) r && fitB (shr (exT b acc q pc) r))]) ∧ Below w.heap.size w w' := by
  obtain ⟨W0, hW0⟩ : ∃ x, w.alloc (.cells (cellsB v b) 27) = x := ⟨_, rfl⟩
  have hA : Below w.heap.size w W0 := by rw [← hW0]; exact (Below.refl _ w).alloc (Nat.le_refl _) _
  have hg : BoxB W0 w.heap.size v b := by rw [← hW0]; exact BoxB.new w v b
  have HA := Lib.hid hA
  have HBI := Lib.hid (show BkIn w.heap.size v b W0 from ⟨hg, hb.below hA⟩)
  have HM0 := Lib.hid (fun W => rmul34 q pc W hq hpc)
  have HQP := Lib.hid (prod_nat hq hpc)
  have HK := Lib.hid hk
  have HR := Lib.hid hr
  obtain ⟨fe, hfe⟩ : ∃ x, Ending.returned (.tuple #[.int .i64 (if mayB (exT b acc q pc) r then fitV (shr (exT b acc q pc) r) else 0), .bool (mayB (exT b acc q pc) r && fitB (shr (exT b acc q pc) r))]) = x := ⟨_, rfl⟩
  have HFE := Lib.hid hfe
  obtain ⟨qp, hqp⟩ : ∃ x, q * pc = x := ⟨_, rfl⟩
  have HEX := Lib.hid (show exT b acc q pc = qp + sumI (exW b) (ofAcc 0 acc b.ss) + sumI ordW (ofAcc 1 acc b.os) by rw [← hqp]; rfl)
  rw [hfe]
  rw [hqp] at HM0 HQP
  clear hfe hb hk hA hg hq hpc hr hqp
  generalize hCA : cellsB v b = CA at *
  have HCA := Lib.hid hCA
  clear hCA
  go_enter Try.func13, Try.ntmps13
  go_upto_region 2 with (go_at_call 34; refine (HM0.out _).mono ?_; rintro e w1 ⟨x0, p0, k0, c0, rfl, hbig, hb1⟩; have HG1 := Lib.hid hbig; have HB1 := Lib.hid hb1; clear hbig hb1)
  have HBJ := Lib.hid (show BkIn w.heap.size v b w1 from ⟨HBI.out.box HB1.out, HBI.out.book HB1.out⟩)
  have HL2 := Lib.hid (HA.out.trans (HB1.out.mono HA.out.size))
  refine at_world (Φ := fun W => MidB w1 x0 (.slice p0 k0 c0) qp W) (MidB.new HG1.out) ?_
  clear hW0 HBI HB1 HG1 HM0
  rintro W2 hM
  have HMS := Lib.hid hM
  clear hM
  obtain ⟨n, hn⟩ : ∃ n, b.ss.length = n := ⟨_, rfl⟩
  have HN := Lib.hid hn
  obtain ⟨m, hm⟩ : ∃ n, b.os.length = n := ⟨_, rfl⟩
  have HMN := Lib.hid hm
  have HKS := Lib.hid HK.out.ss
  have HKO := Lib.hid HK.out.os
  have HCE := Lib.hid (fun W (h : Below w1.heap.size w1 W) => show W.cell? ⟨w.heap.size, 1, none⟩ = some (.slice v.s n v.cs) from by rw [← HN.out]; exact (HBJ.out.box h).cells.2.1)
  have HCO := Lib.hid (fun W (h : Below w1.heap.size w1 W) => show W.cell? ⟨w.heap.size, 2, none⟩ = some (.slice v.o m v.co) from by rw [← HMN.out]; exact (HBJ.out.box h).cells.2.2.1)
  have HROW := Lib.hid (fun W (h : Below w1.heap.size w1 W) => (HBJ.out.book h).ss)
  have HROO := Lib.hid (fun W (h : Below w1.heap.size w1 W) => (HBJ.out.book h).os)
  have HLD := Lib.hid (fun W (h : Below w1.heap.size w1 W) => load_book (HBJ.out.box h))
  rw [HCA.out] at HLD
  have hle : n ≤ 2000 := by rw [← HN.out]; exact HKS.out.1
  have hme : m ≤ 2000 := by rw [← HMN.out]; exact HKO.out.1
  clear hn hm
  go_wp2
  go_loopw [13] (fun vi W => ∃ (i : Nat) (x : Bool) (p : Option Addr) (k c : Nat), vi = .int .i64 (i : Int) ∧ i ≤ n ∧ MidB w1 x (.slice p k c) (qp + sumI (exW b) (ofAcc 0 acc (b.ss.take i))) W) (fun vi _ => n - (intOf vi).toNat)
  case atStart => exact ⟨0, x0, p0, k0, c0, rfl, Nat.zero_le _, by rw [List.take_zero]; show MidB w1 x0 (.slice p0 k0 c0) (qp + 0) W2; rw [Int.add_zero]; exact HMS.out⟩
  case round =>
    clear HMS
    obtain ⟨i, x, p, k, c, rfl, hi, hM⟩ := hrel
    have HM := Lib.hid hM
    have c1 := HCE.out _ hM.lo
    clear hM
    have hfp : (qp + sumI (exW b) (ofAcc 0 acc (b.ss.take i))).natAbs ≤ 300000000000000000000000000000000000000000 := by
      obtain ⟨s, hs⟩ := ofAcc_pre (j := 0) (a := acc) b.ss i
      have h1 := ex_sum HK.out hs
      have h2 := HQP.out
      omega
    by_cases hlt : i < n
    · obtain ⟨it, hx⟩ : ∃ x, b.ss[i]? = some x := ⟨b.ss[i]'(by rw [HN.out]; exact hlt), by simp [HN.out, hlt]⟩
      obtain ⟨s0, s1, s2, rfl⟩ := item3 (HKS.out.2 _ (List.mem_of_getElem? hx)).1
      have hmem := List.mem_of_getElem? hx
      obtain ⟨b0, off, hvs, hb0, hcs⟩ := (HROW.out w1 (Below.refl _ _)).at hx
      have HC0 := Lib.hid (fun W (h : Below w1.heap.size w1 W) => hcs W h 0 s0 rfl)
      have HC1 := Lib.hid (fun W (h : Below w1.heap.size w1 W) => hcs W h 1 s1 rfl)
      have HC2 := Lib.hid (fun W (h : Below w1.heap.size w1 W) => hcs W h 2 s2 rfl)
      have k0' := HC0.out _ HM.out.lo
      rw [Nat.add_zero] at k0'
      rw [hvs] at HCE c1
      clear hcs hb0 hvs
      by_cases he : s0 = acc
      · have g : (s0 == acc) = true := by rw [beq_iff_eq]; exact he
        have hnx : qp + sumI (exW b) (ofAcc 0 acc (b.ss.take (i + 1))) = (qp + sumI (exW b) (ofAcc 0 acc (b.ss.take i))) + ((s2 * rateOf b s1).natAbs : Int) := by
          rw [ofAcc_yes (j := 0) (a := acc) hx (show (key 0 [s0, s1, s2] == acc) = true from g), sumI_snoc]; show _ + (_ + ((s2 * rateOf b s1).natAbs : Int)) = _; omega
        have HNX := Lib.hid hnx
        have r64 := rate_in HK.out.rs s1
        have q64 : In64' s2 := key_in HKS.out hmem 2
        have HRT := Lib.hid (fun W (h : Below w1.heap.size w1 W) => show Calls Try.prog 32 #[.agg CA, .int .i64 s1] W fun e w' => e = .returned (.tuple #[.int .i64 (rateOf b s1), .bool (findL (is1 s1) b.rs).isSome]) ∧ Below W.heap.size W w' from by rw [← HCA.out]; exact rrate20 v b s1 W (HBJ.out.book h) HK.out.rs)
        have HMU := Lib.hid (fun W => rmul34 s2 (rateOf b s1) W q64 r64)
        have hpw := prod_nat q64 r64
        have HFP := Lib.hid (pow50 (show (qp + sumI (exW b) (ofAcc 0 acc (b.ss.take i))).natAbs ≤ _ by omega))
        clear hnx he hmem hx r64 q64 hfp
        generalize qp + sumI (exW b) (ofAcc 0 acc (b.ss.take i)) = z at *
        obtain ⟨z', hz'⟩ : ∃ z', qp + sumI (exW b) (ofAcc 0 acc (b.ss.take (i + 1))) = z' := ⟨_, rfl⟩
        rw [hz'] at HNX
        have HZP := Lib.hid hz'
        clear hz'
        generalize (findL (is1 s1) b.rs).isSome = ok at *
        generalize rateOf b s1 = rt at *
        generalize s2 * rt = pr at *
        have HAD := Lib.hid (fun (v1 v2 : Value) (W : World) (h1 : BigIs W v1 z) (h2 : BigIs W v2 ((pr.natAbs : Nat) : Int)) => add13 v1 v2 z ((pr.natAbs : Nat) : Int) W h1 h2 HFP.out (pow50 (by omega)))
        rw [← HNX.out] at HAD
        clear hpw
        go_upto_region 6 with (fail)
        clear c1 k0'
        have HD := Lib.hid (HM.out.below ((Below.refl _ wr).drew))
        clear HM
        refine wp_region_held_drew (S := fun W => Below w1.heap.size w1 W) (by kernel_rfl) HD.out.lo (fun hS => ?_)
        refine wpAnyH_take (i := 0) (v := .agg CA) rfl (by kernel_rfl) (by kernel_rfl) (by kernel_rfl) (fun _ _ _ h => h) (yieldsIf_load rfl 27 (.tmp 5) rfl (.pointer (some ⟨w.heap.size, 0, none⟩)) _ rfl (fun W hW => HLD.out W hW)) hS ?_
        simp only [List.getElem_toArray, List.getElem_cons_zero, Act.put, List.setIfInBounds_toArray, List.set_cons_zero, List.set_cons_succ]
        refine wpAnyH_take (i := 1) (v := .pointer (some ⟨w.heap.size, 1, none⟩)) rfl (by kernel_rfl) (by kernel_rfl) (by kernel_rfl) (fun _ _ _ h => h) (Or.inl ⟨by simp [Region.wanted], fun W _ => by go_simp⟩) hS ?_
        simp only [List.getElem_toArray, List.getElem_cons_zero, List.getElem_cons_succ, Act.put, List.setIfInBounds_toArray, List.set_cons_zero, List.set_cons_succ]
        refine wpAnyH_take (i := 2) (v := .slice (some ⟨b0, off, none⟩) n v.cs) rfl (by kernel_rfl) (by kernel_rfl) (by kernel_rfl) (fun _ _ _ h => h) (Or.inl ⟨by simp [Region.wanted], fun W hW => by have h1 := HCE.out W hW; go_simp⟩) hS ?_
        simp only [List.getElem_toArray, List.getElem_cons_zero, List.getElem_cons_succ, Act.put, List.setIfInBounds_toArray, List.set_cons_zero, List.set_cons_succ]
        refine wpAnyH_take (i := 3) (v := .int .i64 (i : Int)) rfl (by kernel_rfl) (by kernel_rfl) (by kernel_rfl) (fun _ _ _ h => h) (Or.inl ⟨by simp [Region.wanted], fun W _ => by go_simp⟩) hS ?_
        simp only [List.getElem_toArray, List.getElem_cons_zero, List.getElem_cons_succ, Act.put, List.setIfInBounds_toArray, List.set_cons_zero, List.set_cons_succ]
        refine wpAnyH_take (i := 4) (v := .pointer (some ⟨b0, off + i * 3, none⟩)) rfl (by kernel_rfl) (by kernel_rfl) (by kernel_rfl) (fun _ _ _ h => h) (Or.inl ⟨by simp [Region.wanted], fun W _ => by go_simp⟩) hS ?_
        simp only [List.getElem_toArray, List.getElem_cons_zero, List.getElem_cons_succ, Act.put, List.setIfInBounds_toArray, List.set_cons_zero, List.set_cons_succ]
        refine wpAnyH_take (i := 5) (v := .pointer (some ⟨b0, off + i * 3 + 1, none⟩)) rfl (by kernel_rfl) (by kernel_rfl) (by kernel_rfl) (fun _ _ _ h => h) (Or.inl ⟨by simp [Region.wanted], fun W _ => by go_simp⟩) hS ?_
        simp only [List.getElem_toArray, List.getElem_cons_zero, List.getElem_cons_succ, Act.put, List.setIfInBounds_toArray, List.set_cons_zero, List.set_cons_succ]
        refine wpAnyH_take (i := 6) (v := .int .i64 s1) rfl (by kernel_rfl) (by kernel_rfl) (by kernel_rfl) (fun _ _ _ h => h) (Or.inl ⟨by simp [Region.wanted], fun W hW => by have h1 := HC1.out W hW; go_simp⟩) hS ?_
        simp only [List.getElem_toArray, List.getElem_cons_zero, List.getElem_cons_succ, Act.put, List.setIfInBounds_toArray, List.set_cons_zero, List.set_cons_succ]
        refine wpAnyH_ready (rs := [7]) (by kernel_rfl) (by simp) ?_
        refine AllReadyH.cons rfl (fun K hK => ?_) AllReadyH.nil
        refine wanted_go rfl ?_
        simp only [List.getElem_toArray, List.getElem_cons_zero, List.getElem_cons_succ]
        go_wp2_with (go_at_call 32; refine (HRT.out _ hS).mono ?_; rintro e w4 ⟨rfl, hb4⟩; have HD4 := Lib.hid (HD.out.below hb4); clear hb4)
        refine hK.out _ _ (HD4.out.lo) (fun _ => ?_)
        refine wpAnyH_take (i := 8) (v := .tuple #[.int .i64 rt, .bool ok]) rfl (by kernel_rfl) (by kernel_rfl) (by kernel_rfl) (fun _ _ _ h => h) (Or.inl ⟨by simp [Region.wanted], fun W _ => by go_simp⟩) HD4.out.lo ?_
        simp only [List.getElem_toArray, List.getElem_cons_zero, List.getElem_cons_succ, Act.put, List.setIfInBounds_toArray, List.set_cons_zero, List.set_cons_succ]
        refine wpAnyH_take (i := 9) (v := .int .i64 rt) rfl (by kernel_rfl) (by kernel_rfl) (by kernel_rfl) (fun _ _ _ h => h) (Or.inl ⟨by simp [Region.wanted], fun W _ => by go_simp⟩) HD4.out.lo ?_
        simp only [List.getElem_toArray, List.getElem_cons_zero, List.getElem_cons_succ, Act.put, List.setIfInBounds_toArray, List.set_cons_zero, List.set_cons_succ]
        refine wpAnyH_take (i := 10) (v := .bool ok) rfl (by kernel_rfl) (by kernel_rfl) (by kernel_rfl) (fun _ _ _ h => h) (Or.inl ⟨by simp [Region.wanted], fun W _ => by go_simp⟩) HD4.out.lo ?_
        simp only [List.getElem_toArray, List.getElem_cons_zero, List.getElem_cons_succ, Act.put, List.setIfInBounds_toArray, List.set_cons_zero, List.set_cons_succ]
        refine wpAnyH_take (i := 11) (v := .int .i64 rt) rfl (by kernel_rfl) (by kernel_rfl) (by kernel_rfl) (fun _ _ _ h => h) (Or.inl ⟨by simp [Region.wanted], fun W _ => by go_simp⟩) HD4.out.lo ?_
        simp only [List.getElem_toArray, List.getElem_cons_zero, List.getElem_cons_succ, Act.put, List.setIfInBounds_toArray, List.set_cons_zero, List.set_cons_succ]
        refine wpAnyH_take (i := 12) (v := .bool ok) rfl (by kernel_rfl) (by kernel_rfl) (by kernel_rfl) (fun _ _ _ h => h) (Or.inl ⟨by simp [Region.wanted], fun W _ => by go_simp⟩) HD4.out.lo ?_
        simp only [List.getElem_toArray, List.getElem_cons_zero, List.getElem_cons_succ, Act.put, List.setIfInBounds_toArray, List.set_cons_zero, List.set_cons_succ]
        refine wpAnyH_done (by kernel_rfl) ?_ _
        have c1 := HCE.out _ HD4.out.lo
        have k2 := HC2.out _ HD4.out.lo
        go_upto_region 8 with (go_at_call 34; refine (HMU.out _).mono ?_; rintro e w5 ⟨x5, p5, k5, c5, rfl, hbig, hb5⟩; have HG5 := Lib.hid hbig; have HS5 := Lib.hid (HD4.out.below hb5); clear hbig hb5)
        clear c1 k2
        obtain ⟨w6, hw6⟩ : ∃ x, w5.alloc (.cells #[.bool x5, .slice p5 k5 c5] 71) = x := ⟨_, rfl⟩
        have HY6 := Lib.hid (show BoxAt w6 w5.heap.size x5 (.slice p5 k5 c5) by rw [← hw6]; exact BoxAt.new _ _ _)
        have hb6 : Below w5.heap.size w5 w6 := by rw [← hw6]; exact (Below.refl _ _).alloc (Nat.le_refl _) _
        have HS6 := Lib.hid (HS5.out.below hb6)
        have HG6 := Lib.hid (HG5.out.below hb6)
        have HLT := Lib.hid HS5.out.lt
        rw [hw6]
        clear hw6 hb6 HD4 HD hS
        have d0 := HY6.out.c0; have f0 := HY6.out.f 0
        go_upto_region 9 with (fail)
        clear d0 f0
        obtain ⟨w7, hw7⟩ : ∃ x, w6.setCell ⟨w5.heap.size, 0, none⟩ (.bool false) = x := ⟨_, rfl⟩
        have HY7 := Lib.hid (show BoxAt w7 w5.heap.size false (.slice p5 k5 c5) by rw [← hw7]; exact HY6.out.set0 _)
        have HS7 := Lib.hid (show MidB w1 x (.slice p k c) z w7 by rw [← hw7]; exact HS6.out.other HY6.out HLT.out _)
        have HG7 := Lib.hid (show BigIs w7 (.agg #[.bool false, .slice p5 k5 c5]) ((pr.natAbs : Nat) : Int) by rw [← hw7]; exact (HG6.out.absM).boxCell HY6.out (i := 0) _)
        rw [hw7]
        clear hw7
        have c0 := HS7.out.bx.c0; have c1 := HS7.out.bx.c1; have d0 := HY7.out.c0; have d1 := HY7.out.c1
        go_wp2_with (go_at_call 33; refine (HAD.out _ _ _ HS7.out.big HG7.out).mono ?_; rintro e w8 ⟨x8, p8, k8, c8, rfl, hbig, hb8⟩; have HG8 := Lib.hid hbig; have HS8 := Lib.hid (HS7.out.below hb8); clear hbig hb8 c0 c1 d0 d1; have c0 := HS8.out.bx.c0; have c1 := HS8.out.bx.c1; have f0 := HS8.out.bx.f 0; have f1 := HS8.out.bx.f 1; have HZ := Lib.hid (HS8.out.stored HG8.out))
        go_roundw
        case rel => exact ⟨i + 1, x8, p8, k8, c8, by go_num, hlt, by rw [HZP.out]; exact HZ.out⟩
        case measure => simp [intOf]; omega
      · have g : (s0 == acc) = false := by rw [beq_eq_false_iff_ne]; exact he
        have HNX := Lib.hid (ofAcc_no (j := 0) (a := acc) hx (show (key 0 [s0, s1, s2] == acc) = false from g))
        clear he hx hmem hfp
        go_wp2
        go_roundw
        case rel => exact ⟨i + 1, x, p, k, c, by go_num, hlt, by rw [HNX.out]; exact HM.out⟩
        case measure => simp [intOf]; omega
    · rw [List.take_of_length_le (by rw [HN.out]; omega)] at HM hfp
      clear HROW HN HCE
      have HF1 := Lib.hid hfp
      clear hfp
      generalize qp + sumI (exW b) (ofAcc 0 acc b.ss) = z1 at *
      go_wp2
      obtain ⟨Wc, hWc⟩ : ∃ x, x = wr := ⟨_, rfl⟩
      subst hWc
      clear c1
      go_loopw [17] (fun vi W => ∃ (i : Nat) (x : Bool) (p : Option Addr) (k c : Nat), vi = .int .i64 (i : Int) ∧ i ≤ m ∧ MidB w1 x (.slice p k c) (z1 + sumI ordW (ofAcc 1 acc (b.os.take i))) W) (fun vi _ => m - (intOf vi).toNat)
      case atStart => exact ⟨0, x, p, k, c, rfl, Nat.zero_le _, by rw [List.take_zero]; show MidB w1 x (.slice p k c) (z1 + 0) Wc; rw [Int.add_zero]; exact HM.out⟩
      case round =>
        clear HM hi hlt
        obtain ⟨j, x, p, k, c, rfl, hj, hM⟩ := hrel
        have HM := Lib.hid hM
        have c2 := HCO.out _ hM.lo
        clear hM
        have hfp : Fine (z1 + sumI ordW (ofAcc 1 acc (b.os.take j))) := by
          obtain ⟨s, hs⟩ := ofAcc_pre (j := 1) (a := acc) b.os j
          have h1 := ord_sum HK.out hs
          have h2 := HF1.out
          exact fine_of (by omega)
        by_cases hlt : j < m
        · obtain ⟨it, hx⟩ : ∃ x, b.os[j]? = some x := ⟨b.os[j]'(by rw [HMN.out]; exact hlt), by simp [HMN.out, hlt]⟩
          obtain ⟨s0, s1, s2, s3, s4, s5, rfl⟩ := item6 (HKO.out.2 _ (List.mem_of_getElem? hx)).1
          have hmem := List.mem_of_getElem? hx
          obtain ⟨b0, off, hvs, hb0, hcs⟩ := (HROO.out w1 (Below.refl _ _)).at hx
          have HC1 := Lib.hid (fun W (h : Below w1.heap.size w1 W) => hcs W h 1 s1 rfl)
          have HC4 := Lib.hid (fun W (h : Below w1.heap.size w1 W) => hcs W h 4 s4 rfl)
          have HC5 := Lib.hid (fun W (h : Below w1.heap.size w1 W) => hcs W h 5 s5 rfl)
          have k1' := HC1.out _ HM.out.lo
          rw [hvs] at HCO c2
          clear hcs hb0 hvs
          by_cases he : s1 = acc
          · have g : (s1 == acc) = true := by rw [beq_iff_eq]; exact he
            have hnx : z1 + sumI ordW (ofAcc 1 acc (b.os.take (j + 1))) = (z1 + sumI ordW (ofAcc 1 acc (b.os.take j))) + s4 * s5 := by
              rw [ofAcc_yes (j := 1) (a := acc) hx (show (key 1 [s0, s1, s2, s3, s4, s5] == acc) = true from g), sumI_snoc]; show _ + (_ + s4 * s5) = _; omega
            have HNX := Lib.hid hnx
            have q64 : In64' s4 := key_in HKO.out hmem 4
            have r64 : In64' s5 := key_in HKO.out hmem 5
            have HMU := Lib.hid (fun W => rmul34 s4 s5 W q64 r64)
            have HPW := Lib.hid (prod_pow q64 r64)
            have HFP := Lib.hid hfp.pow
            clear hnx he hmem hx r64 q64 hfp
            generalize z1 + sumI ordW (ofAcc 1 acc (b.os.take j)) = z at *
            obtain ⟨z', hz'⟩ : ∃ z', z1 + sumI ordW (ofAcc 1 acc (b.os.take (j + 1))) = z' := ⟨_, rfl⟩
            rw [hz'] at HNX
            have HZP := Lib.hid hz'
            clear hz'
            have HAD := Lib.hid (fun (v1 v2 : Value) (W : World) (h1 : BigIs W v1 z) (h2 : BigIs W v2 (s4 * s5)) => add13 v1 v2 z (s4 * s5) W h1 h2 HFP.out HPW.out)
            rw [← HNX.out] at HAD
            generalize s4 * s5 = pr at *
            go_upto_region 14 with (fail)
            clear c2 k1'
            have HE := Lib.hid (HM.out.below ((Below.refl _ wr).drew))
            clear HM
            refine wp_region_held_drew (S := fun W => Below w1.heap.size w1 W) (by kernel_rfl) HE.out.lo (fun hS => ?_)
            refine wpAnyH_take (i := 1) (v := .pointer (some ⟨w.heap.size, 2, none⟩)) rfl (by kernel_rfl) (by kernel_rfl) (by kernel_rfl) (fun _ _ _ h => h) (Or.inl ⟨by simp [Region.wanted], fun W _ => by go_simp⟩) hS ?_
            simp only [List.getElem_toArray, List.getElem_cons_zero, List.getElem_cons_succ, Act.put, List.setIfInBounds_toArray, List.set_cons_zero, List.set_cons_succ]
            refine wpAnyH_take (i := 2) (v := .slice (some ⟨b0, off, none⟩) m v.co) rfl (by kernel_rfl) (by kernel_rfl) (by kernel_rfl) (fun _ _ _ h => h) (Or.inl ⟨by simp [Region.wanted], fun W hW => by have h1 := HCO.out W hW; go_simp⟩) hS ?_
            simp only [List.getElem_toArray, List.getElem_cons_zero, List.getElem_cons_succ, Act.put, List.setIfInBounds_toArray, List.set_cons_zero, List.set_cons_succ]
            refine wpAnyH_take (i := 3) (v := .int .i64 (j : Int)) rfl (by kernel_rfl) (by kernel_rfl) (by kernel_rfl) (fun _ _ _ h => h) (Or.inl ⟨by simp [Region.wanted], fun W _ => by go_simp⟩) hS ?_
            simp only [List.getElem_toArray, List.getElem_cons_zero, List.getElem_cons_succ, Act.put, List.setIfInBounds_toArray, List.set_cons_zero, List.set_cons_succ]
            refine wpAnyH_take (i := 4) (v := .pointer (some ⟨b0, off + j * 6, none⟩)) rfl (by kernel_rfl) (by kernel_rfl) (by kernel_rfl) (fun _ _ _ h => h) (Or.inl ⟨by simp [Region.wanted], fun W _ => by go_simp⟩) hS ?_
            simp only [List.getElem_toArray, List.getElem_cons_zero, List.getElem_cons_succ, Act.put, List.setIfInBounds_toArray, List.set_cons_zero, List.set_cons_succ]
            refine wpAnyH_take (i := 5) (v := .pointer (some ⟨b0, off + j * 6 + 4, none⟩)) rfl (by kernel_rfl) (by kernel_rfl) (by kernel_rfl) (fun _ _ _ h => h) (Or.inl ⟨by simp [Region.wanted], fun W _ => by go_simp⟩) hS ?_
            simp only [List.getElem_toArray, List.getElem_cons_zero, List.getElem_cons_succ, Act.put, List.setIfInBounds_toArray, List.set_cons_zero, List.set_cons_succ]
            refine wpAnyH_take (i := 6) (v := .int .i64 s4) rfl (by kernel_rfl) (by kernel_rfl) (by kernel_rfl) (fun _ _ _ h => h) (Or.inl ⟨by simp [Region.wanted], fun W hW => by have h1 := HC4.out W hW; go_simp⟩) hS ?_
            simp only [List.getElem_toArray, List.getElem_cons_zero, List.getElem_cons_succ, Act.put, List.setIfInBounds_toArray, List.set_cons_zero, List.set_cons_succ]
            refine wpAnyH_take (i := 7) (v := .pointer (some ⟨w.heap.size, 2, none⟩)) rfl (by kernel_rfl) (by kernel_rfl) (by kernel_rfl) (fun _ _ _ h => h) (Or.inl ⟨by simp [Region.wanted], fun W _ => by go_simp⟩) hS ?_
            simp only [List.getElem_toArray, List.getElem_cons_zero, List.getElem_cons_succ, Act.put, List.setIfInBounds_toArray, List.set_cons_zero, List.set_cons_succ]
            refine wpAnyH_take (i := 8) (v := .slice (some ⟨b0, off, none⟩) m v.co) rfl (by kernel_rfl) (by kernel_rfl) (by kernel_rfl) (fun _ _ _ h => h) (Or.inl ⟨by simp [Region.wanted], fun W hW => by have h1 := HCO.out W hW; go_simp⟩) hS ?_
            simp only [List.getElem_toArray, List.getElem_cons_zero, List.getElem_cons_succ, Act.put, List.setIfInBounds_toArray, List.set_cons_zero, List.set_cons_succ]
            refine wpAnyH_take (i := 9) (v := .int .i64 (j : Int)) rfl (by kernel_rfl) (by kernel_rfl) (by kernel_rfl) (fun _ _ _ h => h) (Or.inl ⟨by simp [Region.wanted], fun W _ => by go_simp⟩) hS ?_
            simp only [List.getElem_toArray, List.getElem_cons_zero, List.getElem_cons_succ, Act.put, List.setIfInBounds_toArray, List.set_cons_zero, List.set_cons_succ]
            refine wpAnyH_take (i := 10) (v := .pointer (some ⟨b0, off + j * 6, none⟩)) rfl (by kernel_rfl) (by kernel_rfl) (by kernel_rfl) (fun _ _ _ h => h) (Or.inl ⟨by simp [Region.wanted], fun W _ => by go_simp⟩) hS ?_
            simp only [List.getElem_toArray, List.getElem_cons_zero, List.getElem_cons_succ, Act.put, List.setIfInBounds_toArray, List.set_cons_zero, List.set_cons_succ]
            refine wpAnyH_take (i := 11) (v := .pointer (some ⟨b0, off + j * 6 + 5, none⟩)) rfl (by kernel_rfl) (by kernel_rfl) (by kernel_rfl) (fun _ _ _ h => h) (Or.inl ⟨by simp [Region.wanted], fun W _ => by go_simp⟩) hS ?_
            simp only [List.getElem_toArray, List.getElem_cons_zero, List.getElem_cons_succ, Act.put, List.setIfInBounds_toArray, List.set_cons_zero, List.set_cons_succ]
            refine wpAnyH_take (i := 12) (v := .int .i64 s5) rfl (by kernel_rfl) (by kernel_rfl) (by kernel_rfl) (fun _ _ _ h => h) (Or.inl ⟨by simp [Region.wanted], fun W hW => by have h1 := HC5.out W hW; go_simp⟩) hS ?_
            simp only [List.getElem_toArray, List.getElem_cons_zero, List.getElem_cons_succ, Act.put, List.setIfInBounds_toArray, List.set_cons_zero, List.set_cons_succ]
            refine wpAnyH_ready (rs := [0, 13]) (by kernel_rfl) (by simp) ?_
            refine AllReadyH.cons rfl (fun K hK => ?_) (AllReadyH.cons rfl (fun K hK => ?_) AllReadyH.nil)
            · refine wanted_go rfl ?_
              simp only [List.getElem_toArray, List.getElem_cons_zero]
              have c0 := HE.out.bx.c0; have c1 := HE.out.bx.c1
              go_wp2
              clear c0 c1
              refine hK.out _ _ (HE.out.lo) (fun _ => ?_)
              refine wpAnyH_ready (rs := [13]) (by kernel_rfl) (by simp) ?_
              refine AllReadyH.cons rfl (fun K hK => ?_) AllReadyH.nil
              refine wanted_go rfl ?_
              simp only [List.getElem_toArray, List.getElem_cons_zero, List.getElem_cons_succ]
              go_wp2_with (go_at_call 34; refine (HMU.out _).mono ?_; rintro e w5 ⟨x5, p5, k5, c5, rfl, hbig, hb5⟩; have HG5 := Lib.hid hbig; have HS5 := Lib.hid (HE.out.below hb5); clear hbig hb5)
              refine hK.out _ _ (HS5.out.lo) (fun _ => ?_)
              refine wpAnyH_ready (rs := [14]) (by kernel_rfl) (by simp) ?_
              refine AllReadyH.cons rfl (fun K hK => ?_) AllReadyH.nil
              refine wanted_go rfl ?_
              simp only [List.getElem_toArray, List.getElem_cons_zero, List.getElem_cons_succ]
              go_wp2_with (go_at_call 33; refine (HAD.out _ _ _ HS5.out.big HG5.out).mono ?_; rintro e w6 ⟨x6, p6, k6, c6, rfl, hbig, hb6⟩; have HG6 := Lib.hid hbig; have HS6 := Lib.hid (HS5.out.below hb6); clear hbig hb6)
              refine hK.out _ _ (HS6.out.lo) (fun _ => ?_)
              refine wpAnyH_ready (rs := [15]) (by kernel_rfl) (by simp) ?_
              refine AllReadyH.cons rfl (fun K hK => ?_) AllReadyH.nil
              refine wanted_go rfl ?_
              simp only [List.getElem_toArray, List.getElem_cons_zero, List.getElem_cons_succ]
              have c0 := HS6.out.bx.c0; have c1 := HS6.out.bx.c1; have f0 := HS6.out.bx.f 0; have f1 := HS6.out.bx.f 1
              have HZ := Lib.hid (HS6.out.stored HG6.out)
              go_wp2
              clear c0 c1 f0 f1
              refine hK.out _ _ (HZ.out.lo) (fun _ => ?_)
              refine wpAnyH_done (by kernel_rfl) ?_ _
              go_wp2
              go_roundw
              case rel => exact ⟨j + 1, x6, p6, k6, c6, by go_num, hlt, by rw [HZP.out]; exact HZ.out⟩
              case measure => simp [intOf]; omega
            · refine wanted_go rfl ?_
              simp only [List.getElem_toArray, List.getElem_cons_zero, List.getElem_cons_succ]
              go_wp2_with (go_at_call 34; refine (HMU.out _).mono ?_; rintro e w5 ⟨x5, p5, k5, c5, rfl, hbig, hb5⟩; have HG5 := Lib.hid hbig; have HS5 := Lib.hid (HE.out.below hb5); clear hbig hb5)
              refine hK.out _ _ (HS5.out.lo) (fun _ => ?_)
              refine wpAnyH_ready (rs := [0]) (by kernel_rfl) (by simp) ?_
              refine AllReadyH.cons rfl (fun K hK => ?_) AllReadyH.nil
              refine wanted_go rfl ?_
              simp only [List.getElem_toArray, List.getElem_cons_zero]
              have c0 := HS5.out.bx.c0; have c1 := HS5.out.bx.c1
              go_wp2
              clear c0 c1
              refine hK.out _ _ (HS5.out.lo) (fun _ => ?_)
              refine wpAnyH_ready (rs := [14]) (by kernel_rfl) (by simp) ?_
              refine AllReadyH.cons rfl (fun K hK => ?_) AllReadyH.nil
              refine wanted_go rfl ?_
              simp only [List.getElem_toArray, List.getElem_cons_zero, List.getElem_cons_succ]
              go_wp2_with (go_at_call 33; refine (HAD.out _ _ _ HS5.out.big HG5.out).mono ?_; rintro e w6 ⟨x6, p6, k6, c6, rfl, hbig, hb6⟩; have HG6 := Lib.hid hbig; have HS6 := Lib.hid (HS5.out.below hb6); clear hbig hb6)
              refine hK.out _ _ (HS6.out.lo) (fun _ => ?_)
              refine wpAnyH_ready (rs := [15]) (by kernel_rfl) (by simp) ?_
              refine AllReadyH.cons rfl (fun K hK => ?_) AllReadyH.nil
              refine wanted_go rfl ?_
              simp only [List.getElem_toArray, List.getElem_cons_zero, List.getElem_cons_succ]
              have c0 := HS6.out.bx.c0; have c1 := HS6.out.bx.c1; have f0 := HS6.out.bx.f 0; have f1 := HS6.out.bx.f 1
              have HZ := Lib.hid (HS6.out.stored HG6.out)
              go_wp2
              clear c0 c1 f0 f1
              refine hK.out _ _ (HZ.out.lo) (fun _ => ?_)
              refine wpAnyH_done (by kernel_rfl) ?_ _
              go_wp2
              go_roundw
              case rel => exact ⟨j + 1, x6, p6, k6, c6, by go_num, hlt, by rw [HZP.out]; exact HZ.out⟩
              case measure => simp [intOf]; omega
          · have g : (s1 == acc) = false := by rw [beq_eq_false_iff_ne]; exact he
            have HNX := Lib.hid (ofAcc_no (j := 1) (a := acc) hx (show (key 1 [s0, s1, s2, s3, s4, s5] == acc) = false from g))
            clear he hx hmem hfp
            go_wp2
            go_roundw
            case rel => exact ⟨j + 1, x, p, k, c, by go_num, hlt, by rw [HNX.out]; exact HM.out⟩
            case measure => simp [intOf]; omega
        · rw [List.take_of_length_le (by rw [HMN.out]; omega)] at HM hfp
          rw [← HEX.out] at HM hfp
          clear HEX HF1
          generalize exT b acc q pc = z at *
          have b0 := HM.out.bx.c0; have b1 := HM.out.bx.c1
          have HX := Lib.hid HM.out.big.signM
          by_cases hz : z < 0
          · rw [need_no1 hz] at HFE
            have hx : x = true := by rw [HX.out]; exact decide_eq_true hz
            subst hx
            clear hz hfp
            go_wp2
            go_ret2
            exact ⟨HFE.out, HL2.out.trans (HM.out.lo.mono HL2.out.size)⟩
          · have hx : x = false := by rw [HX.out]; exact decide_eq_false hz
            subst hx
            clear HX
            by_cases h2 : r < 0
            · rw [need_no2 h2] at HFE
              clear hz hfp
              go_wp2
              go_ret2
              exact ⟨HFE.out, HL2.out.trans (HM.out.lo.mono HL2.out.size)⟩
            · by_cases h3 : 1000 < r
              · rw [need_no3 h3] at HFE
                clear hz hfp
                go_wp2
                go_ret2
                exact ⟨HFE.out, HL2.out.trans (HM.out.lo.mono HL2.out.size)⟩
              · rw [need_yes hz h2 h3, if_pos rfl, Bool.true_and] at HFE
                obtain ⟨u1, u2, u3, u4⟩ := need_up hfp hz h2 h3
                have HOR := Lib.hid (fun W => of7 r W HR.out.1 HR.out.2)
                have HMR := Lib.hid (fun v1 v2 W (h1 : BigIs W v1 z) (h2 : BigIs W v2 r) => mul15 v1 v2 z r W h1 h2 hfp.pow (in64_pow HR.out))
                have HUP := Lib.hid (fun v W (h : BigIs W v (z * r)) => upBy20 v (z * r) 100 W h u2 u1 (by omega) (by omega))
                rw [u4] at HUP
                have HFI := Lib.hid (fun v1 W h => fits24 v1 (shr z r) W h u3)
                generalize shr z r = sh at *
                generalize z * r = zr at *
                clear u1 u2 u3 u4 hfp
                go_upto_region 17 with (fail)
                clear b0 b1
                have HE := Lib.hid (HM.out.below ((Below.refl _ wr).drew))
                clear HM
                refine wp_region_held_drew (S := fun W => MidB w1 false (.slice p k c) z W) (by kernel_rfl) HE.out (fun hS => ?_)
                refine wpAnyH_take (i := 0) (v := .agg #[.bool false, .slice p k c]) rfl (by kernel_rfl) (by kernel_rfl) (by kernel_rfl) (fun _ _ _ h => h) (Or.inl ⟨by simp [Region.wanted], fun W hW => by have h1 := hW.bx.c0; have h2 := hW.bx.c1; go_simp⟩) hS ?_
                simp only [List.getElem_toArray, List.getElem_cons_zero, Act.put, List.setIfInBounds_toArray, List.set_cons_zero, List.set_cons_succ]
                refine wpAnyH_take (i := 1) (v := .int .i64 r) rfl (by kernel_rfl) (by kernel_rfl) (by kernel_rfl) (fun _ _ _ h => h) (Or.inl ⟨by simp [Region.wanted], fun W _ => by go_simp⟩) hS ?_
                simp only [List.getElem_toArray, List.getElem_cons_zero, List.getElem_cons_succ, Act.put, List.setIfInBounds_toArray, List.set_cons_zero, List.set_cons_succ]
                refine wpAnyH_ready (rs := [2]) (by kernel_rfl) (by simp) ?_
                refine AllReadyH.cons rfl (fun K hK => ?_) AllReadyH.nil
                refine wanted_go rfl ?_
                simp only [List.getElem_toArray, List.getElem_cons_zero, List.getElem_cons_succ]
                go_wp2_with (go_at_call 31; refine (HOR.out _).mono ?_; rintro e w5 ⟨x5, p5, k5, c5, rfl, hbig, hb5⟩; have HG5 := Lib.hid hbig; have HS5 := Lib.hid (hS.below hb5); clear hbig hb5)
                refine hK.out _ _ (HS5.out) (fun _ => ?_)
                refine wpAnyH_ready (rs := [3]) (by kernel_rfl) (by simp) ?_
                refine AllReadyH.cons rfl (fun K hK => ?_) AllReadyH.nil
                refine wanted_go rfl ?_
                simp only [List.getElem_toArray, List.getElem_cons_zero, List.getElem_cons_succ]
                go_wp2_with (go_at_call 37; refine (HMR.out _ _ _ HS5.out.big HG5.out).mono ?_; rintro e w6 ⟨x6, p6, k6, c6, rfl, hbig, hb6⟩; have HG6 := Lib.hid hbig; have HS6 := Lib.hid (HS5.out.below hb6); clear hbig hb6)
                refine hK.out _ _ (HS6.out) (fun _ => ?_)
                refine wpAnyH_ready (rs := [4]) (by kernel_rfl) (by simp) ?_
                refine AllReadyH.cons rfl (fun K hK => ?_) AllReadyH.nil
                refine wanted_go rfl ?_
                simp only [List.getElem_toArray, List.getElem_cons_zero, List.getElem_cons_succ]
                go_wp2_with (go_at_call 36; refine (HUP.out _ _ HG6.out).mono ?_; rintro e w7 ⟨x7, p7, k7, c7, rfl, hbig, hb7⟩; have HG7 := Lib.hid hbig; have HS7 := Lib.hid (HS6.out.below hb7); clear hbig hb7)
                refine hK.out _ _ (HS7.out) (fun _ => ?_)
                refine wpAnyH_ready (rs := [5]) (by kernel_rfl) (by simp) ?_
                refine AllReadyH.cons rfl (fun K hK => ?_) AllReadyH.nil
                refine wanted_go rfl ?_
                simp only [List.getElem_toArray, List.getElem_cons_zero, List.getElem_cons_succ]
                go_wp2_with (go_at_call 35; refine (HFI.out _ _ HG7.out).mono ?_; rintro e w8 ⟨rfl, hb8⟩; have HS8 := Lib.hid (HS7.out.below hb8); clear hb8)
                refine hK.out _ _ (HS8.out) (fun _ => ?_)
                refine wpAnyH_take (i := 6) (v := .int .i64 (fitV sh)) rfl (by kernel_rfl) (by kernel_rfl) (by kernel_rfl) (fun _ _ _ h => h) (Or.inl ⟨by simp [Region.wanted], fun W _ => by go_simp⟩) HS8.out ?_
                simp only [List.getElem_toArray, List.getElem_cons_zero, List.getElem_cons_succ, Act.put, List.setIfInBounds_toArray, List.set_cons_zero, List.set_cons_succ]
                refine wpAnyH_take (i := 7) (v := .bool (fitB sh)) rfl (by kernel_rfl) (by kernel_rfl) (by kernel_rfl) (fun _ _ _ h => h) (Or.inl ⟨by simp [Region.wanted], fun W _ => by go_simp⟩) HS8.out ?_
                simp only [List.getElem_toArray, List.getElem_cons_zero, List.getElem_cons_succ, Act.put, List.setIfInBounds_toArray, List.set_cons_zero, List.set_cons_succ]
                refine wpAnyH_take (i := 8) (v := .int .i64 (fitV sh)) rfl (by kernel_rfl) (by kernel_rfl) (by kernel_rfl) (fun _ _ _ h => h) (Or.inl ⟨by simp [Region.wanted], fun W _ => by go_simp⟩) HS8.out ?_
                simp only [List.getElem_toArray, List.getElem_cons_zero, List.getElem_cons_succ, Act.put, List.setIfInBounds_toArray, List.set_cons_zero, List.set_cons_succ]
                refine wpAnyH_take (i := 9) (v := .bool (fitB sh)) rfl (by kernel_rfl) (by kernel_rfl) (by kernel_rfl) (fun _ _ _ h => h) (Or.inl ⟨by simp [Region.wanted], fun W _ => by go_simp⟩) HS8.out ?_
                simp only [List.getElem_toArray, List.getElem_cons_zero, List.getElem_cons_succ, Act.put, List.setIfInBounds_toArray, List.set_cons_zero, List.set_cons_succ]
                refine wpAnyH_done (by kernel_rfl) ?_ _
                go_wp2
                go_ret2
                exact ⟨HFE.out, HL2.out.trans (HS8.out.lo.mono HL2.out.size)⟩
end Go.Proofs.Ytmndkbfjmamnfaa
