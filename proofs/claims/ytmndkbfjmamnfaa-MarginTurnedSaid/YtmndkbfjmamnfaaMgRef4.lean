/- The document's Reach: the contract. -/
import Derived.Test.YtmndkbfjmamnfaaMgRef3
namespace Go.Proofs.Ytmndkbfjmamnfaa
open Go.RowKit Base Base2

theorem far_step {a sy d : Int} {l : List Item} {j : Nat} {x : Item} (hx : l[j]? = some x) (h1 : (key 1 x == a) = true) (h2 : (key 2 x == sy) = true) (h3 : (key 3 x == d) = true) : sumI (key 4) (ofSD sy d (ofAcc 1 a (l.take (j + 1)))) = sumI (key 4) (ofSD sy d (ofAcc 1 a (l.take j))) + key 4 x := by
  rw [ofAcc_yes hx h1, ofSD_snoc, h2, h3, Bool.and_self, if_pos rfl, sumI_snoc]
theorem far_no1 {a sy d : Int} {l : List Item} {j : Nat} {x : Item} (hx : l[j]? = some x) (h1 : (key 1 x == a) = false) : sumI (key 4) (ofSD sy d (ofAcc 1 a (l.take (j + 1)))) = sumI (key 4) (ofSD sy d (ofAcc 1 a (l.take j))) := by rw [ofAcc_no hx h1]
theorem far_no2 {a sy d : Int} {l : List Item} {j : Nat} {x : Item} (hx : l[j]? = some x) (h1 : (key 1 x == a) = true) (h2 : (key 2 x == sy) = false ∨ (key 3 x == d) = false) : sumI (key 4) (ofSD sy d (ofAcc 1 a (l.take (j + 1)))) = sumI (key 4) (ofSD sy d (ofAcc 1 a (l.take j))) := by
  have h3 : (key 2 x == sy && key 3 x == d) = false := by rcases h2 with h | h <;> simp [h]
  rw [ofAcc_yes hx h1, ofSD_snoc, h3, if_neg (by simp), List.append_nil]
/-- And an order beside it. -/
structure MidO (W0 : World) (g : Nat) (ob : Obj) (x : Bool) (u : Value) (z : Int) (W : World) : Prop where
  m : MidB W0 x u z W
  hg : W0.heap.size < g
  c : W.heap[g]? = some ob
theorem MidO.below {W0 : World} {g : Nat} {ob : Obj} {x : Bool} {u : Value} {z : Int} {W W' : World} (h : MidO W0 g ob x u z W) (hb : Below W.heap.size W W') : MidO W0 g ob x u z W' := ⟨h.m.below hb, h.hg, (hb.block _ (blk_ltK h.c)).trans h.c⟩
theorem MidO.stored {W0 : World} {g : Nat} {ob : Obj} {x x' : Bool} {a a' : Option Addr} {k c k' c' : Nat} {z z' : Int} {W : World} (s : MidO W0 g ob x (.slice a k c) z W) (hb : BigIs W (.agg #[.bool x', .slice a' k' c']) z') :
    MidO W0 g ob x' (.slice a' k' c') z' ((W.setCell ⟨W0.heap.size, 0, none⟩ (.bool x')).setCell ⟨W0.heap.size, 1, none⟩ (.slice a' k' c')) :=
  ⟨s.m.stored hb, s.hg, by have := s.hg; rw [heap_setCell_ne _ (by omega), heap_setCell_ne _ (by omega)]; exact s.c⟩
theorem side_no {d : Int} (h0 : d ≠ 0) (h1 : d ≠ 1) : sideB d = false := by unfold sideB; simp [h0, h1]
set_option maxRecDepth 100000 in
set_option maxHeartbeats 8000000 in
theorem rreach15 (v : Slots) (b : BookT) (acc sy d q : Int) (w : World) (hb : BookIn w v b) (hk : BookOk 2000 b) (hq : In64' q) :
    Calls Try.prog 15 #[.agg (cellsB v b), .int .i64 acc, .int .i64 sy, .int .i64 d, .int .i64 q] w fun e w' => e = .returned (.tuple #[.int .i64 (if sideB d then fitV (farT b acc sy d q) else 0), .bool (sideB d && fitB (farT b acc sy d q))]) ∧ Below w.heap.size w w' := by
  obtain ⟨W0, hW0⟩ : ∃ x, w.alloc (.cells (cellsB v b) 27) = x := ⟨_, rfl⟩
  have hA : Below w.heap.size w W0 := by rw [← hW0]; exact (Below.refl _ w).alloc (Nat.le_refl _) _
  have hg : BoxB W0 w.heap.size v b := by rw [← hW0]; exact BoxB.new w v b
  have HA := Lib.hid hA
  have HBI := Lib.hid (show BkIn w.heap.size v b W0 from ⟨hg, hb.below hA⟩)
  have HLB := Lib.hid (load_book hg)
  have HST := Lib.hid (show Calls Try.prog 40 #[.agg (cellsB v b), .int .i64 acc, .int .i64 sy] W0 fun e w' => e = .returned (.int .i64 (stakeOf b acc sy)) ∧ Below W0.heap.size W0 w' from rstake22 v b acc sy W0 (hb.below hA) hk.ss)
  have st64 := stake_in hk.ss acc sy
  have HSI := Lib.hid st64
  have HK := Lib.hid hk
  have HQ := Lib.hid hq
  obtain ⟨st, hst⟩ : ∃ x, stakeOf b acc sy = x := ⟨_, rfl⟩
  have HFA := Lib.hid (show farT b acc sy d q = sgD d * st + q + sumI (key 4) (ofSD sy d (ofAcc 1 acc b.os)) by rw [← hst]; rfl)
  rw [hst] at HST HSI st64
  have HOS := Lib.hid (fun W => of7 st W st64.1 st64.2)
  have HOQ := Lib.hid (fun W => of7 q W hq.1 hq.2)
  obtain ⟨fe, hfe⟩ : ∃ x, Ending.returned (.tuple #[.int .i64 (if sideB d then fitV (farT b acc sy d q) else 0), .bool (sideB d && fitB (farT b acc sy d q))]) = x := ⟨_, rfl⟩
  have HFE := Lib.hid hfe
  rw [hfe]
  clear hfe hb hk hA hg hst st64 hq
  generalize hCA : cellsB v b = CA at *
  have HCA := Lib.hid hCA
  clear hCA
  by_cases hd : d = 0 ∨ d = 1
  case neg =>
    have d0 : d ≠ 0 := fun h => hd (.inl h)
    have d1 : d ≠ 1 := fun h => hd (.inr h)
    rw [side_no d0 d1] at HFE
    have g0 : (d != 0) = true := by simpa using d0
    have g1 : (d != 1) = true := by simpa using d1
    clear hd d0 d1
    go_enter Try.func15, Try.ntmps15
    go_wp2
    go_ret2
    exact ⟨HFE.out, HA.out⟩
  have hsd : sideB d = true := by unfold sideB; rcases hd with h | h <;> simp [h]
  rw [hsd, if_pos rfl, Bool.true_and] at HFE
  clear hsd
  have hgd : ((d != 0) && (d != 1)) = false := by rcases hd with h | h <;> simp [h]
  go_enter Try.func15, Try.ntmps15
  have HD := Lib.hid hd
  rcases hd with rfl | rfl
  · go_upto_region 4 with (first
      | ((with_reducible refine atLoad (ty := 27) (x := .tmp 5) rfl ?_); refine loadE (wanted_noneD rfl) 27 (.tmp 5) rfl _ (.agg CA) rfl HLB.out ?_)
      | (go_at_call 40; refine HST.out.mono ?_; rintro e w1 ⟨rfl, hb1⟩; have HB1 := Lib.hid hb1; clear hb1)
      | (go_at_call 31; refine (HOS.out _).mono ?_; rintro e w2 ⟨x0, p0, k0, c0, rfl, hbig, hb2⟩; have HG2 := Lib.hid hbig; have HB2 := Lib.hid hb2; clear hbig hb2))
    have hw2 : Below W0.heap.size W0 w2 := HB1.out.trans (HB2.out.mono HB1.out.size)
    have HBJ := Lib.hid (show BkIn w.heap.size v b w2 from ⟨HBI.out.box hw2, HBI.out.book hw2⟩)
    have HL2 := Lib.hid (HA.out.trans (hw2.mono HA.out.size))
    refine at_world (Φ := fun W => MidB w2 x0 (.slice p0 k0 c0) st W) (MidB.new HG2.out) ?_
    clear hw2 hW0 HLB HST HOS HBI HB1 HB2 HG2
    rintro W2 hM
    have HM1 := Lib.hid hM
    clear hM
    go_upto_region 6 with (fail)
    refine at_world (Φ := fun W => MidB w2 x0 (.slice p0 k0 c0) (sgD 0 * st) W) (by rw [show sgD 0 * st = st by unfold sgD; rw [if_neg (by decide)]; omega]; exact HM1.out) ?_
    rintro W3 hM
    obtain ⟨m, hm⟩ : ∃ n, b.os.length = n := ⟨_, rfl⟩
    have HMN := Lib.hid hm
    have HKO := Lib.hid HK.out.os
    have HCO := Lib.hid (fun W (h : Below w2.heap.size w2 W) => show W.cell? ⟨w.heap.size, 2, none⟩ = some (.slice v.o m v.co) from by rw [← HMN.out]; exact (HBJ.out.box h).cells.2.2.1)
    have HROO := Lib.hid (fun W (h : Below w2.heap.size w2 W) => (HBJ.out.book h).os)
    have hme : m ≤ 2000 := by rw [← HMN.out]; exact HKO.out.1
    clear hm
    have HM := Lib.hid hM
    clear hM
    have hfz : (sgD 0 * st).natAbs < 10000 ^ 100 := pow50 (by have := prod_nat (sg_in 0) HSI.out; omega)
    have HAD := Lib.hid (fun (v1 v2 : Value) (W : World) (h1 : BigIs W v1 (sgD 0 * st)) (h2 : BigIs W v2 q) => add13 v1 v2 (sgD 0 * st) q W h1 h2 hfz (in64_pow HQ.out))
    clear hfz
    go_cut [] from 30 to 33 (fun wx => ∃ (x : Bool) (p : Option Addr) (k c : Nat), MidB w2 x (.slice p k c) (sgD 0 * st + q) wx)
    case first =>
      have HE := Lib.hid (HM.out.below ((Below.refl _ W3).drew))
      clear HM
      refine wp_region_held_drew (S := fun W => Below w2.heap.size w2 W) (by kernel_rfl) HE.out.lo (fun hS => ?_)
      refine wpAnyH_take (i := 1) (v := .int .i64 q) rfl (by kernel_rfl) (by kernel_rfl) (by kernel_rfl) (fun _ _ _ h => h) (Or.inl ⟨by simp [Region.wanted], fun W _ => by go_simp⟩) hS ?_
      simp only [List.getElem_toArray, List.getElem_cons_zero, List.getElem_cons_succ, Act.put, List.setIfInBounds_toArray, List.set_cons_zero, List.set_cons_succ]
      refine wpAnyH_ready (rs := [0, 2]) (by kernel_rfl) (by simp) ?_
      refine AllReadyH.cons rfl (fun K hK => ?_) (AllReadyH.cons rfl (fun K hK => ?_) AllReadyH.nil)
      · refine wanted_go rfl ?_
        simp only [List.getElem_toArray, List.getElem_cons_zero]
        have c0 := HE.out.bx.c0; have c1 := HE.out.bx.c1
        go_wp2
        clear c0 c1
        refine hK.out _ _ (HE.out.lo) (fun _ => ?_)
        refine wpAnyH_ready (rs := [2]) (by kernel_rfl) (by simp) ?_
        refine AllReadyH.cons rfl (fun K hK => ?_) AllReadyH.nil
        refine wanted_go rfl ?_
        simp only [List.getElem_toArray, List.getElem_cons_zero, List.getElem_cons_succ]
        go_wp2_with (go_at_call 31; refine (HOQ.out _).mono ?_; rintro e w5 ⟨x5, p5, k5, c5, rfl, hbig, hb5⟩; have HG5 := Lib.hid hbig; have HS5 := Lib.hid (HE.out.below hb5); clear hbig hb5)
        refine hK.out _ _ (HS5.out.lo) (fun _ => ?_)
        refine wpAnyH_ready (rs := [3]) (by kernel_rfl) (by simp) ?_
        refine AllReadyH.cons rfl (fun K hK => ?_) AllReadyH.nil
        refine wanted_go rfl ?_
        simp only [List.getElem_toArray, List.getElem_cons_zero, List.getElem_cons_succ]
        go_wp2_with (go_at_call 33; refine (HAD.out _ _ _ HS5.out.big HG5.out).mono ?_; rintro e w6 ⟨x6, p6, k6, c6, rfl, hbig, hb6⟩; have HG6 := Lib.hid hbig; have HS6 := Lib.hid (HS5.out.below hb6); clear hbig hb6)
        refine hK.out _ _ (HS6.out.lo) (fun _ => ?_)
        refine wpAnyH_ready (rs := [4]) (by kernel_rfl) (by simp) ?_
        refine AllReadyH.cons rfl (fun K hK => ?_) AllReadyH.nil
        refine wanted_go rfl ?_
        simp only [List.getElem_toArray, List.getElem_cons_zero, List.getElem_cons_succ]
        have c0 := HS6.out.bx.c0; have c1 := HS6.out.bx.c1; have f0 := HS6.out.bx.f 0; have f1 := HS6.out.bx.f 1
        have HZ := Lib.hid (HS6.out.stored HG6.out)
        go_wp2
        clear c0 c1 f0 f1
        refine hK.out _ _ (HZ.out.lo) (fun _ => ?_)
        refine wpAnyH_done (by kernel_rfl) ?_ _
        go_wp2
        go_meet
        exact ⟨_, _, _, _, HZ.out⟩
      · refine wanted_go rfl ?_
        simp only [List.getElem_toArray, List.getElem_cons_zero, List.getElem_cons_succ]
        go_wp2_with (go_at_call 31; refine (HOQ.out _).mono ?_; rintro e w5 ⟨x5, p5, k5, c5, rfl, hbig, hb5⟩; have HG5 := Lib.hid hbig; have HS5 := Lib.hid (HE.out.below hb5); clear hbig hb5)
        refine hK.out _ _ (HS5.out.lo) (fun _ => ?_)
        refine wpAnyH_ready (rs := [0]) (by kernel_rfl) (by simp) ?_
        refine AllReadyH.cons rfl (fun K hK => ?_) AllReadyH.nil
        refine wanted_go rfl ?_
        simp only [List.getElem_toArray, List.getElem_cons_zero]
        have c0 := HS5.out.bx.c0; have c1 := HS5.out.bx.c1
        go_wp2
        clear c0 c1
        refine hK.out _ _ (HS5.out.lo) (fun _ => ?_)
        refine wpAnyH_ready (rs := [3]) (by kernel_rfl) (by simp) ?_
        refine AllReadyH.cons rfl (fun K hK => ?_) AllReadyH.nil
        refine wanted_go rfl ?_
        simp only [List.getElem_toArray, List.getElem_cons_zero, List.getElem_cons_succ]
        go_wp2_with (go_at_call 33; refine (HAD.out _ _ _ HS5.out.big HG5.out).mono ?_; rintro e w6 ⟨x6, p6, k6, c6, rfl, hbig, hb6⟩; have HG6 := Lib.hid hbig; have HS6 := Lib.hid (HS5.out.below hb6); clear hbig hb6)
        refine hK.out _ _ (HS6.out.lo) (fun _ => ?_)
        refine wpAnyH_ready (rs := [4]) (by kernel_rfl) (by simp) ?_
        refine AllReadyH.cons rfl (fun K hK => ?_) AllReadyH.nil
        refine wanted_go rfl ?_
        simp only [List.getElem_toArray, List.getElem_cons_zero, List.getElem_cons_succ]
        have c0 := HS6.out.bx.c0; have c1 := HS6.out.bx.c1; have f0 := HS6.out.bx.f 0; have f1 := HS6.out.bx.f 1
        have HZ := Lib.hid (HS6.out.stored HG6.out)
        go_wp2
        clear c0 c1 f0 f1
        refine hK.out _ _ (HZ.out.lo) (fun _ => ?_)
        refine wpAnyH_done (by kernel_rfl) ?_ _
        go_wp2
        go_meet
        exact ⟨_, _, _, _, HZ.out⟩
    case rest =>
      obtain ⟨x1, p1, k1, c1, hM⟩ := hcut
      have HM0 := Lib.hid hM
      clear hM HM
      have HZQ := Lib.hid (show (sgD 0 * st + q).natAbs ≤ 200000000000000000000000000000000000000000 by have h1 := prod_nat (sg_in 0) HSI.out; have h2 := HQ.out; unfold In64' at h2; omega)
      generalize sgD 0 * st + q = z1 at *
      go_wp2
      go_loopw [13] (fun vi W => ∃ (i : Nat) (x : Bool) (p : Option Addr) (k c : Nat), vi = .int .i64 (i : Int) ∧ i ≤ m ∧ MidB w2 x (.slice p k c) (z1 + sumI (key 4) (ofSD sy 0 (ofAcc 1 acc (b.os.take i)))) W) (fun vi _ => m - (intOf vi).toNat)
      case atStart => exact ⟨0, x1, p1, k1, c1, rfl, Nat.zero_le _, by rw [List.take_zero]; show MidB w2 x1 (.slice p1 k1 c1) (z1 + 0) wc; rw [Int.add_zero]; exact HM0.out⟩
      case round =>
        clear HM0
        obtain ⟨j, x, p, k, c, rfl, hj, hM⟩ := hrel
        have HM := Lib.hid hM
        have c2 := HCO.out _ hM.lo
        clear hM
        have hfp : Fine (z1 + sumI (key 4) (ofSD sy 0 (ofAcc 1 acc (b.os.take j)))) := by
          obtain ⟨s, hs⟩ := ofAcc_pre (j := 1) (a := acc) b.os j
          have h1 := far_sum (sy := sy) (d := 0) HK.out hs
          have h2 := HZQ.out
          exact fine_of (by omega)
        by_cases hlt : j < m
        · obtain ⟨it, hx⟩ : ∃ x, b.os[j]? = some x := ⟨b.os[j]'(by rw [HMN.out]; exact hlt), by simp [HMN.out, hlt]⟩
          obtain ⟨s0, s1, s2, s3, s4, s5, rfl⟩ := item6 (HKO.out.2 _ (List.mem_of_getElem? hx)).1
          have hmem := List.mem_of_getElem? hx
          obtain ⟨b0, off, hvs, hb0, hcs⟩ := (HROO.out w2 (Below.refl _ _)).at hx
          have k0 := hcs wr HM.out.lo 0 s0 rfl
          have k1 := hcs wr HM.out.lo 1 s1 rfl
          have k2 := hcs wr HM.out.lo 2 s2 rfl
          have k3 := hcs wr HM.out.lo 3 s3 rfl
          have k4 := hcs wr HM.out.lo 4 s4 rfl
          have k5 := hcs wr HM.out.lo 5 s5 rfl
          rw [Nat.add_zero] at k0
          rw [hvs] at HCO c2
          clear hcs hb0 hvs
          go_upto_region 11 with (fail)
          obtain ⟨w4, hw4⟩ : ∃ x, wr.alloc (.cells #[.int .i64 s0, .int .i64 s1, .int .i64 s2, .int .i64 s3, .int .i64 s4, .int .i64 s5] 37) = x := ⟨_, rfl⟩
          have hb4 : Below wr.heap.size wr w4 := by rw [← hw4]; exact (Below.refl _ _).alloc (Nat.le_refl _) _
          have hz4 : w4.heap[wr.heap.size]? = some (.cells #[.int .i64 s0, .int .i64 s1, .int .i64 s2, .int .i64 s3, .int .i64 s4, .int .i64 s5] 37 (0, 0)) := by rw [← hw4]; exact heap_alloc_new wr _
          have o1 : w4.cell? ⟨wr.heap.size, 1, none⟩ = some (.int .i64 s1) := by rw [cell_of_row _ _ _ _ _ _ hz4]; rfl
          have o2 : w4.cell? ⟨wr.heap.size, 2, none⟩ = some (.int .i64 s2) := by rw [cell_of_row _ _ _ _ _ _ hz4]; rfl
          have o3 : w4.cell? ⟨wr.heap.size, 3, none⟩ = some (.int .i64 s3) := by rw [cell_of_row _ _ _ _ _ _ hz4]; rfl
          obtain ⟨ob, hob⟩ : ∃ ob, Obj.cells #[.int .i64 s0, .int .i64 s1, .int .i64 s2, .int .i64 s3, .int .i64 s4, .int .i64 s5] 37 (0, 0) = ob := ⟨_, rfl⟩
          have HOB := Lib.hid (fun (W : World) (h : W.heap[wr.heap.size]? = some ob) => show W.cell? ⟨wr.heap.size, 4, none⟩ = some (.int .i64 s4) from by rw [← hob] at h; rw [cell_of_row _ _ _ _ _ _ h]; rfl)
          rw [hob] at hz4
          have HM4 := Lib.hid (show MidO w2 wr.heap.size ob x (.slice p k c) (z1 + sumI (key 4) (ofSD sy 0 (ofAcc 1 acc (b.os.take j)))) w4 from ⟨HM.out.below hb4, HM.out.lt, hz4⟩)
          rw [hw4]
          clear hw4 hb4 hz4 hob k0 k1 k2 k3 k4 k5 c2 HM
          by_cases he1 : s1 = acc
          case neg =>
            have g : (s1 == acc) = false := by rw [beq_eq_false_iff_ne]; exact he1
            have HNX := Lib.hid (far_no1 (a := acc) (sy := sy) (d := 0) hx (show (key 1 [s0, s1, s2, s3, s4, s5] == acc) = false from g))
            clear he1 hx hmem hfp
            go_wp2
            go_roundw
            case rel => exact ⟨j + 1, x, p, k, c, by go_num, hlt, by rw [HNX.out]; exact HM4.out.m⟩
            case measure => simp [intOf]; omega
          have g1 : (s1 == acc) = true := by rw [beq_iff_eq]; exact he1
          by_cases he2 : s2 = sy
          case neg =>
            have g : (s2 == sy) = false := by rw [beq_eq_false_iff_ne]; exact he2
            have HNX := Lib.hid (far_no2 (a := acc) (sy := sy) (d := 0) hx (show (key 1 [s0, s1, s2, s3, s4, s5] == acc) = true from g1) (.inl (show (key 2 [s0, s1, s2, s3, s4, s5] == sy) = false from g)))
            clear he1 he2 hx hmem hfp
            go_wp2
            go_roundw
            case rel => exact ⟨j + 1, x, p, k, c, by go_num, hlt, by rw [HNX.out]; exact HM4.out.m⟩
            case measure => simp [intOf]; omega
          have g2 : (s2 == sy) = true := by rw [beq_iff_eq]; exact he2
          by_cases he3 : s3 = 0
          case neg =>
            have g : (s3 == 0) = false := by rw [beq_eq_false_iff_ne]; exact he3
            have HNX := Lib.hid (far_no2 (a := acc) (sy := sy) (d := 0) hx (show (key 1 [s0, s1, s2, s3, s4, s5] == acc) = true from g1) (.inr (show (key 3 [s0, s1, s2, s3, s4, s5] == 0) = false from g)))
            clear he1 he2 he3 hx hmem hfp
            go_wp2
            go_roundw
            case rel => exact ⟨j + 1, x, p, k, c, by go_num, hlt, by rw [HNX.out]; exact HM4.out.m⟩
            case measure => simp [intOf]; omega
          have g3 : (s3 == 0) = true := by rw [beq_iff_eq]; exact he3
          have hnx : z1 + sumI (key 4) (ofSD sy 0 (ofAcc 1 acc (b.os.take (j + 1)))) = z1 + sumI (key 4) (ofSD sy 0 (ofAcc 1 acc (b.os.take j))) + s4 := by
            rw [far_step (a := acc) (sy := sy) (d := 0) hx (show (key 1 [s0, s1, s2, s3, s4, s5] == acc) = true from g1) (show (key 2 [s0, s1, s2, s3, s4, s5] == sy) = true from g2) (show (key 3 [s0, s1, s2, s3, s4, s5] == 0) = true from g3)]
            show z1 + (_ + s4) = _
            omega
          have HNX := Lib.hid hnx
          have q64 : In64' s4 := key_in HKO.out hmem 4
          have HOF := Lib.hid (fun W => of7 s4 W q64.1 q64.2)
          have HFP := Lib.hid hfp.pow
          have HQW := Lib.hid (in64_pow q64)
          clear hnx he1 he2 he3 hx hmem q64 hfp HAD
          generalize z1 + sumI (key 4) (ofSD sy 0 (ofAcc 1 acc (b.os.take j))) = z at *
          obtain ⟨z', hz'⟩ : ∃ z', z1 + sumI (key 4) (ofSD sy 0 (ofAcc 1 acc (b.os.take (j + 1)))) = z' := ⟨_, rfl⟩
          rw [hz'] at HNX
          have HZP := Lib.hid hz'
          clear hz'
          have HAD := Lib.hid (fun (v1 v2 : Value) (W : World) (h1 : BigIs W v1 z) (h2 : BigIs W v2 s4) => add13 v1 v2 z s4 W h1 h2 HFP.out HQW.out)
          rw [← HNX.out] at HAD
          go_upto_region 12 with (fail)
          clear o1 o2 o3
          have HE := Lib.hid (HM4.out.below ((Below.refl _ w4).drew))
          refine wp_region_held_drew (S := fun W => W.heap[wr.heap.size]? = some ob) (by kernel_rfl) HE.out.c (fun hS => ?_)
          refine wpAnyH_take (i := 1) (v := .pointer (some ⟨wr.heap.size, 4, none⟩)) rfl (by kernel_rfl) (by kernel_rfl) (by kernel_rfl) (fun _ _ _ h => h) (Or.inl ⟨by simp [Region.wanted], fun W _ => by go_simp⟩) hS ?_
          simp only [List.getElem_toArray, List.getElem_cons_zero, List.getElem_cons_succ, Act.put, List.setIfInBounds_toArray, List.set_cons_zero, List.set_cons_succ]
          refine wpAnyH_take (i := 2) (v := .int .i64 s4) rfl (by kernel_rfl) (by kernel_rfl) (by kernel_rfl) (fun _ _ _ h => h) (Or.inl ⟨by simp [Region.wanted], fun W hW => by have h1 := HOB.out W hW; go_simp⟩) hS ?_
          simp only [List.getElem_toArray, List.getElem_cons_zero, List.getElem_cons_succ, Act.put, List.setIfInBounds_toArray, List.set_cons_zero, List.set_cons_succ]
          refine wpAnyH_ready (rs := [0, 3]) (by kernel_rfl) (by simp) ?_
          refine AllReadyH.cons rfl (fun K hK => ?_) (AllReadyH.cons rfl (fun K hK => ?_) AllReadyH.nil)
          · refine wanted_go rfl ?_
            simp only [List.getElem_toArray, List.getElem_cons_zero]
            have c0 := HE.out.m.bx.c0; have c1 := HE.out.m.bx.c1
            go_wp2
            clear c0 c1
            refine hK.out _ _ (HE.out.c) (fun _ => ?_)
            refine wpAnyH_ready (rs := [3]) (by kernel_rfl) (by simp) ?_
            refine AllReadyH.cons rfl (fun K hK => ?_) AllReadyH.nil
            refine wanted_go rfl ?_
            simp only [List.getElem_toArray, List.getElem_cons_zero, List.getElem_cons_succ]
            go_wp2_with (go_at_call 31; refine (HOF.out _).mono ?_; rintro e w5 ⟨x5, p5, k5, c5, rfl, hbig, hb5⟩; have HG5 := Lib.hid hbig; have HS5 := Lib.hid (HE.out.below hb5); clear hbig hb5)
            refine hK.out _ _ (HS5.out.c) (fun _ => ?_)
            refine wpAnyH_ready (rs := [4]) (by kernel_rfl) (by simp) ?_
            refine AllReadyH.cons rfl (fun K hK => ?_) AllReadyH.nil
            refine wanted_go rfl ?_
            simp only [List.getElem_toArray, List.getElem_cons_zero, List.getElem_cons_succ]
            go_wp2_with (go_at_call 33; refine (HAD.out _ _ _ HS5.out.m.big HG5.out).mono ?_; rintro e w6 ⟨x6, p6, k6, c6, rfl, hbig, hb6⟩; have HG6 := Lib.hid hbig; have HS6 := Lib.hid (HS5.out.below hb6); clear hbig hb6)
            refine hK.out _ _ (HS6.out.c) (fun _ => ?_)
            refine wpAnyH_ready (rs := [5]) (by kernel_rfl) (by simp) ?_
            refine AllReadyH.cons rfl (fun K hK => ?_) AllReadyH.nil
            refine wanted_go rfl ?_
            simp only [List.getElem_toArray, List.getElem_cons_zero, List.getElem_cons_succ]
            have c0 := HS6.out.m.bx.c0; have c1 := HS6.out.m.bx.c1; have f0 := HS6.out.m.bx.f 0; have f1 := HS6.out.m.bx.f 1
            have HZ := Lib.hid (HS6.out.stored HG6.out)
            go_wp2
            clear c0 c1 f0 f1
            refine hK.out _ _ (HZ.out.c) (fun _ => ?_)
            refine wpAnyH_done (by kernel_rfl) ?_ _
            go_wp2
            go_roundw
            case rel => exact ⟨j + 1, x6, p6, k6, c6, by go_num, hlt, by rw [HZP.out]; exact HZ.out.m⟩
            case measure => simp [intOf]; omega
          · refine wanted_go rfl ?_
            simp only [List.getElem_toArray, List.getElem_cons_zero, List.getElem_cons_succ]
            go_wp2_with (go_at_call 31; refine (HOF.out _).mono ?_; rintro e w5 ⟨x5, p5, k5, c5, rfl, hbig, hb5⟩; have HG5 := Lib.hid hbig; have HS5 := Lib.hid (HE.out.below hb5); clear hbig hb5)
            refine hK.out _ _ (HS5.out.c) (fun _ => ?_)
            refine wpAnyH_ready (rs := [0]) (by kernel_rfl) (by simp) ?_
            refine AllReadyH.cons rfl (fun K hK => ?_) AllReadyH.nil
            refine wanted_go rfl ?_
            simp only [List.getElem_toArray, List.getElem_cons_zero]
            have c0 := HS5.out.m.bx.c0; have c1 := HS5.out.m.bx.c1
            go_wp2
            clear c0 c1
            refine hK.out _ _ (HS5.out.c) (fun _ => ?_)
            refine wpAnyH_ready (rs := [4]) (by kernel_rfl) (by simp) ?_
            refine AllReadyH.cons rfl (fun K hK => ?_) AllReadyH.nil
            refine wanted_go rfl ?_
            simp only [List.getElem_toArray, List.getElem_cons_zero, List.getElem_cons_succ]
            go_wp2_with (go_at_call 33; refine (HAD.out _ _ _ HS5.out.m.big HG5.out).mono ?_; rintro e w6 ⟨x6, p6, k6, c6, rfl, hbig, hb6⟩; have HG6 := Lib.hid hbig; have HS6 := Lib.hid (HS5.out.below hb6); clear hbig hb6)
            refine hK.out _ _ (HS6.out.c) (fun _ => ?_)
            refine wpAnyH_ready (rs := [5]) (by kernel_rfl) (by simp) ?_
            refine AllReadyH.cons rfl (fun K hK => ?_) AllReadyH.nil
            refine wanted_go rfl ?_
            simp only [List.getElem_toArray, List.getElem_cons_zero, List.getElem_cons_succ]
            have c0 := HS6.out.m.bx.c0; have c1 := HS6.out.m.bx.c1; have f0 := HS6.out.m.bx.f 0; have f1 := HS6.out.m.bx.f 1
            have HZ := Lib.hid (HS6.out.stored HG6.out)
            go_wp2
            clear c0 c1 f0 f1
            refine hK.out _ _ (HZ.out.c) (fun _ => ?_)
            refine wpAnyH_done (by kernel_rfl) ?_ _
            go_wp2
            go_roundw
            case rel => exact ⟨j + 1, x6, p6, k6, c6, by go_num, hlt, by rw [HZP.out]; exact HZ.out.m⟩
            case measure => simp [intOf]; omega
        · rw [List.take_of_length_le (by rw [HMN.out]; omega)] at HM hfp
          rw [← HFA.out] at HM hfp
          have HFI := Lib.hid (fun v1 W h => fits24 v1 (farT b acc sy 0 q) W h hfp.pow)
          generalize farT b acc sy 0 q = z at *
          clear hfp
          have b0 := HM.out.bx.c0; have b1 := HM.out.bx.c1
          go_wp2_with (go_at_call 35; refine (HFI.out _ _ HM.out.big).mono ?_; rintro e w7 ⟨rfl, hb7⟩; have HB7 := Lib.hid hb7; clear hb7)
          go_ret2
          exact ⟨HFE.out, HL2.out.trans ((HM.out.lo.trans (HB7.out.mono HM.out.lo.size)).mono HL2.out.size)⟩
  · go_upto_region 4 with (first
      | ((with_reducible refine atLoad (ty := 27) (x := .tmp 5) rfl ?_); refine loadE (wanted_noneD rfl) 27 (.tmp 5) rfl _ (.agg CA) rfl HLB.out ?_)
      | (go_at_call 40; refine HST.out.mono ?_; rintro e w1 ⟨rfl, hb1⟩; have HB1 := Lib.hid hb1; clear hb1)
      | (go_at_call 31; refine (HOS.out _).mono ?_; rintro e w2 ⟨x0, p0, k0, c0, rfl, hbig, hb2⟩; have HG2 := Lib.hid hbig; have HB2 := Lib.hid hb2; clear hbig hb2))
    have hw2 : Below W0.heap.size W0 w2 := HB1.out.trans (HB2.out.mono HB1.out.size)
    have HBJ := Lib.hid (show BkIn w.heap.size v b w2 from ⟨HBI.out.box hw2, HBI.out.book hw2⟩)
    have HL2 := Lib.hid (HA.out.trans (hw2.mono HA.out.size))
    refine at_world (Φ := fun W => MidB w2 x0 (.slice p0 k0 c0) st W) (MidB.new HG2.out) ?_
    clear hw2 hW0 HLB HST HOS HBI HB1 HB2 HG2
    rintro W2 hM
    have HNE := Lib.hid (fun v W h => neg14 v st W h (in64_pow HSI.out))
    have c0' := hM.bx.c0; have c1' := hM.bx.c1; have f0' := hM.bx.f 0; have f1' := hM.bx.f 1
    have HM1 := Lib.hid hM
    clear hM
    go_upto_region 6 with (go_at_call 41; refine (HNE.out _ _ HM1.out.big).mono ?_; rintro e w3 ⟨x3, p3, k3, c3, rfl, hbig, hb3⟩; have HG3 := Lib.hid hbig; have HM3 := Lib.hid (HM1.out.below hb3); clear hbig hb3 c0' c1' f0' f1'; have c0' := HM3.out.bx.c0; have c1' := HM3.out.bx.c1; have f0' := HM3.out.bx.f 0; have f1' := HM3.out.bx.f 1)
    clear c0' c1' f0' f1'
    refine at_world (Φ := fun W => MidB w2 x3 (.slice p3 k3 c3) (sgD 1 * st) W) (by rw [show sgD 1 * st = -st by unfold sgD; rw [if_pos rfl]; omega]; exact HM3.out.stored HG3.out) ?_
    rintro W3 hM
    obtain ⟨m, hm⟩ : ∃ n, b.os.length = n := ⟨_, rfl⟩
    have HMN := Lib.hid hm
    have HKO := Lib.hid HK.out.os
    have HCO := Lib.hid (fun W (h : Below w2.heap.size w2 W) => show W.cell? ⟨w.heap.size, 2, none⟩ = some (.slice v.o m v.co) from by rw [← HMN.out]; exact (HBJ.out.box h).cells.2.2.1)
    have HROO := Lib.hid (fun W (h : Below w2.heap.size w2 W) => (HBJ.out.book h).os)
    have hme : m ≤ 2000 := by rw [← HMN.out]; exact HKO.out.1
    clear hm
    have HM := Lib.hid hM
    clear hM
    have hfz : (sgD 1 * st).natAbs < 10000 ^ 100 := pow50 (by have := prod_nat (sg_in 1) HSI.out; omega)
    have HAD := Lib.hid (fun (v1 v2 : Value) (W : World) (h1 : BigIs W v1 (sgD 1 * st)) (h2 : BigIs W v2 q) => add13 v1 v2 (sgD 1 * st) q W h1 h2 hfz (in64_pow HQ.out))
    clear hfz
    go_cut [] from 30 to 33 (fun wx => ∃ (x : Bool) (p : Option Addr) (k c : Nat), MidB w2 x (.slice p k c) (sgD 1 * st + q) wx)
    case first =>
      have HE := Lib.hid (HM.out.below ((Below.refl _ W3).drew))
      clear HM
      refine wp_region_held_drew (S := fun W => Below w2.heap.size w2 W) (by kernel_rfl) HE.out.lo (fun hS => ?_)
      refine wpAnyH_take (i := 1) (v := .int .i64 q) rfl (by kernel_rfl) (by kernel_rfl) (by kernel_rfl) (fun _ _ _ h => h) (Or.inl ⟨by simp [Region.wanted], fun W _ => by go_simp⟩) hS ?_
      simp only [List.getElem_toArray, List.getElem_cons_zero, List.getElem_cons_succ, Act.put, List.setIfInBounds_toArray, List.set_cons_zero, List.set_cons_succ]
      refine wpAnyH_ready (rs := [0, 2]) (by kernel_rfl) (by simp) ?_
      refine AllReadyH.cons rfl (fun K hK => ?_) (AllReadyH.cons rfl (fun K hK => ?_) AllReadyH.nil)
      · refine wanted_go rfl ?_
        simp only [List.getElem_toArray, List.getElem_cons_zero]
        have c0 := HE.out.bx.c0; have c1 := HE.out.bx.c1
        go_wp2
        clear c0 c1
        refine hK.out _ _ (HE.out.lo) (fun _ => ?_)
        refine wpAnyH_ready (rs := [2]) (by kernel_rfl) (by simp) ?_
        refine AllReadyH.cons rfl (fun K hK => ?_) AllReadyH.nil
        refine wanted_go rfl ?_
        simp only [List.getElem_toArray, List.getElem_cons_zero, List.getElem_cons_succ]
        go_wp2_with (go_at_call 31; refine (HOQ.out _).mono ?_; rintro e w5 ⟨x5, p5, k5, c5, rfl, hbig, hb5⟩; have HG5 := Lib.hid hbig; have HS5 := Lib.hid (HE.out.below hb5); clear hbig hb5)
        refine hK.out _ _ (HS5.out.lo) (fun _ => ?_)
        refine wpAnyH_ready (rs := [3]) (by kernel_rfl) (by simp) ?_
        refine AllReadyH.cons rfl (fun K hK => ?_) AllReadyH.nil
        refine wanted_go rfl ?_
        simp only [List.getElem_toArray, List.getElem_cons_zero, List.getElem_cons_succ]
        go_wp2_with (go_at_call 33; refine (HAD.out _ _ _ HS5.out.big HG5.out).mono ?_; rintro e w6 ⟨x6, p6, k6, c6, rfl, hbig, hb6⟩; have HG6 := Lib.hid hbig; have HS6 := Lib.hid (HS5.out.below hb6); clear hbig hb6)
        refine hK.out _ _ (HS6.out.lo) (fun _ => ?_)
        refine wpAnyH_ready (rs := [4]) (by kernel_rfl) (by simp) ?_
        refine AllReadyH.cons rfl (fun K hK => ?_) AllReadyH.nil
        refine wanted_go rfl ?_
        simp only [List.getElem_toArray, List.getElem_cons_zero, List.getElem_cons_succ]
        have c0 := HS6.out.bx.c0; have c1 := HS6.out.bx.c1; have f0 := HS6.out.bx.f 0; have f1 := HS6.out.bx.f 1
        have HZ := Lib.hid (HS6.out.stored HG6.out)
        go_wp2
        clear c0 c1 f0 f1
        refine hK.out _ _ (HZ.out.lo) (fun _ => ?_)
        refine wpAnyH_done (by kernel_rfl) ?_ _
        go_wp2
        go_meet
        exact ⟨_, _, _, _, HZ.out⟩
      · refine wanted_go rfl ?_
        simp only [List.getElem_toArray, List.getElem_cons_zero, List.getElem_cons_succ]
        go_wp2_with (go_at_call 31; refine (HOQ.out _).mono ?_; rintro e w5 ⟨x5, p5, k5, c5, rfl, hbig, hb5⟩; have HG5 := Lib.hid hbig; have HS5 := Lib.hid (HE.out.below hb5); clear hbig hb5)
        refine hK.out _ _ (HS5.out.lo) (fun _ => ?_)
        refine wpAnyH_ready (rs := [0]) (by kernel_rfl) (by simp) ?_
        refine AllReadyH.cons rfl (fun K hK => ?_) AllReadyH.nil
        refine wanted_go rfl ?_
        simp only [List.getElem_toArray, List.getElem_cons_zero]
        have c0 := HS5.out.bx.c0; have c1 := HS5.out.bx.c1
        go_wp2
        clear c0 c1
        refine hK.out _ _ (HS5.out.lo) (fun _ => ?_)
        refine wpAnyH_ready (rs := [3]) (by kernel_rfl) (by simp) ?_
        refine AllReadyH.cons rfl (fun K hK => ?_) AllReadyH.nil
        refine wanted_go rfl ?_
        simp only [List.getElem_toArray, List.getElem_cons_zero, List.getElem_cons_succ]
        go_wp2_with (go_at_call 33; refine (HAD.out _ _ _ HS5.out.big HG5.out).mono ?_; rintro e w6 ⟨x6, p6, k6, c6, rfl, hbig, hb6⟩; have HG6 := Lib.hid hbig; have HS6 := Lib.hid (HS5.out.below hb6); clear hbig hb6)
        refine hK.out _ _ (HS6.out.lo) (fun _ => ?_)
        refine wpAnyH_ready (rs := [4]) (by kernel_rfl) (by simp) ?_
        refine AllReadyH.cons rfl (fun K hK => ?_) AllReadyH.nil
        refine wanted_go rfl ?_
        simp only [List.getElem_toArray, List.getElem_cons_zero, List.getElem_cons_succ]
        have c0 := HS6.out.bx.c0; have c1 := HS6.out.bx.c1; have f0 := HS6.out.bx.f 0; have f1 := HS6.out.bx.f 1
        have HZ := Lib.hid (HS6.out.stored HG6.out)
        go_wp2
        clear c0 c1 f0 f1
        refine hK.out _ _ (HZ.out.lo) (fun _ => ?_)
        refine wpAnyH_done (by kernel_rfl) ?_ _
        go_wp2
        go_meet
        exact ⟨_, _, _, _, HZ.out⟩
    case rest =>
      obtain ⟨x1, p1, k1, c1, hM⟩ := hcut
      have HM0 := Lib.hid hM
      clear hM HM
      have HZQ := Lib.hid (show (sgD 1 * st + q).natAbs ≤ 200000000000000000000000000000000000000000 by have h1 := prod_nat (sg_in 1) HSI.out; have h2 := HQ.out; unfold In64' at h2; omega)
      generalize sgD 1 * st + q = z1 at *
      go_wp2
      go_loopw [13] (fun vi W => ∃ (i : Nat) (x : Bool) (p : Option Addr) (k c : Nat), vi = .int .i64 (i : Int) ∧ i ≤ m ∧ MidB w2 x (.slice p k c) (z1 + sumI (key 4) (ofSD sy 1 (ofAcc 1 acc (b.os.take i)))) W) (fun vi _ => m - (intOf vi).toNat)
      case atStart => exact ⟨0, x1, p1, k1, c1, rfl, Nat.zero_le _, by rw [List.take_zero]; show MidB w2 x1 (.slice p1 k1 c1) (z1 + 0) wc; rw [Int.add_zero]; exact HM0.out⟩
      case round =>
        clear HM0
        obtain ⟨j, x, p, k, c, rfl, hj, hM⟩ := hrel
        have HM := Lib.hid hM
        have c2 := HCO.out _ hM.lo
        clear hM
        have hfp : Fine (z1 + sumI (key 4) (ofSD sy 1 (ofAcc 1 acc (b.os.take j)))) := by
          obtain ⟨s, hs⟩ := ofAcc_pre (j := 1) (a := acc) b.os j
          have h1 := far_sum (sy := sy) (d := 1) HK.out hs
          have h2 := HZQ.out
          exact fine_of (by omega)
        by_cases hlt : j < m
        · obtain ⟨it, hx⟩ : ∃ x, b.os[j]? = some x := ⟨b.os[j]'(by rw [HMN.out]; exact hlt), by simp [HMN.out, hlt]⟩
          obtain ⟨s0, s1, s2, s3, s4, s5, rfl⟩ := item6 (HKO.out.2 _ (List.mem_of_getElem? hx)).1
          have hmem := List.mem_of_getElem? hx
          obtain ⟨b0, off, hvs, hb0, hcs⟩ := (HROO.out w2 (Below.refl _ _)).at hx
          have k0 := hcs wr HM.out.lo 0 s0 rfl
          have k1 := hcs wr HM.out.lo 1 s1 rfl
          have k2 := hcs wr HM.out.lo 2 s2 rfl
          have k3 := hcs wr HM.out.lo 3 s3 rfl
          have k4 := hcs wr HM.out.lo 4 s4 rfl
          have k5 := hcs wr HM.out.lo 5 s5 rfl
          rw [Nat.add_zero] at k0
          rw [hvs] at HCO c2
          clear hcs hb0 hvs
          go_upto_region 11 with (fail)
          obtain ⟨w4, hw4⟩ : ∃ x, wr.alloc (.cells #[.int .i64 s0, .int .i64 s1, .int .i64 s2, .int .i64 s3, .int .i64 s4, .int .i64 s5] 37) = x := ⟨_, rfl⟩
          have hb4 : Below wr.heap.size wr w4 := by rw [← hw4]; exact (Below.refl _ _).alloc (Nat.le_refl _) _
          have hz4 : w4.heap[wr.heap.size]? = some (.cells #[.int .i64 s0, .int .i64 s1, .int .i64 s2, .int .i64 s3, .int .i64 s4, .int .i64 s5] 37 (0, 0)) := by rw [← hw4]; exact heap_alloc_new wr _
          have o1 : w4.cell? ⟨wr.heap.size, 1, none⟩ = some (.int .i64 s1) := by rw [cell_of_row _ _ _ _ _ _ hz4]; rfl
          have o2 : w4.cell? ⟨wr.heap.size, 2, none⟩ = some (.int .i64 s2) := by rw [cell_of_row _ _ _ _ _ _ hz4]; rfl
          have o3 : w4.cell? ⟨wr.heap.size, 3, none⟩ = some (.int .i64 s3) := by rw [cell_of_row _ _ _ _ _ _ hz4]; rfl
          obtain ⟨ob, hob⟩ : ∃ ob, Obj.cells #[.int .i64 s0, .int .i64 s1, .int .i64 s2, .int .i64 s3, .int .i64 s4, .int .i64 s5] 37 (0, 0) = ob := ⟨_, rfl⟩
          have HOB := Lib.hid (fun (W : World) (h : W.heap[wr.heap.size]? = some ob) => show W.cell? ⟨wr.heap.size, 4, none⟩ = some (.int .i64 s4) from by rw [← hob] at h; rw [cell_of_row _ _ _ _ _ _ h]; rfl)
          rw [hob] at hz4
          have HM4 := Lib.hid (show MidO w2 wr.heap.size ob x (.slice p k c) (z1 + sumI (key 4) (ofSD sy 1 (ofAcc 1 acc (b.os.take j)))) w4 from ⟨HM.out.below hb4, HM.out.lt, hz4⟩)
          rw [hw4]
          clear hw4 hb4 hz4 hob k0 k1 k2 k3 k4 k5 c2 HM
          by_cases he1 : s1 = acc
          case neg =>
            have g : (s1 == acc) = false := by rw [beq_eq_false_iff_ne]; exact he1
            have HNX := Lib.hid (far_no1 (a := acc) (sy := sy) (d := 1) hx (show (key 1 [s0, s1, s2, s3, s4, s5] == acc) = false from g))
            clear he1 hx hmem hfp
            go_wp2
            go_roundw
            case rel => exact ⟨j + 1, x, p, k, c, by go_num, hlt, by rw [HNX.out]; exact HM4.out.m⟩
            case measure => simp [intOf]; omega
          have g1 : (s1 == acc) = true := by rw [beq_iff_eq]; exact he1
          by_cases he2 : s2 = sy
          case neg =>
            have g : (s2 == sy) = false := by rw [beq_eq_false_iff_ne]; exact he2
            have HNX := Lib.hid (far_no2 (a := acc) (sy := sy) (d := 1) hx (show (key 1 [s0, s1, s2, s3, s4, s5] == acc) = true from g1) (.inl (show (key 2 [s0, s1, s2, s3, s4, s5] == sy) = false from g)))
            clear he1 he2 hx hmem hfp
            go_wp2
            go_roundw
            case rel => exact ⟨j + 1, x, p, k, c, by go_num, hlt, by rw [HNX.out]; exact HM4.out.m⟩
            case measure => simp [intOf]; omega
          have g2 : (s2 == sy) = true := by rw [beq_iff_eq]; exact he2
          by_cases he3 : s3 = 1
          case neg =>
            have g : (s3 == 1) = false := by rw [beq_eq_false_iff_ne]; exact he3
            have HNX := Lib.hid (far_no2 (a := acc) (sy := sy) (d := 1) hx (show (key 1 [s0, s1, s2, s3, s4, s5] == acc) = true from g1) (.inr (show (key 3 [s0, s1, s2, s3, s4, s5] == 1) = false from g)))
            clear he1 he2 he3 hx hmem hfp
            go_wp2
            go_roundw
            case rel => exact ⟨j + 1, x, p, k, c, by go_num, hlt, by rw [HNX.out]; exact HM4.out.m⟩
            case measure => simp [intOf]; omega
          have g3 : (s3 == 1) = true := by rw [beq_iff_eq]; exact he3
          have hnx : z1 + sumI (key 4) (ofSD sy 1 (ofAcc 1 acc (b.os.take (j + 1)))) = z1 + sumI (key 4) (ofSD sy 1 (ofAcc 1 acc (b.os.take j))) + s4 := by
            rw [far_step (a := acc) (sy := sy) (d := 1) hx (show (key 1 [s0, s1, s2, s3, s4, s5] == acc) = true from g1) (show (key 2 [s0, s1, s2, s3, s4, s5] == sy) = true from g2) (show (key 3 [s0, s1, s2, s3, s4, s5] == 1) = true from g3)]
            show z1 + (_ + s4) = _
            omega
          have HNX := Lib.hid hnx
          have q64 : In64' s4 := key_in HKO.out hmem 4
          have HOF := Lib.hid (fun W => of7 s4 W q64.1 q64.2)
          have HFP := Lib.hid hfp.pow
          have HQW := Lib.hid (in64_pow q64)
          clear hnx he1 he2 he3 hx hmem q64 hfp HAD
          generalize z1 + sumI (key 4) (ofSD sy 1 (ofAcc 1 acc (b.os.take j))) = z at *
          obtain ⟨z', hz'⟩ : ∃ z', z1 + sumI (key 4) (ofSD sy 1 (ofAcc 1 acc (b.os.take (j + 1)))) = z' := ⟨_, rfl⟩
          rw [hz'] at HNX
          have HZP := Lib.hid hz'
          clear hz'
          have HAD := Lib.hid (fun (v1 v2 : Value) (W : World) (h1 : BigIs W v1 z) (h2 : BigIs W v2 s4) => add13 v1 v2 z s4 W h1 h2 HFP.out HQW.out)
          rw [← HNX.out] at HAD
          go_upto_region 12 with (fail)
          clear o1 o2 o3
          have HE := Lib.hid (HM4.out.below ((Below.refl _ w4).drew))
          refine wp_region_held_drew (S := fun W => W.heap[wr.heap.size]? = some ob) (by kernel_rfl) HE.out.c (fun hS => ?_)
          refine wpAnyH_take (i := 1) (v := .pointer (some ⟨wr.heap.size, 4, none⟩)) rfl (by kernel_rfl) (by kernel_rfl) (by kernel_rfl) (fun _ _ _ h => h) (Or.inl ⟨by simp [Region.wanted], fun W _ => by go_simp⟩) hS ?_
          simp only [List.getElem_toArray, List.getElem_cons_zero, List.getElem_cons_succ, Act.put, List.setIfInBounds_toArray, List.set_cons_zero, List.set_cons_succ]
          refine wpAnyH_take (i := 2) (v := .int .i64 s4) rfl (by kernel_rfl) (by kernel_rfl) (by kernel_rfl) (fun _ _ _ h => h) (Or.inl ⟨by simp [Region.wanted], fun W hW => by have h1 := HOB.out W hW; go_simp⟩) hS ?_
          simp only [List.getElem_toArray, List.getElem_cons_zero, List.getElem_cons_succ, Act.put, List.setIfInBounds_toArray, List.set_cons_zero, List.set_cons_succ]
          refine wpAnyH_ready (rs := [0, 3]) (by kernel_rfl) (by simp) ?_
          refine AllReadyH.cons rfl (fun K hK => ?_) (AllReadyH.cons rfl (fun K hK => ?_) AllReadyH.nil)
          · refine wanted_go rfl ?_
            simp only [List.getElem_toArray, List.getElem_cons_zero]
            have c0 := HE.out.m.bx.c0; have c1 := HE.out.m.bx.c1
            go_wp2
            clear c0 c1
            refine hK.out _ _ (HE.out.c) (fun _ => ?_)
            refine wpAnyH_ready (rs := [3]) (by kernel_rfl) (by simp) ?_
            refine AllReadyH.cons rfl (fun K hK => ?_) AllReadyH.nil
            refine wanted_go rfl ?_
            simp only [List.getElem_toArray, List.getElem_cons_zero, List.getElem_cons_succ]
            go_wp2_with (go_at_call 31; refine (HOF.out _).mono ?_; rintro e w5 ⟨x5, p5, k5, c5, rfl, hbig, hb5⟩; have HG5 := Lib.hid hbig; have HS5 := Lib.hid (HE.out.below hb5); clear hbig hb5)
            refine hK.out _ _ (HS5.out.c) (fun _ => ?_)
            refine wpAnyH_ready (rs := [4]) (by kernel_rfl) (by simp) ?_
            refine AllReadyH.cons rfl (fun K hK => ?_) AllReadyH.nil
            refine wanted_go rfl ?_
            simp only [List.getElem_toArray, List.getElem_cons_zero, List.getElem_cons_succ]
            go_wp2_with (go_at_call 33; refine (HAD.out _ _ _ HS5.out.m.big HG5.out).mono ?_; rintro e w6 ⟨x6, p6, k6, c6, rfl, hbig, hb6⟩; have HG6 := Lib.hid hbig; have HS6 := Lib.hid (HS5.out.below hb6); clear hbig hb6)
            refine hK.out _ _ (HS6.out.c) (fun _ => ?_)
            refine wpAnyH_ready (rs := [5]) (by kernel_rfl) (by simp) ?_
            refine AllReadyH.cons rfl (fun K hK => ?_) AllReadyH.nil
            refine wanted_go rfl ?_
            simp only [List.getElem_toArray, List.getElem_cons_zero, List.getElem_cons_succ]
            have c0 := HS6.out.m.bx.c0; have c1 := HS6.out.m.bx.c1; have f0 := HS6.out.m.bx.f 0; have f1 := HS6.out.m.bx.f 1
            have HZ := Lib.hid (HS6.out.stored HG6.out)
            go_wp2
            clear c0 c1 f0 f1
            refine hK.out _ _ (HZ.out.c) (fun _ => ?_)
            refine wpAnyH_done (by kernel_rfl) ?_ _
            go_wp2
            go_roundw
            case rel => exact ⟨j + 1, x6, p6, k6, c6, by go_num, hlt, by rw [HZP.out]; exact HZ.out.m⟩
            case measure => simp [intOf]; omega
          · refine wanted_go rfl ?_
            simp only [List.getElem_toArray, List.getElem_cons_zero, List.getElem_cons_succ]
            go_wp2_with (go_at_call 31; refine (HOF.out _).mono ?_; rintro e w5 ⟨x5, p5, k5, c5, rfl, hbig, hb5⟩; have HG5 := Lib.hid hbig; have HS5 := Lib.hid (HE.out.below hb5); clear hbig hb5)
            refine hK.out _ _ (HS5.out.c) (fun _ => ?_)
            refine wpAnyH_ready (rs := [0]) (by kernel_rfl) (by simp) ?_
            refine AllReadyH.cons rfl (fun K hK => ?_) AllReadyH.nil
            refine wanted_go rfl ?_
            simp only [List.getElem_toArray, List.getElem_cons_zero]
            have c0 := HS5.out.m.bx.c0; have c1 := HS5.out.m.bx.c1
            go_wp2
            clear c0 c1
            refine hK.out _ _ (HS5.out.c) (fun _ => ?_)
            refine wpAnyH_ready (rs := [4]) (by kernel_rfl) (by simp) ?_
            refine AllReadyH.cons rfl (fun K hK => ?_) AllReadyH.nil
            refine wanted_go rfl ?_
            simp only [List.getElem_toArray, List.getElem_cons_zero, List.getElem_cons_succ]
            go_wp2_with (go_at_call 33; refine (HAD.out _ _ _ HS5.out.m.big HG5.out).mono ?_; rintro e w6 ⟨x6, p6, k6, c6, rfl, hbig, hb6⟩; have HG6 := Lib.hid hbig; have HS6 := Lib.hid (HS5.out.below hb6); clear hbig hb6)
            refine hK.out _ _ (HS6.out.c) (fun _ => ?_)
            refine wpAnyH_ready (rs := [5]) (by kernel_rfl) (by simp) ?_
            refine AllReadyH.cons rfl (fun K hK => ?_) AllReadyH.nil
            refine wanted_go rfl ?_
            simp only [List.getElem_toArray, List.getElem_cons_zero, List.getElem_cons_succ]
            have c0 := HS6.out.m.bx.c0; have c1 := HS6.out.m.bx.c1; have f0 := HS6.out.m.bx.f 0; have f1 := HS6.out.m.bx.f 1
            have HZ := Lib.hid (HS6.out.stored HG6.out)
            go_wp2
            clear c0 c1 f0 f1
            refine hK.out _ _ (HZ.out.c) (fun _ => ?_)
            refine wpAnyH_done (by kernel_rfl) ?_ _
            go_wp2
            go_roundw
            case rel => exact ⟨j + 1, x6, p6, k6, c6, by go_num, hlt, by rw [HZP.out]; exact HZ.out.m⟩
            case measure => simp [intOf]; omega
        · rw [List.take_of_length_le (by rw [HMN.out]; omega)] at HM hfp
          rw [← HFA.out] at HM hfp
          have HFI := Lib.hid (fun v1 W h => fits24 v1 (farT b acc sy 1 q) W h hfp.pow)
          generalize farT b acc sy 1 q = z at *
          clear hfp
          have b0 := HM.out.bx.c0; have b1 := HM.out.bx.c1
          go_wp2_with (go_at_call 35; refine (HFI.out _ _ HM.out.big).mono ?_; rintro e w7 ⟨rfl, hb7⟩; have HB7 := Lib.hid hb7; clear hb7)
          go_ret2
          exact ⟨HFE.out, HL2.out.trans ((HM.out.lo.trans (HB7.out.mono HM.out.lo.size)).mono HL2.out.size)⟩
end Go.Proofs.Ytmndkbfjmamnfaa
