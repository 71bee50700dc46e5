/- The document's Equity: the contract. -/
import Derived.Test.YtmndkbfjmamnfaaMgRef1
import Derived.Test.YtmndkbfjmamnfaaBkRef2
import Derived.Test.YtmndkbfjmamnfaaKRange
import Derived.Test.YtmndkbfjmamnfaaBkLaw
namespace Go.Proofs.Ytmndkbfjmamnfaa
open Go.RowKit Base Base2

/-- A load whose run is known. -/
theorem loadE {P : Program} {ops : Array Oper} {rest : List Oper} {o : Oper} {a : Act} {w : World} {Q : Exit → Act → World → Prop} (hw : Region.wanted o (yielded ops a.tmps) = true) (ty : TypeId) (x : Operand) (ho : o.op = .load ty x) (p v : Value) (hx : a.eval x = p) (hl : (Instr.loadAt ty p).run P w = .ok v w) (h : wpList P ops Q rest (a.put o.dst v) w) : wpList P ops Q (o :: rest) a w :=
  BigFrame.wpList_want hw fun _ hK => by
    unfold Oper.wp execOp
    simp only [ho, hx, Sem.run_bind, Sem.run_pure, hl, Result.andThen_ok]
    exact hK _ _ h
theorem wanted_noneD {ops : Array Oper} {o : Oper} {a : Act} (hgd : o.guard = none) : Region.wanted o (yielded ops a.tmps) = true := by simp [Region.wanted, hgd]
/-- A great number in a variable made at W0. -/
structure MidB (W0 : World) (x : Bool) (u : Value) (z : Int) (W : World) : Prop where
  bx : BoxAt W W0.heap.size x u
  big : BigIs W (.agg #[.bool x, u]) z
  lo : Below W0.heap.size W0 W
theorem MidB.below {W0 : World} {x : Bool} {u : Value} {z : Int} {W W' : World} (h : MidB W0 x u z W) (hb : Below W.heap.size W W') : MidB W0 x u z W' := ⟨h.bx.below hb, h.big.below hb, h.lo.trans (hb.mono h.lo.size)⟩
theorem MidB.new {W0 : World} {x : Bool} {u : Value} {z : Int} (h : BigIs W0 (.agg #[.bool x, u]) z) : MidB W0 x u z (W0.alloc (.cells #[.bool x, u] 71)) := ⟨BoxAt.new _ _ _, h.below ((Below.refl _ _).alloc (Nat.le_refl _) _), (Below.refl _ _).alloc (Nat.le_refl _) _⟩
theorem MidB.stored {W0 : World} {x x' : Bool} {a a' : Option Addr} {k c k' c' : Nat} {z z' : Int} {W : World} (s : MidB W0 x (.slice a k c) z W) (hb : BigIs W (.agg #[.bool x', .slice a' k' c']) z') :
    MidB W0 x' (.slice a' k' c') z' ((W.setCell ⟨W0.heap.size, 0, none⟩ (.bool x')).setCell ⟨W0.heap.size, 1, none⟩ (.slice a' k' c')) :=
  ⟨(s.bx.set0 x').set1 _, (hb.boxCell s.bx (i := 0) (.bool x')).boxCell (s.bx.set0 x') (i := 1) _, (s.lo.setCell (p := ⟨_, 0, none⟩) (Nat.le_refl _) _).setCell (p := ⟨_, 1, none⟩) (Nat.le_refl _) _⟩
theorem MidB.lt {W0 : World} {x : Bool} {u : Value} {z : Int} {W : World} (h : MidB W0 x u z W) : W0.heap.size < W.heap.size := blk_ltK h.bx
theorem cash_form {b : BookT} (h : ItemsOk 4 2000 b.hs) (a : Int) : ∃ p r s, valH (findL (is1 a) b.hs) = .agg #[.int .i64 p, .int .i64 (cashOf b a), .int .i64 r, .int .i64 s] := valH_cash h a
/-- What the document's walks over a book's things lean on. -/
structure BkIn (g : Nat) (v : Slots) (b : BookT) (W0 : World) : Prop where
  bx : BoxB W0 g v b
  inn : BookIn W0 v b
theorem BkIn.box {g : Nat} {v : Slots} {b : BookT} {W0 W : World} (h : BkIn g v b W0) (hb : Below W0.heap.size W0 W) : BoxB W g v b := h.bx.below hb (blk_ltK h.bx)
theorem BkIn.book {g : Nat} {v : Slots} {b : BookT} {W0 W : World} (h : BkIn g v b W0) (hb : Below W0.heap.size W0 W) : BookIn W v b := h.inn.below hb
set_option maxRecDepth 100000 in
set_option maxHeartbeats 8000000 in
theorem requity12 (v : Slots) (b : BookT) (acc : Int) (w : World) (hb : BookIn w v b) (hk : BookOk 2000 b) :
    Calls Try.prog 12 #[.agg (cellsB v b), .int .i64 acc] w fun e w' => e = .returned (.tuple #[.int .i64 (fitV (eqT b acc)), .bool (fitB (eqT b acc))]) ∧ Below w.heap.size w w' := by
  obtain ⟨W0, hW0⟩ : ∃ x, w.alloc (.cells (cellsB v b) 27) = x := ⟨_, rfl⟩
  have hA : Below w.heap.size w W0 := by rw [← hW0]; exact (Below.refl _ w).alloc (Nat.le_refl _) _
  have hg : BoxB W0 w.heap.size v b := by rw [← hW0]; exact BoxB.new w v b
  obtain ⟨hp, hr, hs, hv⟩ := cash_form hk.hs acc
  have HH := Lib.hid (rholder18 v b acc W0 (hb.below hA) hk.hs)
  rw [hv] at HH
  have HA := Lib.hid hA
  have HBI := Lib.hid (show BkIn w.heap.size v b W0 from ⟨hg, hb.below hA⟩)
  have HLB := Lib.hid (load_book hg)
  have cin := cash_in hk.hs acc
  have HOF := Lib.hid (fun W => of7 (cashOf b acc) W cin.1 cin.2)
  have HK := Lib.hid hk
  obtain ⟨fv, hfv⟩ : ∃ x, fitV (eqT b acc) = x := ⟨_, rfl⟩
  obtain ⟨fb, hfb⟩ : ∃ x, fitB (eqT b acc) = x := ⟨_, rfl⟩
  have HFV := Lib.hid hfv
  have HFB := Lib.hid hfb
  rw [hfv, hfb]
  clear hv hb hk hA hg cin hfv hfb
  generalize hCA : cellsB v b = CA at *
  have HCA := Lib.hid hCA
  clear hCA
  go_enter Try.func12, Try.ntmps12
  go_upto_region 3 with (first
    | ((with_reducible refine atLoad (ty := 27) (x := .tmp 2) rfl ?_); refine loadE (wanted_noneD rfl) 27 (.tmp 2) rfl _ (.agg CA) rfl HLB.out ?_)
    | (go_at_call 18; refine HH.out.mono ?_; rintro e w1 ⟨rfl, hb1⟩; have HB1 := Lib.hid hb1; clear hb1)
    | (go_at_call 31; refine (HOF.out _).mono ?_; rintro e w2 ⟨x0, p0, k0, c0, rfl, hbig, hb2⟩; have HG2 := Lib.hid hbig; have HB2 := Lib.hid hb2; clear hbig hb2))
  have hw2 : Below W0.heap.size W0 w2 := HB1.out.trans ((((Below.refl _ w1).alloc (Nat.le_refl _) _).trans (HB2.out.mono (by simp))).mono HB1.out.size)
  have HBJ := Lib.hid (show BkIn w.heap.size v b w2 from ⟨HBI.out.box hw2, HBI.out.book hw2⟩)
  have HL2 := Lib.hid (HA.out.trans (hw2.mono HA.out.size))
  refine at_world (Φ := fun W => MidB w2 x0 (.slice p0 k0 c0) (cashOf b acc) W) (MidB.new HG2.out) ?_
  clear hw2 hW0 HH HLB HOF HBI HB1 HB2 HG2
  rintro W2 hM
  have HM0 := Lib.hid hM
  clear hM
  obtain ⟨n, hn⟩ : ∃ n, b.ss.length = n := ⟨_, rfl⟩
  have HN := Lib.hid hn
  have HKS := Lib.hid HK.out.ss
  have HCE := Lib.hid (fun W (h : Below w2.heap.size w2 W) => show W.cell? ⟨w.heap.size, 1, none⟩ = some (.slice v.s n v.cs) from by rw [← HN.out]; exact (HBJ.out.box h).cells.2.1)
  have HROW := Lib.hid (fun W (h : Below w2.heap.size w2 W) => (HBJ.out.book h).ss)
  have HLD := Lib.hid (fun W (h : Below w2.heap.size w2 W) => load_book (HBJ.out.box h))
  rw [HCA.out] at HLD
  have hle : n ≤ 2000 := by rw [← HN.out]; exact HKS.out.1
  clear hn
  go_wp2
  go_loopw [9] (fun vi W => ∃ (i : Nat) (x : Bool) (p : Option Addr) (k c : Nat), vi = .int .i64 (i : Int) ∧ i ≤ n ∧ MidB w2 x (.slice p k c) (cashOf b acc + sumI (eqW b) (ofAcc 0 acc (b.ss.take i))) W) (fun vi _ => n - (intOf vi).toNat)
  case atStart => exact ⟨0, x0, p0, k0, c0, rfl, Nat.zero_le _, by rw [List.take_zero]; show MidB w2 x0 (.slice p0 k0 c0) (cashOf b acc + 0) W2; rw [Int.add_zero]; exact HM0.out⟩
  case round =>
    clear HM0
    obtain ⟨i, x, p, k, c, rfl, hi, hM⟩ := hrel
    have HM := Lib.hid hM
    have c1 := HCE.out _ hM.lo
    clear hM
    have hfp : Fine (cashOf b acc + sumI (eqW b) (ofAcc 0 acc (b.ss.take i))) := by
      obtain ⟨s, hs⟩ := ofAcc_pre (j := 0) (a := acc) b.ss i
      have h1 := eq_sum HK.out hs
      have h2 := cash_in HK.out.hs acc
      unfold In64' at h2
      exact fine_of (by omega)
    by_cases hlt : i < n
    · obtain ⟨it, hx⟩ : ∃ x, b.ss[i]? = some x := ⟨b.ss[i]'(by rw [HN.out]; exact hlt), by simp [HN.out, hlt]⟩
      obtain ⟨s0, s1, s2, rfl⟩ := item3 (HKS.out.2 _ (List.mem_of_getElem? hx)).1
      have hmem := List.mem_of_getElem? hx
      obtain ⟨b0, off, hvs, hb0, hcs⟩ := (HROW.out w2 (Below.refl _ _)).at hx
      have HC0 := Lib.hid (fun W (h : Below w2.heap.size w2 W) => hcs W h 0 s0 rfl)
      have HC1 := Lib.hid (fun W (h : Below w2.heap.size w2 W) => hcs W h 1 s1 rfl)
      have HC2 := Lib.hid (fun W (h : Below w2.heap.size w2 W) => hcs W h 2 s2 rfl)
      have k0' := HC0.out _ HM.out.lo
      rw [Nat.add_zero] at k0'
      rw [hvs] at HCE c1
      clear hcs hb0 hvs
      by_cases he : s0 = acc
      · have g : (s0 == acc) = true := by rw [beq_iff_eq]; exact he
        have hnx : cashOf b acc + sumI (eqW b) (ofAcc 0 acc (b.ss.take (i + 1))) = (cashOf b acc + sumI (eqW b) (ofAcc 0 acc (b.ss.take i))) + s2 * rateOf b s1 := by
          rw [ofAcc_yes (j := 0) (a := acc) hx (show (key 0 [s0, s1, s2] == acc) = true from g), sumI_snoc]; show _ + (_ + s2 * rateOf b s1) = _; omega
        have HNX := Lib.hid hnx
        have r64 := rate_in HK.out.rs s1
        have q64 : In64' s2 := key_in HKS.out hmem 2
        have HRT := Lib.hid (fun W (h : Below w2.heap.size w2 W) => show Calls Try.prog 32 #[.agg CA, .int .i64 s1] W fun e w' => e = .returned (.tuple #[.int .i64 (rateOf b s1), .bool (findL (is1 s1) b.rs).isSome]) ∧ Below W.heap.size W w' from by rw [← HCA.out]; exact rrate20 v b s1 W (HBJ.out.book h) HK.out.rs)
        have HMU := Lib.hid (fun W => rmul34 s2 (rateOf b s1) W q64 r64)
        have HPW := Lib.hid (prod_pow q64 r64)
        have HFP := Lib.hid hfp.pow
        clear hnx he hmem hx r64 q64 hfp
        generalize cashOf b acc + sumI (eqW b) (ofAcc 0 acc (b.ss.take i)) = z at *
        obtain ⟨z', hz'⟩ : ∃ z', cashOf b acc + sumI (eqW b) (ofAcc 0 acc (b.ss.take (i + 1))) = z' := ⟨_, rfl⟩
        rw [hz'] at HNX
        have HZP := Lib.hid hz'
        clear hz'
        generalize (findL (is1 s1) b.rs).isSome = ok at *
        generalize rateOf b s1 = rt at *
        have HAD := Lib.hid (fun (v1 v2 : Value) (W : World) (h1 : BigIs W v1 z) (h2 : BigIs W v2 (s2 * rt)) => add13 v1 v2 z (s2 * rt) W h1 h2 HFP.out HPW.out)
        rw [← HNX.out] at HAD
        generalize s2 * rt = pr at *
        go_upto_region 7 with (fail)
        clear c1 k0'
        have HD := Lib.hid (HM.out.below ((Below.refl _ wr).drew))
        clear HM
        refine wp_region_held_drew (S := fun W => Below w2.heap.size w2 W) (by kernel_rfl) HD.out.lo (fun hS => ?_)
        refine wpAnyH_take (i := 0) (v := .agg CA) rfl (by kernel_rfl) (by kernel_rfl) (by kernel_rfl) (fun _ _ _ h => h) (yieldsIf_load rfl 27 (.tmp 2) rfl (.pointer (some ⟨w.heap.size, 0, none⟩)) _ rfl (fun W hW => HLD.out W hW)) hS ?_
        simp only [List.getElem_toArray, List.getElem_cons_zero, Act.put, List.setIfInBounds_toArray, List.set_cons_zero, List.set_cons_succ]
        refine wpAnyH_take (i := 1) (v := .pointer (some ⟨w.heap.size, 1, none⟩)) rfl (by kernel_rfl) (by kernel_rfl) (by kernel_rfl) (fun _ _ _ h => h) (Or.inl ⟨by simp [Region.wanted], fun W _ => by go_simp⟩) hS ?_
        simp only [List.getElem_toArray, List.getElem_cons_zero, List.getElem_cons_succ, Act.put, List.setIfInBounds_toArray, List.set_cons_zero, List.set_cons_succ]
        refine wpAnyH_take (i := 2) (v := .slice (some ⟨b0, off, none⟩) n v.cs) rfl (by kernel_rfl) (by kernel_rfl) (by kernel_rfl) (fun _ _ _ h => h) (Or.inl ⟨by simp [Region.wanted], fun W hW => by have h1 := HCE.out W hW; go_simp⟩) hS ?_
        simp only [List.getElem_toArray, List.getElem_cons_zero, List.getElem_cons_succ, Act.put, List.setIfInBounds_toArray, List.set_cons_zero, List.set_cons_succ]
        refine wpAnyH_take (i := 3) (v := .int .i64 (i : Int)) rfl (by kernel_rfl) (by kernel_rfl) (by kernel_rfl) (fun _ _ _ h => h) (Or.inl ⟨by simp [Region.wanted], fun W _ => by go_simp⟩) hS ?_
        simp only [List.getElem_toArray, List.getElem_cons_zero, List.getElem_cons_succ, Act.put, List.setIfInBounds_toArray, List.set_cons_zero, List.set_cons_succ]
        refine wpAnyH_take (i := 4) (v := .pointer (some ⟨b0, off + i * 3, none⟩)) rfl (by kernel_rfl) (by kernel_rfl) (by kernel_rfl) (fun _ _ _ h => h) (Or.inl ⟨by simp [Region.wanted], fun W _ => by go_simp⟩) hS ?_
        simp only [List.getElem_toArray, List.getElem_cons_zero, List.getElem_cons_succ, Act.put, List.setIfInBounds_toArray, List.set_cons_zero, List.set_cons_succ]
        refine wpAnyH_take (i := 5) (v := .pointer (some ⟨b0, off + i * 3 + 1, none⟩)) rfl (by kernel_rfl) (by kernel_rfl) (by kernel_rfl) (fun _ _ _ h => h) (Or.inl ⟨by simp [Region.wanted], fun W _ => by go_simp⟩) hS ?_
        simp only [List.getElem_toArray, List.getElem_cons_zero, List.getElem_cons_succ, Act.put, List.setIfInBounds_toArray, List.set_cons_zero, List.set_cons_succ]
        refine wpAnyH_take (i := 6) (v := .int .i64 s1) rfl (by kernel_rfl) (by kernel_rfl) (by kernel_rfl) (fun _ _ _ h => h) (Or.inl ⟨by simp [Region.wanted], fun W hW => by have h1 := HC1.out W hW; go_simp⟩) hS ?_
        simp only [List.getElem_toArray, List.getElem_cons_zero, List.getElem_cons_succ, Act.put, List.setIfInBounds_toArray, List.set_cons_zero, List.set_cons_succ]
        refine wpAnyH_ready (rs := [7]) (by kernel_rfl) (by simp) ?_
        refine AllReadyH.cons rfl (fun K hK => ?_) AllReadyH.nil
        refine wanted_go rfl ?_
        simp only [List.getElem_toArray, List.getElem_cons_zero, List.getElem_cons_succ]
        go_wp2_with (go_at_call 32; refine (HRT.out _ hS).mono ?_; rintro e w4 ⟨rfl, hb4⟩; have HD4 := Lib.hid (HD.out.below hb4); clear hb4)
        refine hK.out _ _ (HD4.out.lo) (fun _ => ?_)
        refine wpAnyH_take (i := 8) (v := .tuple #[.int .i64 rt, .bool ok]) rfl (by kernel_rfl) (by kernel_rfl) (by kernel_rfl) (fun _ _ _ h => h) (Or.inl ⟨by simp [Region.wanted], fun W _ => by go_simp⟩) HD4.out.lo ?_
        simp only [List.getElem_toArray, List.getElem_cons_zero, List.getElem_cons_succ, Act.put, List.setIfInBounds_toArray, List.set_cons_zero, List.set_cons_succ]
        refine wpAnyH_take (i := 9) (v := .int .i64 rt) rfl (by kernel_rfl) (by kernel_rfl) (by kernel_rfl) (fun _ _ _ h => h) (Or.inl ⟨by simp [Region.wanted], fun W _ => by go_simp⟩) HD4.out.lo ?_
        simp only [List.getElem_toArray, List.getElem_cons_zero, List.getElem_cons_succ, Act.put, List.setIfInBounds_toArray, List.set_cons_zero, List.set_cons_succ]
        refine wpAnyH_take (i := 10) (v := .bool ok) rfl (by kernel_rfl) (by kernel_rfl) (by kernel_rfl) (fun _ _ _ h => h) (Or.inl ⟨by simp [Region.wanted], fun W _ => by go_simp⟩) HD4.out.lo ?_
        simp only [List.getElem_toArray, List.getElem_cons_zero, List.getElem_cons_succ, Act.put, List.setIfInBounds_toArray, List.set_cons_zero, List.set_cons_succ]
        refine wpAnyH_take (i := 11) (v := .int .i64 rt) rfl (by kernel_rfl) (by kernel_rfl) (by kernel_rfl) (fun _ _ _ h => h) (Or.inl ⟨by simp [Region.wanted], fun W _ => by go_simp⟩) HD4.out.lo ?_
        simp only [List.getElem_toArray, List.getElem_cons_zero, List.getElem_cons_succ, Act.put, List.setIfInBounds_toArray, List.set_cons_zero, List.set_cons_succ]
        refine wpAnyH_take (i := 12) (v := .bool ok) rfl (by kernel_rfl) (by kernel_rfl) (by kernel_rfl) (fun _ _ _ h => h) (Or.inl ⟨by simp [Region.wanted], fun W _ => by go_simp⟩) HD4.out.lo ?_
        simp only [List.getElem_toArray, List.getElem_cons_zero, List.getElem_cons_succ, Act.put, List.setIfInBounds_toArray, List.set_cons_zero, List.set_cons_succ]
        refine wpAnyH_done (by kernel_rfl) ?_ _
        go_upto_region 8 with (fail)
        have HE := Lib.hid (HD4.out.below ((Below.refl _ w4).drew))
        clear HD HD4 hS
        refine wp_region_held_drew (S := fun W => Below w2.heap.size w2 W) (by kernel_rfl) HE.out.lo (fun hS => ?_)
        refine wpAnyH_take (i := 1) (v := .pointer (some ⟨w.heap.size, 1, none⟩)) rfl (by kernel_rfl) (by kernel_rfl) (by kernel_rfl) (fun _ _ _ h => h) (Or.inl ⟨by simp [Region.wanted], fun W _ => by go_simp⟩) hS ?_
        simp only [List.getElem_toArray, List.getElem_cons_zero, List.getElem_cons_succ, Act.put, List.setIfInBounds_toArray, List.set_cons_zero, List.set_cons_succ]
        refine wpAnyH_take (i := 2) (v := .slice (some ⟨b0, off, none⟩) n v.cs) rfl (by kernel_rfl) (by kernel_rfl) (by kernel_rfl) (fun _ _ _ h => h) (Or.inl ⟨by simp [Region.wanted], fun W hW => by have h1 := HCE.out W hW; go_simp⟩) hS ?_
        simp only [List.getElem_toArray, List.getElem_cons_zero, List.getElem_cons_succ, Act.put, List.setIfInBounds_toArray, List.set_cons_zero, List.set_cons_succ]
        refine wpAnyH_take (i := 3) (v := .int .i64 (i : Int)) rfl (by kernel_rfl) (by kernel_rfl) (by kernel_rfl) (fun _ _ _ h => h) (Or.inl ⟨by simp [Region.wanted], fun W _ => by go_simp⟩) hS ?_
        simp only [List.getElem_toArray, List.getElem_cons_zero, List.getElem_cons_succ, Act.put, List.setIfInBounds_toArray, List.set_cons_zero, List.set_cons_succ]
        refine wpAnyH_take (i := 4) (v := .pointer (some ⟨b0, off + i * 3, none⟩)) rfl (by kernel_rfl) (by kernel_rfl) (by kernel_rfl) (fun _ _ _ h => h) (Or.inl ⟨by simp [Region.wanted], fun W _ => by go_simp⟩) hS ?_
        simp only [List.getElem_toArray, List.getElem_cons_zero, List.getElem_cons_succ, Act.put, List.setIfInBounds_toArray, List.set_cons_zero, List.set_cons_succ]
        refine wpAnyH_take (i := 5) (v := .pointer (some ⟨b0, off + i * 3 + 2, none⟩)) rfl (by kernel_rfl) (by kernel_rfl) (by kernel_rfl) (fun _ _ _ h => h) (Or.inl ⟨by simp [Region.wanted], fun W _ => by go_simp⟩) hS ?_
        simp only [List.getElem_toArray, List.getElem_cons_zero, List.getElem_cons_succ, Act.put, List.setIfInBounds_toArray, List.set_cons_zero, List.set_cons_succ]
        refine wpAnyH_take (i := 6) (v := .int .i64 s2) rfl (by kernel_rfl) (by kernel_rfl) (by kernel_rfl) (fun _ _ _ h => h) (Or.inl ⟨by simp [Region.wanted], fun W hW => by have h1 := HC2.out W hW; go_simp⟩) hS ?_
        simp only [List.getElem_toArray, List.getElem_cons_zero, List.getElem_cons_succ, Act.put, List.setIfInBounds_toArray, List.set_cons_zero, List.set_cons_succ]
        refine wpAnyH_take (i := 7) (v := .int .i64 rt) rfl (by kernel_rfl) (by kernel_rfl) (by kernel_rfl) (fun _ _ _ h => h) (Or.inl ⟨by simp [Region.wanted], fun W _ => by go_simp⟩) hS ?_
        simp only [List.getElem_toArray, List.getElem_cons_zero, List.getElem_cons_succ, Act.put, List.setIfInBounds_toArray, List.set_cons_zero, List.set_cons_succ]
        refine wpAnyH_ready (rs := [0, 8]) (by kernel_rfl) (by simp) ?_
        refine AllReadyH.cons rfl (fun K hK => ?_) (AllReadyH.cons rfl (fun K hK => ?_) AllReadyH.nil)
        · refine wanted_go rfl ?_
          simp only [List.getElem_toArray, List.getElem_cons_zero]
          have c0 := HE.out.bx.c0; have c1 := HE.out.bx.c1
          go_wp2
          clear c0 c1
          refine hK.out _ _ (HE.out.lo) (fun _ => ?_)
          refine wpAnyH_ready (rs := [8]) (by kernel_rfl) (by simp) ?_
          refine AllReadyH.cons rfl (fun K hK => ?_) AllReadyH.nil
          refine wanted_go rfl ?_
          simp only [List.getElem_toArray, List.getElem_cons_zero, List.getElem_cons_succ]
          go_wp2_with (go_at_call 34; refine (HMU.out _).mono ?_; rintro e w5 ⟨x5, p5, k5, c5, rfl, hbig, hb5⟩; have HG5 := Lib.hid hbig; have HS5 := Lib.hid (HE.out.below hb5); clear hbig hb5)
          refine hK.out _ _ (HS5.out.lo) (fun _ => ?_)
          refine wpAnyH_ready (rs := [9]) (by kernel_rfl) (by simp) ?_
          refine AllReadyH.cons rfl (fun K hK => ?_) AllReadyH.nil
          refine wanted_go rfl ?_
          simp only [List.getElem_toArray, List.getElem_cons_zero, List.getElem_cons_succ]
          go_wp2_with (go_at_call 33; refine (HAD.out _ _ _ HS5.out.big HG5.out).mono ?_; rintro e w6 ⟨x6, p6, k6, c6, rfl, hbig, hb6⟩; have HG6 := Lib.hid hbig; have HS6 := Lib.hid (HS5.out.below hb6); clear hbig hb6)
          refine hK.out _ _ (HS6.out.lo) (fun _ => ?_)
          refine wpAnyH_ready (rs := [10]) (by kernel_rfl) (by simp) ?_
          refine AllReadyH.cons rfl (fun K hK => ?_) AllReadyH.nil
          refine wanted_go rfl ?_
          simp only [List.getElem_toArray, List.getElem_cons_zero, List.getElem_cons_succ]
          have c0 := HS6.out.bx.c0; have c1 := HS6.out.bx.c1; have f0 := HS6.out.bx.f 0; have f1 := HS6.out.bx.f 1
          have HZ := Lib.hid (HS6.out.stored HG6.out)
          go_wp2
          clear c0 c1 f0 f1
          refine hK.out _ _ (HZ.out.lo) (fun _ => ?_)
          refine wpAnyH_done (by kernel_rfl) ?_ _
          go_wp2
          go_roundw
          case rel => exact ⟨i + 1, x6, p6, k6, c6, by go_num, hlt, by rw [HZP.out]; exact HZ.out⟩
          case measure => simp [intOf]; omega
        · refine wanted_go rfl ?_
          simp only [List.getElem_toArray, List.getElem_cons_zero, List.getElem_cons_succ]
          go_wp2_with (go_at_call 34; refine (HMU.out _).mono ?_; rintro e w5 ⟨x5, p5, k5, c5, rfl, hbig, hb5⟩; have HG5 := Lib.hid hbig; have HS5 := Lib.hid (HE.out.below hb5); clear hbig hb5)
          refine hK.out _ _ (HS5.out.lo) (fun _ => ?_)
          refine wpAnyH_ready (rs := [0]) (by kernel_rfl) (by simp) ?_
          refine AllReadyH.cons rfl (fun K hK => ?_) AllReadyH.nil
          refine wanted_go rfl ?_
          simp only [List.getElem_toArray, List.getElem_cons_zero]
          have c0 := HS5.out.bx.c0; have c1 := HS5.out.bx.c1
          go_wp2
          clear c0 c1
          refine hK.out _ _ (HS5.out.lo) (fun _ => ?_)
          refine wpAnyH_ready (rs := [9]) (by kernel_rfl) (by simp) ?_
          refine AllReadyH.cons rfl (fun K hK => ?_) AllReadyH.nil
          refine wanted_go rfl ?_
          simp only [List.getElem_toArray, List.getElem_cons_zero, List.getElem_cons_succ]
          go_wp2_with (go_at_call 33; refine (HAD.out _ _ _ HS5.out.big HG5.out).mono ?_; rintro e w6 ⟨x6, p6, k6, c6, rfl, hbig, hb6⟩; have HG6 := Lib.hid hbig; have HS6 := Lib.hid (HS5.out.below hb6); clear hbig hb6)
          refine hK.out _ _ (HS6.out.lo) (fun _ => ?_)
          refine wpAnyH_ready (rs := [10]) (by kernel_rfl) (by simp) ?_
          refine AllReadyH.cons rfl (fun K hK => ?_) AllReadyH.nil
          refine wanted_go rfl ?_
          simp only [List.getElem_toArray, List.getElem_cons_zero, List.getElem_cons_succ]
          have c0 := HS6.out.bx.c0; have c1 := HS6.out.bx.c1; have f0 := HS6.out.bx.f 0; have f1 := HS6.out.bx.f 1
          have HZ := Lib.hid (HS6.out.stored HG6.out)
          go_wp2
          clear c0 c1 f0 f1
          refine hK.out _ _ (HZ.out.lo) (fun _ => ?_)
          refine wpAnyH_done (by kernel_rfl) ?_ _
          go_wp2
          go_roundw
          case rel => exact ⟨i + 1, x6, p6, k6, c6, by go_num, hlt, by rw [HZP.out]; exact HZ.out⟩
          case measure => simp [intOf]; omega
      · have g : (s0 == acc) = false := by rw [beq_eq_false_iff_ne]; exact he
        have HNX := Lib.hid (ofAcc_no (j := 0) (a := acc) hx (show (key 0 [s0, s1, s2] == acc) = false from g))
        clear he hx hmem hfp
        go_wp2
        go_roundw
        case rel => exact ⟨i + 1, x, p, k, c, by go_num, hlt, by rw [HNX.out]; exact HM.out⟩
        case measure => simp [intOf]; omega
    · have hE : cashOf b acc + sumI (eqW b) (ofAcc 0 acc (b.ss.take i)) = eqT b acc := by rw [List.take_of_length_le (by rw [HN.out]; omega)]; rfl
      rw [hE] at HM hfp
      have HFI := Lib.hid (fun v1 W h => fits24 v1 (eqT b acc) W h hfp.pow)
      rw [HFV.out, HFB.out] at HFI
      generalize eqT b acc = z at *
      clear hfp
      have b0 := HM.out.bx.c0; have b1 := HM.out.bx.c1
      go_wp2_with (go_at_call 35; refine (HFI.out _ _ HM.out.big).mono ?_; rintro e w7 ⟨rfl, hb7⟩; have HB7 := Lib.hid hb7; clear hb7)
      go_ret2
      exact ⟨rfl, HL2.out.trans ((HM.out.lo.trans (HB7.out.mono HM.out.lo.size)).mono HL2.out.size)⟩
end Go.Proofs.Ytmndkbfjmamnfaa
