/- The program's After: the contract. -/
import Derived.Test.YtmndkbfjmamnfaaMgP6
import Derived.Test.YtmndkbfjmamnfaaMgRef5
namespace Go.Proofs.Ytmndkbfjmamnfaa
open Go.RowKit Base Base2

theorem grown_trans {A B C : World} {r : Option Nat} (h : A.grownBy B r) (k : B.grownBy C r) : A.grownBy C r :=
  ⟨k.os.trans h.os, k.tape.trans h.tape, k.output.trans h.output, Nat.le_trans h.size k.size, fun i hi hne => (k.block i (Nat.lt_of_lt_of_le hi h.size) hne).trans (h.block i hi hne)⟩
theorem not_i64 {a : Int} (h1 : -9223372036854775808 ≤ a) (h2 : a ≤ 9223372036854775807) : bits .xor .i64 (if IntKind.i64.signed = true then -1 else 9223372036854775807) a = -a - 1 := by
  show IntKind.i64.wrap ((BitVec.ofInt 64 (-1) ^^^ BitVec.ofInt 64 a).toNat : Int) = _
  have e : (BitVec.ofInt 64 (-1)) = BitVec.allOnes 64 := by decide
  rw [e, BitVec.xor_comm, BitVec.xor_allOnes, BitVec.toNat_not, BitVec.toNat_ofInt, IntKind.wrap_i64]
  omega
set_option maxRecDepth 100000 in
set_option maxHeartbeats 8000000 in
theorem pproduct42 (g : Nat) (z s a b : Int) (w : World) (hs : s = 1 ∨ s = -1) (h : NumAt w g 54 z) (ha : In64' a) (hb : In64' b) (hr : In192 (z + s * (a * b))) (hr2 : In192 (z + (-a - 1) * b)) :
    Calls Try.prog 42 #[.func (.func 23) #[.pointer (some ⟨g, 0, none⟩)] #[], .int .i64 s, .int .i64 a, .int .i64 b] w fun e w' => e = .returned (.tuple #[]) ∧ NumAt w' g 54 (z + s * (a * b)) ∧ w.grownBy w' (some g) := by
  rcases hs with rfl | rfl
  · rw [Int.one_mul] at hr ⊢
    have HAD := Lib.hid (addMul17 g z a b w h ha hb hr)
    clear h ha hb hr hr2
    generalize a * b = ab at *
    go_enter Try.func42, Try.ntmps42
    go_wp2_with (go_at_call 23; refine HAD.out.mono ?_; rintro e w1 ⟨rfl, hn1, hg1⟩; have HN := Lib.hid (And.intro hn1 hg1); clear hn1 hg1)
    (try simp only [Exit.inBlock, Exit.then])
    refine bodyPost_ret (v := .tuple #[]) (results_none rfl _ _ _) rfl ?_
    exact ⟨rfl, HN.out⟩
  · have hna : In64' (-a - 1) := by unfold In64' at *; omega
    have HA1 := Lib.hid (addMul17 g z (-a - 1) b w h hna hb hr2)
    have he : z + (-a - 1) * b + b * 1 = z + -1 * (a * b) := by rw [Int.sub_mul, Int.neg_mul, Int.one_mul, Int.mul_one, Int.neg_mul, Int.one_mul]; omega
    have HA2 := Lib.hid (fun W (h : NumAt W g 54 (z + (-a - 1) * b)) => addMul17 g _ b 1 W h hb (by unfold In64'; omega) (by rw [he]; exact hr))
    rw [he] at HA2
    clear h hb hr hr2 he
    generalize z + -1 * (a * b) = z' at *
    generalize z + (-a - 1) * b = z1 at *
    have HX := Lib.hid (not_i64 ha.1 ha.2)
    clear ha hna
    go_enter Try.func42, Try.ntmps42
    go_wp2_with (first
      | (have hq := HN1.out; clear hq; go_at_call 23; refine (HA2.out _ HN1.out.1).mono ?_; rintro e w2 ⟨rfl, hn2, hg2⟩; have HN2 := Lib.hid (And.intro hn2 hg2); clear hn2 hg2)
      | (go_at_call 23; rw [HX.out]; refine HA1.out.mono ?_; rintro e w1 ⟨rfl, hn1, hg1⟩; have HN1 := Lib.hid (And.intro hn1 hg1); clear hn1 hg1))
    go_end0
    exact ⟨rfl, HN2.out.1, grown_trans HN1.out.2 HN2.out.2⟩
/-- Two sums in variables made one behind the other. -/
structure TwoN (g : Nat) (W0 : World) (z1 z2 : Int) (W : World) : Prop where
  n1 : NumAt W g 54 z1
  n2 : NumAt W (g + 1) 54 z2
  lo : Below W0.heap.size W0 W
theorem TwoN.below {g : Nat} {W0 : World} {z1 z2 : Int} {A B : World} (h : TwoN g W0 z1 z2 A) (hb : Below A.heap.size A B) : TwoN g W0 z1 z2 B := ⟨h.n1.below hb, h.n2.below hb, h.lo.trans (hb.mono h.lo.size)⟩
theorem TwoN.one {g : Nat} {W0 : World} {z1 z2 z' : Int} {A B : World} (h : TwoN g W0 z1 z2 A) (hn : NumAt B g 54 z') (hg : A.grownBy B (some g)) (hw : W0.heap.size ≤ g) : TwoN g W0 z' z2 B :=
  ⟨hn, h.n2.blk (hg.block _ h.n2.lt (by simp)), h.lo.grown hg h.lo.size (fun k e => by cases e; exact hw)⟩
theorem TwoN.two {g : Nat} {W0 : World} {z1 z2 z' : Int} {A B : World} (h : TwoN g W0 z1 z2 A) (hn : NumAt B (g + 1) 54 z') (hg : A.grownBy B (some (g + 1))) (hw : W0.heap.size ≤ g) : TwoN g W0 z1 z' B :=
  ⟨h.n1.blk (hg.block _ h.n1.lt (by simp)), hn, h.lo.grown hg h.lo.size (fun k e => by cases e; omega)⟩
theorem TwoN.new {W0 w : World} (h : Below W0.heap.size W0 w) : TwoN w.heap.size W0 0 0 ((w.alloc (.cells #[.int .u64 0, .int .u64 0, .int .u64 0] 54)).alloc (.cells #[.int .u64 0, .int .u64 0, .int .u64 0] 54)) := by
  have h2 := num_new (w.alloc (.cells #[.int .u64 0, .int .u64 0, .int .u64 0] 54))
  rw [World.size_alloc] at h2
  exact ⟨(num_new w).below ((Below.refl _ _).alloc (Nat.le_refl _) _), h2, (h.alloc h.size _).alloc (by have := h.size; simp; omega) _⟩
set_option maxRecDepth 100000 in
set_option maxHeartbeats 8000000 in
theorem pafter16 (v : Slots) (b : BookT) (o0 acc sy d o4 o5 q pc : Int) (w : World) (hb : BookIn w v b) (hk : BookOk 2000 b) (hq : In64' q) (hpc : In64' pc) :
    Calls Try.prog 16 #[.agg (cellsB v b), .agg #[.int .i64 o0, .int .i64 acc, .int .i64 sy, .int .i64 d, .int .i64 o4, .int .i64 o5], .int .i64 q, .int .i64 pc] w fun e w' => e = .returned (.tuple #[.int .i64 (if sideB d && mayT b then fitV (leftT b acc d q pc) else 0), .int .i64 (if sideB d && mayT b then fitV (muchT b acc sy d q) else 0), .bool (sideB d && mayT b && fitB (leftT b acc d q pc)), .bool (sideB d && mayT b && fitB (muchT b acc sy d q))]) ∧ Below w.heap.size w w' := by
  obtain ⟨W0, hW0⟩ : ∃ x, (w.alloc (.cells (cellsB v b) 27)).alloc (.cells #[Value.int .i64 o0, .int .i64 acc, .int .i64 sy, .int .i64 d, .int .i64 o4, .int .i64 o5] 37) = x := ⟨_, rfl⟩
  have hA : Below w.heap.size w W0 := by rw [← hW0]; exact ((Below.refl _ w).alloc (Nat.le_refl _) _).alloc (by simp) _
  have hN := two_new (W := w) (O := .cells (cellsB v b) 27) (P := .cells #[Value.int .i64 o0, .int .i64 acc, .int .i64 sy, .int .i64 d, .int .i64 o4, .int .i64 o5] 37)
  rw [hW0] at hN
  have hg : BoxB W0 w.heap.size v b := hN.1
  have ho := hN.2
  have HA := Lib.hid hA
  have HBI := Lib.hid (show BkIn w.heap.size v b W0 from ⟨hg, hb.below hA⟩)
  have HOP := Lib.hid (fun W (h : Below W0.heap.size W0 W) => show W.heap[w.heap.size + 1]? = some (.cells #[Value.int .i64 o0, .int .i64 acc, .int .i64 sy, .int .i64 d, .int .i64 o4, .int .i64 o5] 37 (0, 0)) from (h.block _ (blk_ltK ho)).trans ho)
  have HO1 := Lib.hid (fun W (h : Below W0.heap.size W0 W) => show W.cell? ⟨w.heap.size + 1, 1, none⟩ = some (.int .i64 acc) from by rw [cell_of_row _ _ _ _ _ _ (HOP.out W h)]; rfl)
  have HO2 := Lib.hid (fun W (h : Below W0.heap.size W0 W) => show W.cell? ⟨w.heap.size + 1, 2, none⟩ = some (.int .i64 sy) from by rw [cell_of_row _ _ _ _ _ _ (HOP.out W h)]; rfl)
  have o3 : W0.cell? ⟨w.heap.size + 1, 3, none⟩ = some (.int .i64 d) := by rw [cell_of_row _ _ _ _ _ _ ho]; rfl
  have HLB := Lib.hid (fun W (h : Below W0.heap.size W0 W) => load_book (HBI.out.box h))
  have HMY := Lib.hid (pmay9 v b W0 (hb.below hA) hk)
  obtain ⟨fe, hfe⟩ : ∃ x, Ending.returned (.tuple #[.int .i64 (if sideB d && mayT b then fitV (leftT b acc d q pc) else 0), .int .i64 (if sideB d && mayT b then fitV (muchT b acc sy d q) else 0), .bool (sideB d && mayT b && fitB (leftT b acc d q pc)), .bool (sideB d && mayT b && fitB (muchT b acc sy d q))]) = x := ⟨_, rfl⟩
  have HFE := Lib.hid hfe
  rw [hfe]
  clear hfe ho hN
  cases hsd : sideB d with
  | false =>
    rw [hsd, Bool.false_and, if_neg (by simp), if_neg (by simp), Bool.false_and, Bool.false_and] at HFE
    have HSG := Lib.hid (sign_no hsd)
    clear hb hk hg hA hsd HMY hq hpc
    generalize cellsB v b = CA at *
    go_enter Try.func16, Try.ntmps16
    go_wp2_with (go_at_call 38; refine (HSG.out _).mono ?_; rintro e w1 ⟨rfl, hw1⟩; subst hw1)
    (try simp only [Exit.inBlock, Exit.then])
    refine bodyPost_ret (results_tmp4 rfl _ _ _) rfl ?_
    exact ⟨HFE.out, HA.out⟩
  | true =>
    rw [hsd, Bool.true_and] at HFE
    have HSG := Lib.hid (sign_yes hsd)
    cases hm : mayT b with
    | false =>
      rw [hm, if_neg (by simp), if_neg (by simp), Bool.false_and, Bool.false_and] at HFE
      rw [hm] at HMY
      clear hb hk hg hA hm hq hsd hpc
      generalize cellsB v b = CA at *
      go_enter Try.func16, Try.ntmps16
      go_wp2_with (first
        | (go_at_call 38; refine (HSG.out _).mono ?_; rintro e w1 ⟨rfl, hw1⟩; subst hw1)
        | ((with_reducible refine atLoad (ty := 27) (x := .tmp 4) rfl ?_); refine loadE (by rfl) 27 (.tmp 4) rfl _ (.agg CA) rfl (HLB.out _ (Below.refl _ _)) ?_)
        | (go_at_call 20; refine HMY.out.mono ?_; rintro e w1 ⟨rfl, hb1⟩; have HB1 := Lib.hid hb1; clear hb1))
      (try simp only [Exit.inBlock, Exit.then])
      refine bodyPost_ret (results_tmp4 rfl _ _ _) rfl ?_
      exact ⟨HFE.out, HA.out.trans (HB1.out.mono HA.out.size)⟩
    | true =>
      rw [hm, if_pos rfl, if_pos rfl, Bool.true_and, Bool.true_and] at HFE
      rw [hm] at HMY
      obtain ⟨r1, _, r3⟩ := may_rises hm
      have HCS := Lib.hid (fun W (h : Below W0.heap.size W0 W) => pcash22 v b acc W (HBI.out.book h) hk.hs r1)
      have HST := Lib.hid (fun W (h : Below W0.heap.size W0 W) => show Calls Try.prog 39 #[.agg (cellsB v b), .int .i64 acc, .int .i64 sy] W fun e w' => e = .returned (.int .i64 (stakeOf b acc sy)) ∧ Below W.heap.size W w' from progStake v b acc sy W (HBI.out.book h) hk.ss r3)
      have ch64 := cash_in hk.hs acc
      have st64 := stake_in hk.ss acc sy
      have hlf := left_fine hk (a := acc) d hq hpc
      have hmf := much_fine hk (a := acc) (s := sy) d hq
      have hqp := prod_nat hq hpc
      have hel : leftT b acc d q pc = cashOf b acc + -(sgD d) * (q * pc) := by unfold leftT; rw [Int.neg_mul]; omega
      have hem : muchT b acc sy d q = stakeOf b acc sy + q * sgD d := by unfold muchT; rw [Int.mul_comm q]
      have hpr : In192 (cashOf b acc + (-q - 1) * pc) := by
        rw [Int.sub_mul, Int.neg_mul, Int.one_mul]
        unfold In64' at ch64 hpc
        exact (fine_of (by omega)).in
      have hsg : -(sgD d) = 1 ∨ -(sgD d) = -1 := by unfold sgD; split <;> omega
      have HA1 := Lib.hid (fun W g (h : NumAt W g 54 0) => add16 g 0 (cashOf b acc) W h ch64 (by unfold In192; unfold In64' at ch64; omega))
      have HA2 := Lib.hid (fun W g (h : NumAt W g 54 (cashOf b acc)) => pproduct42 g (cashOf b acc) (-(sgD d)) q pc W hsg h hq hpc (by rw [← hel]; exact hlf.in) hpr)
      have HA3 := Lib.hid (fun W g (h : NumAt W g 54 0) => add16 g 0 (stakeOf b acc sy) W h st64 (by unfold In192; unfold In64' at st64; omega))
      have HA4 := Lib.hid (fun W g (h : NumAt W g 54 (stakeOf b acc sy)) => addMul17 g (stakeOf b acc sy) q (sgD d) W h hq (sg_in d) (by rw [← hem]; exact hmf.in))
      rw [Int.zero_add] at HA1 HA3
      rw [← hel] at HA2
      rw [← hem] at HA4
      have HT1 := Lib.hid (fun W g (h : NumAt W g 54 (leftT b acc d q pc)) => total18 g _ W h)
      have HT2 := Lib.hid (fun W g (h : NumAt W g 54 (muchT b acc sy d q)) => total18 g _ W h)
      generalize leftT b acc d q pc = lt at *
      generalize muchT b acc sy d q = mt at *
      generalize cashOf b acc = ch at *
      generalize stakeOf b acc sy = st at *
      have hsd' : sgD d = 1 ∨ sgD d = -1 := by unfold sgD; split <;> omega
      clear hb hk hg hA hm hq hpc r1 r3 ch64 st64 hlf hmf hqp hel hem hpr hsg hsd
      generalize sgD d = sg at *
      generalize hCA : cellsB v b = CA at *
      have HCA := Lib.hid hCA
      clear hCA
      go_enter Try.func16, Try.ntmps16
      go_upto_region 5 with (first
        | (go_at_call 38; refine (HSG.out _).mono ?_; rintro e w1 ⟨rfl, hw1⟩; subst hw1)
        | ((with_reducible refine atLoad (ty := 27) (x := .tmp 4) rfl ?_); refine loadE (by rfl) 27 (.tmp 4) rfl _ (.agg CA) rfl (HLB.out _ (Below.refl _ _)) ?_)
        | (go_at_call 20; refine HMY.out.mono ?_; rintro e w1 ⟨rfl, hb1⟩; have HB1 := Lib.hid hb1; clear hb1))
      have hw1 : W0.heap.size ≤ w1.heap.size := HB1.out.size
      refine at_world (Φ := fun W => TwoN w1.heap.size W0 0 0 W) (TwoN.new HB1.out) ?_
      clear HB1 HMY HSG hW0 o3
      rintro W2 hM
      have HM0 := Lib.hid hM
      have o1 := HO1.out _ hM.lo
      clear hM
      go_upto_region 6 with (first
        | ((with_reducible refine atLoad (ty := 27) (x := .tmp 4) rfl ?_); refine loadE (wanted_noneD rfl) 27 (.tmp 4) rfl _ (.agg CA) rfl (HLB.out _ HM0.out.lo) ?_)
        | (go_at_call 22; refine (HCS.out _ HM0.out.lo).mono ?_; rintro e w3 ⟨rfl, hb3⟩; have HM3 := Lib.hid (HM0.out.below hb3); clear hb3)
        | (go_at_call 21; refine (HA1.out _ _ HM3.out.n1).mono ?_; rintro e w4 ⟨rfl, hn4, hg4⟩; have HM4 := Lib.hid (HM3.out.one hn4 hg4 hw1); clear hn4 hg4))
      clear o1
      rcases hsd' with rfl | rfl
      · go_upto_region 7 with (go_at_call 42; refine (HA2.out _ _ HM4.out.n1).mono ?_; rintro e w5 ⟨rfl, hn5, hg5⟩; have HM5 := Lib.hid (HM4.out.one hn5 hg5 hw1); clear hn5 hg5)
        have o1 := HO1.out _ HM5.out.lo
        have o2 := HO2.out _ HM5.out.lo
        go_wp2_with (first
          | ((with_reducible refine atLoad (ty := 27) (x := .tmp 4) rfl ?_); refine loadE (wanted_noneD rfl) 27 (.tmp 4) rfl _ (.agg CA) rfl (HLB.out _ HM5.out.lo) ?_)
          | (go_at_call 39; refine (HST.out _ HM5.out.lo).mono ?_; rintro e w6 ⟨rfl, hb6⟩; have HM6 := Lib.hid (HM5.out.below hb6); clear hb6)
          | (go_at_call 21; refine (HA3.out _ _ HM6.out.n2).mono ?_; rintro e w7 ⟨rfl, hn7, hg7⟩; have HM7 := Lib.hid (HM6.out.two hn7 hg7 hw1); clear hn7 hg7)
          | (go_at_call 23; refine (HA4.out _ _ HM7.out.n2).mono ?_; rintro e w8 ⟨rfl, hn8, hg8⟩; have HM8 := Lib.hid (HM7.out.two hn8 hg8 hw1); clear hn8 hg8)
          | (have hq := HQ9.out; clear hq; go_at_call 25; refine (HT2.out _ _ HM8.out.n2).mono ?_; rintro e w9 ⟨rfl, hw9⟩; subst hw9)
          | (go_at_call 25; refine (HT1.out _ _ HM8.out.n1).mono ?_; rintro e w9 ⟨rfl, hw9⟩; subst hw9; have HQ9 := Lib.hid True.intro))
        (try simp only [Exit.inBlock, Exit.then])
        refine bodyPost_ret (results_tmp4 rfl _ _ _) rfl ?_
        exact ⟨HFE.out, HA.out.trans (HM8.out.lo.mono HA.out.size)⟩
      · go_upto_region 7 with (go_at_call 42; refine (HA2.out _ _ HM4.out.n1).mono ?_; rintro e w5 ⟨rfl, hn5, hg5⟩; have HM5 := Lib.hid (HM4.out.one hn5 hg5 hw1); clear hn5 hg5)
        have o1 := HO1.out _ HM5.out.lo
        have o2 := HO2.out _ HM5.out.lo
        go_wp2_with (first
          | ((with_reducible refine atLoad (ty := 27) (x := .tmp 4) rfl ?_); refine loadE (wanted_noneD rfl) 27 (.tmp 4) rfl _ (.agg CA) rfl (HLB.out _ HM5.out.lo) ?_)
          | (go_at_call 39; refine (HST.out _ HM5.out.lo).mono ?_; rintro e w6 ⟨rfl, hb6⟩; have HM6 := Lib.hid (HM5.out.below hb6); clear hb6)
          | (go_at_call 21; refine (HA3.out _ _ HM6.out.n2).mono ?_; rintro e w7 ⟨rfl, hn7, hg7⟩; have HM7 := Lib.hid (HM6.out.two hn7 hg7 hw1); clear hn7 hg7)
          | (go_at_call 23; refine (HA4.out _ _ HM7.out.n2).mono ?_; rintro e w8 ⟨rfl, hn8, hg8⟩; have HM8 := Lib.hid (HM7.out.two hn8 hg8 hw1); clear hn8 hg8)
          | (have hq := HQ9.out; clear hq; go_at_call 25; refine (HT2.out _ _ HM8.out.n2).mono ?_; rintro e w9 ⟨rfl, hw9⟩; subst hw9)
          | (go_at_call 25; refine (HT1.out _ _ HM8.out.n1).mono ?_; rintro e w9 ⟨rfl, hw9⟩; subst hw9; have HQ9 := Lib.hid True.intro))
        (try simp only [Exit.inBlock, Exit.then])
        refine bodyPost_ret (results_tmp4 rfl _ _ _) rfl ?_
        exact ⟨HFE.out, HA.out.trans (HM8.out.lo.mono HA.out.size)⟩
end Go.Proofs.Ytmndkbfjmamnfaa
