/- The program's Equity: the contract. -/
import Derived.Test.YtmndkbfjmamnfaaMgP3
import Derived.Test.YtmndkbfjmamnfaaMoneySum
import Derived.Test.YtmndkbfjmamnfaaBkQ12
namespace Go.Proofs.Ytmndkbfjmamnfaa
open Go.RowKit Go.Shelf Base Base2

attribute [local go_sem] Oper.semAt_some
/-- What is being added up, how it is told, and that nothing older is turned. -/
structure SumI (n g p : Nat) (t : TypeId) (f : Value) (w : World) (z : Int) (W : World) : Prop where
  num : NumAt W g 54 z
  add : Boxed W p t f
  lo : Below w.heap.size w W
  sz : n ≤ W.heap.size
theorem NumAt.blk {A B : World} {g T : Nat} {z : Int} (h : NumAt A g T z) (hb : B.heap[g]? = A.heap[g]?) : NumAt B g T z := by
  obtain ⟨a, b, c, h1, h2⟩ := h
  exact ⟨a, b, c, h1, hb.trans h2⟩
theorem NumAt.lt {A : World} {g T : Nat} {z : Int} (h : NumAt A g T z) : g < A.heap.size := by
  obtain ⟨a, b, c, h1, h2⟩ := h
  exact blk_ltK h2
theorem SumI.turn {n g p : Nat} {t : TypeId} {f : Value} {w : World} {z : Int} {A B : World} {S : Nat → Obj → Prop} (h : SumI n g p t f w z A) (hg : g < n) (hp : p < n) (hw : w.heap.size ≤ n) (ht : TurnsK S A B) (hS : ∀ k o, S k o → n ≤ k) : SumI n g p t f w z B := by
  have hl : Below n A B := ht.lo h.sz (fun k o hk a => by have := hS k o a; omega)
  exact ⟨h.num.blk (hl.block g hg), (hl.block p hp).trans h.add, h.lo.trans (hl.mono hw), Nat.le_trans h.sz hl.size⟩
theorem SumI.below {n g p : Nat} {t : TypeId} {f : Value} {w : World} {z : Int} {A B : World} (h : SumI n g p t f w z A) (hb : Below A.heap.size A B) : SumI n g p t f w z B :=
  ⟨h.num.below hb, (hb.block p h.add.lt).trans h.add, h.lo.trans (hb.mono h.lo.size), Nat.le_trans h.sz hb.size⟩
theorem SumI.added {n g p : Nat} {t : TypeId} {f : Value} {w : World} {z z' : Int} {A B : World} (h : SumI n g p t f w z A) (hn : NumAt B g 54 z') (hg : A.grownBy B (some g)) (hw : w.heap.size ≤ g) (hne : p ≠ g) : SumI n g p t f w z' B :=
  ⟨hn, h.add.kept hg (by simpa using hne), h.lo.grown hg h.lo.size (fun k e => by cases e; exact hw), Nat.le_trans h.sz hg.size⟩
/-- What a round of it turns: the sum. -/
def RSum (g : Nat) : Nat → Obj → Prop := fun k o => k = g ∧ ∃ cs, o = .cells cs 54 (0, 0)
theorem RSum.cells {g k : Nat} {o : Obj} (h : RSum g k o) : o.isCells = true := by obtain ⟨_, cs, rfl⟩ := h; rfl
theorem RSum.no (g : Nat) : NoT [27, 2, 84] (RSum g) := fun k cs t fz h => by obtain ⟨_, cs', e⟩ := h; cases e; decide
theorem RSum.of {g : Nat} {z : Int} {A B : World} (h : NumAt A g 54 z) (hg : A.grownBy B (some g)) : TurnsK (RSum g) A B := TurnsK.grown hg fun k o e hk => by
  cases e
  obtain ⟨a, b, c, h1, h2⟩ := h
  rw [h2] at hk
  cases hk
  exact ⟨rfl, _, rfl⟩
theorem may_rises {b : BookT} (h : mayT b = true) : riseL lt1 b.hs = true ∧ riseL lt1 b.rs = true ∧ riseL lt2 b.ss = true := by
  simp only [mayT, riseT, Bool.and_eq_true] at h
  exact ⟨h.1.1.1.1.1.1.1.1, h.1.1.1.1.1.1.2, h.1.1.1.1.1.2⟩
set_option maxRecDepth 100000 in
set_option maxHeartbeats 8000000 in
theorem pequity9 (v : Slots) (b : BookT) (acc : Int) (w : World) (hb : BookIn w v b) (hk : BookOk 2000 b) :
    Calls Try.prog 9 #[.agg (cellsB v b), .int .i64 acc] w fun e w' => e = .returned (.tuple #[.int .i64 (if mayT b then fitV (eqT b acc) else 0), .bool (mayT b && fitB (eqT b acc))]) ∧ Below w.heap.size w w' := by
  obtain ⟨W0, hW0⟩ : ∃ x, w.alloc (.cells (cellsB v b) 27) = x := ⟨_, rfl⟩
  have hA : Below w.heap.size w W0 := by rw [← hW0]; exact (Below.refl _ w).alloc (Nat.le_refl _) _
  have hs0 : W0.heap.size = w.heap.size + 1 := by rw [← hW0]; simp
  have hg : BoxB W0 w.heap.size v b := by rw [← hW0]; exact BoxB.new w v b
  have HA := Lib.hid hA
  have HLB := Lib.hid (fun W (h : Below W0.heap.size W0 W) => load_book (hg.below h (blk_ltK hg)))
  have HMY := Lib.hid (pmay9 v b W0 (hb.below hA) hk)
  obtain ⟨fe, hfe⟩ : ∃ x, Ending.returned (.tuple #[.int .i64 (if mayT b then fitV (eqT b acc) else 0), .bool (mayT b && fitB (eqT b acc))]) = x := ⟨_, rfl⟩
  have HFE := Lib.hid hfe
  rw [hfe]
  clear hfe
  cases hm : mayT b with
  | false =>
    rw [hm, if_neg (by simp), Bool.false_and] at HFE
    rw [hm] at HMY
    clear hb hk hg hA hm hs0
    generalize cellsB v b = CA at *
    go_enter Try.func9, Try.ntmps9
    go_wp2_with (first
      | ((with_reducible refine atLoad (ty := 27) (x := .tmp 2) rfl ?_); refine loadE (wanted_noneD rfl) 27 (.tmp 2) rfl _ (.agg CA) rfl (HLB.out _ (Below.refl _ _)) ?_)
      | (go_at_call 20; refine HMY.out.mono ?_; rintro e w1 ⟨rfl, hb1⟩; have HB1 := Lib.hid hb1; clear hb1))
    go_ret2
    exact ⟨HFE.out, HA.out.trans (HB1.out.mono HA.out.size)⟩
  | true =>
    rw [hm, if_pos rfl, Bool.true_and] at HFE
    rw [hm] at HMY
    obtain ⟨r1, r2, _⟩ := may_rises hm
    have HCS := Lib.hid (fun W (h : Below w.heap.size w W) => pcash22 v b acc W (hb.below h) hk.hs r1)
    have HST := Lib.hid (fun W => stakes24 v b acc W)
    have HBI := Lib.hid hb
    have HK := Lib.hid hk
    have HRS := Lib.hid r2
    have HGB := Lib.hid hg
    have ch64 := cash_in hk.hs acc
    have HCH := Lib.hid ch64
    obtain ⟨ch, hch⟩ : ∃ x, cashOf b acc = x := ⟨_, rfl⟩
    have HEQ := Lib.hid (show eqT b acc = ch + sumI (eqW b) (ofAcc 0 acc b.ss) by rw [← hch]; rfl)
    rw [hch] at HCS HCH ch64
    have HADC := Lib.hid (fun W g (h : NumAt W g 54 0) => add16 g 0 ch W h ch64 (by unfold In192; unfold In64' at ch64; omega))
    rw [Int.zero_add] at HADC
    clear hb hk hg hm r1 r2 hch ch64 hA
    refine (callsIn_wide (n := 10)).1 ?_
    refine callsIn_of_wp_marks Try.func9 rfl trivial ?_ rfl
    simp only [Try.ntmps9, List.size_toArray, List.length_cons, List.length_nil, Nat.reduceAdd, Nat.reduceSub, Array.replicate_succ, Array.replicate_zero, List.push_toArray, List.append_toArray, List.nil_append, List.cons_append]
    generalize hCA : cellsB v b = CA at *
    have HCA := Lib.hid hCA
    clear hCA
    have HS0 := Lib.hid hs0
    clear hs0
    gi_wp2_with (first
      | (have hq := HB4.out; clear hq; (with_reducible refine atLoadIn (ty := 27) (x := .tmp 2) rfl ?_); refine loadEIn (wanted_noneD rfl) (fun _ _ => trivial) 27 (.tmp 2) rfl _ (.agg CA) rfl HL5.out ?_)
      | (have hq := HB1.out; clear hq; (with_reducible refine atLoadIn (ty := 27) (x := .tmp 2) rfl ?_); refine loadEIn (wanted_noneD rfl) (fun _ _ => trivial) 27 (.tmp 2) rfl _ (.agg CA) rfl (HLB.out _ (HB1.out.alloc HB1.out.size _)) ?_)
      | ((with_reducible refine atLoadIn (ty := 27) (x := .tmp 2) rfl ?_); refine loadEIn (wanted_noneD rfl) (fun _ _ => trivial) 27 (.tmp 2) rfl _ (.agg CA) rfl (HLB.out _ (Below.refl _ _)) ?_)
      | (refine ⟨trivial, ?_⟩; gi_at_call 20; refine (callsIn_wide.2 HMY.out).mono ?_; rintro e w1 ⟨rfl, hb1⟩; have HB1 := Lib.hid hb1; clear hb1)
      | (refine ⟨trivial, ?_⟩; gi_at_call 22; refine (callsIn_wide.2 (HCS.out _ (HA.out.trans ((HB1.out.alloc HB1.out.size _).mono HA.out.size)))).mono ?_; rintro e w3 ⟨rfl, hb3⟩; have HB3 := Lib.hid (show Below W0.heap.size W0 w3 from (HB1.out.alloc HB1.out.size _).trans (hb3.mono (by have := HB1.out.size; simp; omega))); have HN3 := Lib.hid (NumAt.below (num_new w1) hb3); clear hb3)
      | (refine ⟨trivial, ?_⟩; gi_at_call 21; refine (callsIn_wide.2 (HADC.out _ _ HN3.out)).mono ?_; rintro e w4 ⟨rfl, hn4, hg4⟩; have HN4 := Lib.hid hn4; have HB4 := Lib.hid (show Below W0.heap.size W0 w4 from HB3.out.grown hg4 HB3.out.size (fun k e => by cases e; exact HB1.out.size)); have HL5 := Lib.hid (HLB.out _ (HB4.out.alloc HB4.out.size (.cells #[.func (.func 23) #[.pointer (some ⟨w1.heap.size, 0, none⟩)] #[]] 57))); clear hn4 hg4)
      | (refine ⟨trivial, ?_⟩; gi_at_call 24; refine (callsIn_wide.2 (HST.out _)).mono ?_; rintro e w6 ⟨rfl, hw6⟩; have HW6 := Lib.hid hw6; clear hw6))
    have h3 := three_alloc (w := w4) (A := .cells #[.func (.func 23) #[.pointer (some ⟨w1.heap.size, 0, none⟩)] #[]] 57) (B := .cells CA 27) (C := .cells #[.int .i64 acc] 2)
    rw [← HW6.out] at h3
    obtain ⟨x1, x2, x3, x4⟩ := h3
    have hgl : w1.heap.size < w4.heap.size := HN4.out.lt
    have hs6 : w6.heap.size = w4.heap.size + 3 := by rw [HW6.out]; simp
    have hw1 : w.heap.size ≤ w1.heap.size := by have := HB1.out.size; have := HS0.out; omega
    have hw4 : Below w.heap.size w w4 := HA.out.trans (HB4.out.mono HA.out.size)
    have hw6 : Below w.heap.size w w6 := hw4.trans (x4.mono hw4.size)
    have HSI := Lib.hid (show SumI w6.heap.size w1.heap.size w4.heap.size 57 (.func (.func 23) #[.pointer (some ⟨w1.heap.size, 0, none⟩)] #[]) w ch w6 from ⟨HN4.out.below x4, x1, hw6, Nat.le_refl _⟩)
    have hseq := stakes_seq (RSum w1.heap.size) w v b HBI.out HK.out HRS.out acc (w4.heap.size + 1) (w4.heap.size + 1 + 1) w6 hw6 (by unfold BoxB; rw [HCA.out]; exact x2) x3 (fun k o h => by rw [h.1]; exact hw1) ((RSum.no _).sub (by simp))
    have HSQ := Lib.hid hseq
    clear x1 x2 x3 x4 hseq HLB HMY HCS HST HBI HADC HB1 HB3 HN3 HN4 HB4 HL5 HW6 HGB hW0 hw4
    refine range_kinds (gf := 49) (lb := #[.pointer (some ⟨w4.heap.size + 1, 0, none⟩), .pointer (some ⟨w4.heap.size + 1 + 1, 0, none⟩)]) (w := w6) rfl (enters_of Try.func49 (by kernel_rfl) rfl) HSQ.out (fun _ _ h => .inl h.cells) (Below.refl _ _) (fun _ => rfl)
      (fun pre W => (∃ s, pre ++ s = ofAcc 0 acc b.ss) ∧ SumI w6.heap.size w1.heap.size w4.heap.size 57 (.func (.func 23) #[.pointer (some ⟨w1.heap.size, 0, none⟩)] #[]) w (ch + sumI (eqW b) pre) W) (fun _ _ _ => False) ?bi ?bx ?h0
      (fun pre x a' W => (∃ s, pre ++ [x] ++ s = ofAcc 0 acc b.ss) ∧ SumI w6.heap.size w1.heap.size w4.heap.size 57 (.func (.func 23) #[.pointer (some ⟨w1.heap.size, 0, none⟩)] #[]) w (ch + sumI (eqW b) pre) W ∧ a' = ⟨#[.agg CA, .int .i64 acc, .pointer (some ⟨w.heap.size, 0, none⟩), undef, .int .i64 0, .bool false, .pointer (some ⟨w1.heap.size, 0, none⟩), .pointer (some ⟨w4.heap.size, 0, none⟩), .int .i64 (key 2 x), .int .i64 (rateOf b (key 1 x)), .agg CA, .bool true, .bool false, .agg CA, .int .i64 acc, .int .i64 ch, .tuple #[], .func (.func 23) #[.pointer (some ⟨w1.heap.size, 0, none⟩)] #[], .agg CA, .int .i64 acc, .func (.func 49) #[] #[.pointer (some ⟨w4.heap.size + 1, 0, none⟩), .pointer (some ⟨w4.heap.size + 1 + 1, 0, none⟩)], .int .i64 (key 2 x), .int .i64 (rateOf b (key 1 x)), undef, undef, undef, undef, undef, undef, undef], []⟩) ?bax ?assign ?body ?done ?stop
    case bi =>
      rintro pre A B ⟨h1, h2⟩ ht
      exact ⟨h1, h2.turn (by omega) (by omega) hw6.size ht (fun k o h => h.1)⟩
    case bx => exact fun _ _ _ _ h _ => h
    case h0 => exact ⟨⟨_, rfl⟩, by show SumI _ _ _ _ _ _ (ch + 0) _; rw [Int.add_zero]; exact HSI.out⟩
    case bax =>
      rintro pre x a' s A B ⟨h1, h2, h3⟩ ht
      exact ⟨h1, h2.turn (by omega) (by omega) hw6.size ht (fun k o h => h.1), h3⟩
    case assign =>
      rintro lo pre x W K2 ⟨_, hI⟩ htl hK
      have HKK := Lib.hid (hK _ _ (TurnsK.refl _ _) ⟨htl, hI, rfl⟩)
      clear hK hI htl
      dsimp only [encS]
      gi_wp2
      exact HKK.out
    case body =>
      rintro lo pre x a' W ⟨⟨s, htl⟩, hI, rfl⟩
      have hxm : x ∈ b.ss := (ofAcc_mem (j := 0) (a := acc) (by rw [← htl]; simp)).1
      have q64 := key_in HK.out.ss hxm 2
      have r64 := rate_in HK.out.rs (key 1 x)
      have hz := eq_sum HK.out htl
      rw [sumI_snoc, show eqW b x = key 2 x * rateOf b (key 1 x) from rfl] at hz
      have hin : In192 ((ch + sumI (eqW b) pre) + key 2 x * rateOf b (key 1 x)) := (fine_of (by have := HCH.out; unfold In64' at this; omega)).in
      have HAD := Lib.hid (addMul17 w1.heap.size _ _ _ W hI.num q64 r64 hin)
      have HZ := Lib.hid (show ch + sumI (eqW b) (pre ++ [x]) = (ch + sumI (eqW b) pre) + key 2 x * rateOf b (key 1 x) by rw [sumI_snoc]; show _ + (_ + key 2 x * rateOf b (key 1 x)) = _; omega)
      have HIN := Lib.hid hI
      have HTL := Lib.hid htl
      have cp := hI.add.cell
      clear hI htl hxm q64 r64 hz hin
      generalize key 2 x = q at *
      generalize rateOf b (key 1 x) = rt at *
      gi_wp2_with (refine ⟨trivial, ?_⟩; gi_at_call 23; refine (callsIn_wide.2 HAD.out).mono ?_; rintro e w8 ⟨rfl, hn8, hg8⟩; have HT8 := Lib.hid (RSum.of HIN.out.num hg8); have HS8 := Lib.hid (HIN.out.added hn8 hg8 hw1 (by omega)); clear hn8 hg8)
      exact ⟨HT8.out, ⟨s, HTL.out⟩, by rw [HZ.out]; exact HS8.out⟩
    case done =>
      rintro D xs W hD hf ⟨_, hI⟩ hK
      rw [hf, ← HEQ.out] at hI
      have HTO := Lib.hid (total18 w1.heap.size _ W hI.num)
      have HIN := Lib.hid hI
      have HKD := Lib.hid hK
      have HDD := Lib.hid hD
      generalize eqT b acc = z at *
      clear hI hf hK hD
      gi_wp2_with (refine ⟨trivial, ?_⟩; gi_at_call 25; refine (callsIn_wide.2 HTO.out).mono ?_; rintro e w9 ⟨rfl, hw9⟩; subst hw9)
      refine ⟨by simp, .inl ⟨_, _, rfl, run_takeDeferred HKD.out, ?_⟩⟩
      exact ⟨_, results_tmp2 (t := 4) (u := 5) rfl _ _ _, HFE.out, HIN.out.lo.trans (((TurnsK.refl (fun k o => k = D ∧ o.isCells = false) W).putObj HKD.out ⟨rfl, rfl⟩ _).lo HIN.out.lo.size (fun k o hk h => by have := h.1; have := HDD.out; have := hw6.size; omega))⟩
    case stop =>
      rintro D c pre W hD h hK
      exact h.elim
end Go.Proofs.Ytmndkbfjmamnfaa
