/- An account's cash, stakes and orders, as the program tells them: the contracts. -/
import Derived.Test.YtmndkbfjmamnfaaMgRef2
import Derived.Test.YtmndkbfjmamnfaaBkQ4
import Derived.Test.YtmndkbfjmamnfaaKRange
namespace Go.Proofs.Ytmndkbfjmamnfaa
open Go.RowKit Go.Shelf Base Base2

attribute [local go_sem] Oper.semAt_some
theorem loadEIn {F : Fence} {n : Nat} {P : Program} {ops : Array Oper} {rest : List Oper} {o : Oper} {a : Act} {w : World} {Q : Exit → Act → World → Prop} (hw : Region.wanted o (yielded ops a.tmps) = true) (hab : ∀ f, o.about P w a.eval = some f → F.fn f) (ty : TypeId) (x : Operand) (ho : o.op = .load ty x) (p v : Value) (hx : a.eval x = p) (hl : (Instr.loadAt ty p).run P w = .ok v w) (h : wpListIn F n P ops Q rest (a.put o.dst v) w) : wpListIn F n P ops Q (o :: rest) a w := by
  rw [wpListIn, if_pos hw]
  unfold Oper.wpIn
  refine ⟨hab, ?_⟩
  rw [Oper.semAt_eq _ _ _ (fun c e => by rw [ho] at e; cases e)]
  unfold execOp
  simp only [ho, hx, Sem.run_bind, Sem.run_pure, hl, Result.andThen_ok]
  exact h
theorem atLoadIn {F : Fence} {n : Nat} {P : Program} {ops : Array Oper} {rest : List Oper} {o : Oper} {a : Act} {w : World} {Q : Exit → Act → World → Prop} {ty : TypeId} {x : Operand} (_ : o.op = .load ty x) (h : wpListIn F n P ops Q (o :: rest) a w) : wpListIn F n P ops Q (o :: rest) a w := h
/-- What turns no cells of these kinds. -/
def NoT (ts : List TypeId) (T : Nat → Obj → Prop) : Prop := ∀ k cs t fz, T k (.cells cs t fz) → t ∉ ts
theorem NoT.sub {ts us : List TypeId} {T : Nat → Obj → Prop} (h : NoT ts T) (hs : ∀ t ∈ us, t ∈ ts) : NoT us T := fun k cs t fz a b => h k cs t fz a (hs t b)
theorem NoT.at {ts : List TypeId} {T : Nat → Obj → Prop} (h : NoT ts T) {W W' : World} (ht : TurnsK T W W') {k : Nat} {cs : Array Value} {t : TypeId} {fz : Nat × Nat} (hk : W.heap[k]? = some (.cells cs t fz)) (hm : t ∈ ts) : W'.heap[k]? = some (.cells cs t fz) := ht.block _ _ hk (fun a => h k cs t fz a hm)
theorem NoT.tlr {ts : List TypeId} {R : Nat → Obj → Prop} (h : NoT ts R) (l : Nat) : NoT ts (TLR l R) := fun k cs t fz a => by
  rcases a with ⟨_, a⟩ | a
  · cases a
  · exact h k cs t fz a
theorem NoT.false (ts : List TypeId) : NoT ts (fun _ _ => False) := fun _ _ _ _ a => a.elim
theorem not_cells {ts : List TypeId} {T : Nat → Obj → Prop} (h : ∀ k o, T k o → o.isCells = false) : NoT ts T := fun k cs t fz a => by have := h _ _ a; cases this
theorem boxed_turn {W W' : World} {b : Nat} {t : TypeId} {v : Value} {T : Nat → Obj → Prop} (h : Boxed W b t v) (hT : NoT [t] T) (ht : TurnsK T W W') : Boxed W' b t v := hT.at ht h (by simp)
theorem lo_round {V W W' : World} {l : Nat} {R : Nat → Obj → Prop} (hV : Below V.heap.size V W) (hl : V.heap.size ≤ l) (hR : ∀ k o, R k o → V.heap.size ≤ k) (h : TurnsK (TLR l R) W W') : Below V.heap.size V W' :=
  hV.trans (h.lo hV.size (fun k o hk a => by rcases a with ⟨a, _⟩ | a; omega; have := hR k o a; omega))
/-- What is told of each thing that is handed over: it goes on as the list does. -/
def TlA (FULL pre : List Item) (x : Item) (_ : World) : Prop := ∃ s, pre ++ [x] ++ s = FULL
def encS (b : BookT) (x : Item) : Array Value := #[.int .i64 (key 2 x), .int .i64 (rateOf b (key 1 x))]
def encZ (b : BookT) (x : Item) : Array Value := #[.int .i64 (key 2 x), .int .i64 (atW b x)]
def encO (x : Item) : Array Value := #[aggI x]
def YieldA (enc : Item → Array Value) (l : Nat) (R : Nat → Obj → Prop) (FULL : List Item) (J Jx : List Item → World → Prop) : Prop :=
  ∀ pre x W, J pre W → TlA FULL pre x W → YieldAt Fence.wide 0 Try.prog l (enc x) W fun e W' =>
    ((e = .returned (.bool true) ∧ J (pre ++ [x]) W') ∨ (e = .returned (.bool false) ∧ Jx (pre ++ [x]) W')) ∧ TurnsK (TLR l R) W W'
theorem tla_yes {j : Nat} {a : Int} {l : List Item} {i : Nat} {x : Item} (W : World) (hx : l[i]? = some x) (e : (key j x == a) = true) : TlA (ofAcc j a l) (ofAcc j a (l.take i)) x W := by
  obtain ⟨s, hs⟩ := ofAcc_pre (j := j) (a := a) l (i + 1)
  rw [ofAcc_yes hx e] at hs
  exact ⟨s, hs⟩
set_option maxRecDepth 100000 in
set_option maxHeartbeats 8000000 in
theorem pcash22 (v : Slots) (b : BookT) (acc : Int) (w : World) (hb : BookIn w v b) (hk : ItemsOk 4 2000 b.hs) (hr : riseL lt1 b.hs = true) :
    Calls Try.prog 22 #[.agg (cellsB v b), .int .i64 acc] w fun e w' => e = .returned (.int .i64 (cashOf b acc)) ∧ Below w.heap.size w w' := by
  obtain ⟨W0, hW0⟩ : ∃ x, w.alloc (.cells (cellsB v b) 27) = x := ⟨_, rfl⟩
  have hA : Below w.heap.size w W0 := by rw [← hW0]; exact (Below.refl _ w).alloc (Nat.le_refl _) _
  have hg : BoxB W0 w.heap.size v b := by rw [← hW0]; exact BoxB.new w v b
  obtain ⟨p, r, s, hv⟩ := cash_form hk acc
  have HH := Lib.hid (progHolder v b acc W0 (hb.below hA) hk hr)
  rw [hv] at HH
  have HA := Lib.hid hA
  have HLB := Lib.hid (load_book hg)
  clear hv hb hk hr hA hg
  generalize cellsB v b = CA at *
  generalize cashOf b acc = ch at *
  generalize (findL (is1 acc) b.hs).isSome = ok at *
  go_enter Try.func22, Try.ntmps22
  go_wp2_with (first
    | ((with_reducible refine atLoad (ty := 27) (x := .tmp 2) rfl ?_); refine loadE (wanted_noneD rfl) 27 (.tmp 2) rfl _ (.agg CA) rfl HLB.out ?_)
    | (go_at_call 46; refine HH.out.mono ?_; rintro e w1 ⟨rfl, hb1⟩; have HB1 := Lib.hid hb1; clear hb1))
  go_ret
  exact ⟨rfl, HA.out.trans ((HB1.out.trans ((Below.refl _ w1).alloc (Nat.le_refl _) _ |>.mono HB1.out.size)).mono HA.out.size)⟩
theorem stakes24 (v : Slots) (b : BookT) (acc : Int) (w : World) : Calls Try.prog 24 #[.agg (cellsB v b), .int .i64 acc] w fun e w' => e = .returned (.func (.func 49) #[] #[.pointer (some ⟨w.heap.size, 0, none⟩), .pointer (some ⟨w.heap.size + 1, 0, none⟩)]) ∧ w' = (w.alloc (.cells (cellsB v b) 27)).alloc (.cells #[.int .i64 acc] 2) := by
  generalize cellsB v b = CA
  go_enter Try.func24, Try.ntmps24
  go_wp2
  go_ret
  exact ⟨rfl, rfl⟩
theorem sizes26 (v : Slots) (b : BookT) (acc : Int) (w : World) : Calls Try.prog 26 #[.agg (cellsB v b), .int .i64 acc] w fun e w' => e = .returned (.func (.func 52) #[] #[.pointer (some ⟨w.heap.size, 0, none⟩), .pointer (some ⟨w.heap.size + 1, 0, none⟩)]) ∧ w' = (w.alloc (.cells (cellsB v b) 27)).alloc (.cells #[.int .i64 acc] 2) := by
  generalize cellsB v b = CA
  go_enter Try.func26, Try.ntmps26
  go_wp2
  go_ret
  exact ⟨rfl, rfl⟩
theorem orders27 (v : Slots) (b : BookT) (acc : Int) (w : World) : Calls Try.prog 27 #[.agg (cellsB v b), .int .i64 acc] w fun e w' => e = .returned (.func (.func 53) #[] #[.pointer (some ⟨w.heap.size, 0, none⟩), .pointer (some ⟨w.heap.size + 1, 0, none⟩)]) ∧ w' = (w.alloc (.cells (cellsB v b) 27)).alloc (.cells #[.int .i64 acc] 2) := by
  generalize cellsB v b = CA
  go_enter Try.func27, Try.ntmps27
  go_wp2
  go_ret
  exact ⟨rfl, rfl⟩
set_option maxRecDepth 100000 in
set_option maxHeartbeats 8000000 in
theorem stakes_seq (R : Nat → Obj → Prop) (V : World) (v : Slots) (b : BookT) (hb : BookIn V v b) (hk : BookOk 2000 b) (hrs : riseL lt1 b.rs = true) (acc : Int) (g g2 : Nat) (w0 : World) (hV : Below V.heap.size V w0) (hg : BoxB w0 g v b) (ha : Boxed w0 g2 2 (.int .i64 acc)) (hR1 : ∀ k o, R k o → V.heap.size ≤ k) (hR2 : NoT [27, 2] R) :
    SeqK Try.prog 49 #[.pointer (some ⟨g, 0, none⟩), .pointer (some ⟨g2, 0, none⟩)] (encS b) (fun _ => False) R (TlA (ofAcc 0 acc b.ss)) (fun xs => xs = ofAcc 0 acc b.ss) w0 := by
  intro l J Jx W hW hl _ hJ hJx hY h0
  have HJJ := Lib.hid (show BearsK (fun _ _ => False) J from hJ.mono (fun _ _ a => a.elim))
  have HYY := Lib.hid (show YieldA (encS b) l R (ofAcc 0 acc b.ss) J Jx from hY)
  have HK := Lib.hid hk
  have HVW := Lib.hid (hV.trans (hW.mono hV.size))
  have HL := Lib.hid (Nat.le_trans hV.size hl)
  have HR1 := Lib.hid hR1
  have hgl := blk_ltK hg
  have HG := Lib.hid (fun (W' : World) (ht : TurnsK (TLR l R) W W') => show BoxB W' g v b from (hR2.tlr l).at ht ((hW.block g hgl).trans hg) (by simp))
  have HA := Lib.hid (fun (W' : World) (ht : TurnsK (TLR l R) W W') => show Boxed W' g2 2 (.int .i64 acc) from (hR2.tlr l).at ht ((hW.block g2 ha.lt).trans ha) (by simp))
  have HLO := Lib.hid (fun (W' : World) (ht : TurnsK (TLR l R) W W') => show Below V.heap.size V W' from lo_round HVW.out HL.out hR1 ht)
  have HROW := Lib.hid hb.ss
  have HBK := Lib.hid hb
  have HT0 := Lib.hid (TurnsK.refl (TLR l R) W)
  have HJ0 := Lib.hid h0
  obtain ⟨n, hn⟩ : ∃ n, b.ss.length = n := ⟨_, rfl⟩
  have HN := Lib.hid hn
  have hle : n ≤ 2000 := by rw [← hn]; exact hk.ss.1
  clear hJ hJx hY h0 hb hk hW hV hl hR1 hR2 hg ha hgl
  refine (callsIn_wide (n := 10)).1 ?_
  refine callsIn_of_wp Try.func49 rfl trivial ?_ rfl
  simp only [Try.ntmps49, List.size_toArray, List.length_cons, List.length_nil, Nat.reduceAdd, Nat.reduceSub, Array.replicate_succ, Array.replicate_zero, List.push_toArray, List.append_toArray, List.nil_append, List.cons_append]
  have HRS := Lib.hid hrs
  clear hrs
  obtain ⟨_, c1, _, _, _⟩ := (HG.out _ HT0.out).cells
  rw [hn] at c1
  clear hn
  gi_wp2
  clear c1
  gi_loopw [11] (fun vi W' => ∃ (i : Nat), vi = .int .i64 (i : Int) ∧ i ≤ n ∧ J (ofAcc 0 acc (b.ss.take i)) W' ∧ TurnsK (TLR l R) W W') (fun vi _ => n - (intOf vi).toNat)
  case atStart => exact ⟨0, rfl, Nat.zero_le _, HJ0.out, HT0.out⟩
  case round =>
    obtain ⟨i, rfl, hi, hj, ht⟩ := hrel
    have HTR := Lib.hid ht
    have HLW := Lib.hid (HLO.out _ ht)
    have HJI := Lib.hid hj
    clear ht hj HJ0
    by_cases hlt : i < n
    · obtain ⟨it, hx⟩ : ∃ x, b.ss[i]? = some x := ⟨b.ss[i]'(by rw [HN.out]; exact hlt), by simp [HN.out, hlt]⟩
      obtain ⟨s0, s1, s2, rfl⟩ := item3 (HK.out.ss.2 _ (List.mem_of_getElem? hx)).1
      obtain ⟨b0, off, hvs, hb0, hcs⟩ := HROW.out.at hx
      have k0 := hcs wr HLW.out 0 s0 rfl
      have k1 := hcs wr HLW.out 1 s1 rfl
      have k2 := hcs wr HLW.out 2 s2 rfl
      rw [Nat.add_zero] at k0
      rw [hvs]
      clear hcs hb0
      obtain ⟨w4, hw4⟩ : ∃ x, wr.alloc (.cells #[.int .i64 s0, .int .i64 s1, .int .i64 s2] 43) = x := ⟨_, rfl⟩
      have hb4 : Below wr.heap.size wr w4 := by rw [← hw4]; exact (Below.refl _ _).alloc (Nat.le_refl _) _
      have hz4 : w4.heap[wr.heap.size]? = some (.cells #[.int .i64 s0, .int .i64 s1, .int .i64 s2] 43 (0, 0)) := by rw [← hw4]; exact heap_alloc_new wr _
      have HT4 := Lib.hid (HTR.out.trans (.below hb4))
      have HJ4 := Lib.hid (HJJ.out.below HJI.out hb4)
      have HZ4 := Lib.hid hz4
      have ca := (HA.out _ HT4.out).cell
      rw [← hw4] at ca
      have HW4 := Lib.hid hw4
      clear hw4
      by_cases he : s0 = acc
      · have g3 : (s0 != acc) = false := by simp [he]
        have g4 : (s0 == acc) = true := by rw [beq_iff_eq]; exact he
        have HNX := Lib.hid (ofAcc_yes (j := 0) (a := acc) hx (show (key 0 [s0, s1, s2] == acc) = true from g4))
        have HTA := Lib.hid (fun W => tla_yes (j := 0) (a := acc) W hx (show (key 0 [s0, s1, s2] == acc) = true from g4))
        have HLB := Lib.hid (load_book (HG.out _ HT4.out))
        have HRT := Lib.hid (progRate v b s1 w4 (HBK.out.below (HLO.out _ HT4.out)) HK.out.rs HRS.out)
        rw [show valR (findL (is1 s1) b.rs) = rateOf b s1 from rfl] at HRT
        clear he hx g4
        generalize hCA : cellsB v b = CA at *
        clear hCA
        generalize (findL (is1 s1) b.rs).isSome = ok at *
        clear hb4 hz4 hvs
        gi_wp2_with (first
          | ((with_reducible refine atLoadIn (ty := 27) (x := .tmp 1) rfl ?_); rw [HW4.out]; refine loadEIn (wanted_noneD rfl) (fun _ _ => trivial) 27 (.tmp 1) rfl _ (.agg CA) rfl HLB.out ?_; have q1 : w4.cell? ⟨wr.heap.size, 1, none⟩ = some (.int .i64 s1) := (by rw [cell_of_row _ _ _ _ _ _ HZ4.out]; rfl))
          | (refine ⟨trivial, ?_⟩; gi_at_call 50; refine (callsIn_wide.2 HRT.out).mono ?_; rintro e w5 ⟨rfl, hb5⟩; have HT5 := Lib.hid (HT4.out.trans (.below hb5)); have HJ5 := Lib.hid (HJJ.out.below HJ4.out hb5); have q2 : w5.cell? ⟨wr.heap.size, 2, none⟩ = some (.int .i64 s2) := (by rw [cell_of_row _ _ _ _ _ _ ((hb5.block _ (blk_ltK HZ4.out)).trans HZ4.out)]; rfl); obtain ⟨fn, tmps, assign, body, hy, hRd⟩ := HYY.out _ [s0, s1, s2] _ HJ5.out (HTA.out w5); replace hy : (Instr.yield l #[.int .i64 s2, .int .i64 (rateOf b s1)]).run Try.prog w5 = .ok (.round l fn tmps assign body) w5 := hy; clear hb5))
        refine (roundIn_wide hRd).mono ?_
        rintro e W6 ⟨⟨rfl, hJ6⟩ | ⟨rfl, hJx6⟩, ht6⟩
        · have HT6 := Lib.hid (HT5.out.trans ht6)
          have HJ6 := Lib.hid hJ6
          clear hJ6 ht6 hy hRd q2 q1 k0 k1 k2 ca
          gi_wp2
          go_roundw
          case rel => exact ⟨i + 1, by go_num, hlt, by rw [HNX.out]; exact HJ6.out, HT6.out⟩
          case measure => simp [intOf]; omega
        · have HJ6 := Lib.hid hJx6
          clear hJx6 ht6 hy hRd q2 q1 k0 k1 k2 ca
          gi_wp2
          (try simp only [Exit.inBlock, Exit.then])
          refine bodyPost_ret (v := .tuple #[]) (results_none rfl _ _ _) rfl ?_
          exact ⟨⟨_, rfl⟩, .inr ⟨_, HJ6.out⟩⟩
      · have g3 : (s0 != acc) = true := by simp [he]
        have g4 : (s0 == acc) = false := by rw [beq_eq_false_iff_ne]; exact he
        have HNX := Lib.hid (ofAcc_no (j := 0) (a := acc) hx (show (key 0 [s0, s1, s2] == acc) = false from g4))
        clear he hx g4 hb4 hz4 hvs
        gi_wp2
        rw [HW4.out]
        go_roundw
        case rel => exact ⟨i + 1, by go_num, hlt, by rw [HNX.out]; exact HJ4.out, HT4.out⟩
        case measure => simp [intOf]; omega
    · rw [List.take_of_length_le (by rw [HN.out]; omega)] at HJI
      gi_wp2
      go_end0
      exact ⟨⟨_, rfl⟩, .inl ⟨_, rfl, HJI.out⟩⟩
end Go.Proofs.Ytmndkbfjmamnfaa
