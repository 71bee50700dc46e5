/- The program's Get: the numbers of the runs that its iterator reads. -/
import Derived.Test.YtjbhgifdpdnppaaClP6
import Derived.Test.YtjbhgifdpdnppaaClP4
namespace Go.Proofs.Ytjbhgifdpdnppaa
open Go.RowKit Go.Shelf Base Base2
attribute [local go_sem] Oper.semAt_some

/-- Where how many can't be told nothing is read. -/
theorem run35_no (m : Nat) (hm1 : 1 ≤ m) (lo p C bR bL : Nat) (S cur : ByteArray) (e : Int) (he : e ≠ 0) (RES : List Int × Nat × Int) (hRES : RES = ([], 0, e)) (J Jx : List RunT → World → Prop)
    (hJ : Bears (TwoT p C) J) (W : World) (hI : ItS p C bR bL cur e 0 W) (h0 : J [] W) :
    CallsIn Fence.wide m Try.prog 35 #[.func (.yield lo) #[] #[], .pointer (some ⟨bL, 0, none⟩), .pointer (some ⟨bR, 0, none⟩)] W fun e W' => (∃ v, e = .returned v) ∧
      ((∃ ys, FinI p S RES ys W' ∧ J ys W') ∨ (∃ pre, True ∧ Jx pre W')) := by
  have HL0 := Lib.hid (less38 C 0 0 W hI.ck (Nat.zero_le _) (by omega))
  have HJ1 := Lib.hid (hJ _ _ _ h0 ((Turns.refl (TwoT p C) W).setCell (p := ⟨C, 0, none⟩) (.inr rfl) (.int .u64 ((0 : Nat) : Int))))
  have HF1 := Lib.hid (show FinI p S RES [] (W.setCell ⟨C, 0, none⟩ (.int .u64 ((0 : Nat) : Int))) from .inr ⟨e, cur, he, (hI.less 0).rd, hRES⟩)
  have c1 := hI.bl.cell
  rw [Nat.sub_zero] at HL0
  unfold lessV at c1
  rw [show ((0 : Nat) : Int) = 0 from rfl] at HL0 HJ1 HF1
  clear hJ h0 hI hRES he
  refine callsIn_of_wp Try.func35 rfl trivial ?_ rfl
  simp only [Try.ntmps35, List.size_toArray, List.length_cons, List.length_nil, Nat.reduceAdd, Nat.reduceSub, Array.replicate_succ, Array.replicate_zero, List.push_toArray, List.append_toArray, List.nil_append, List.cons_append]
  gi_wp2_with (refine ⟨trivial, ?_⟩; gi_at_call 38; refine (callsIn_wide.2 HL0.out).mono ?_; rintro e w1 ⟨rfl, rfl⟩)
  gi_loopw [6] (fun vl W' => vl = .int .u64 0 ∧ W' = W.setCell ⟨C, 0, none⟩ (.int .u64 0)) (fun _ _ => 0)
  case atStart => exact ⟨rfl, rfl⟩
  case round =>
    obtain ⟨rfl, hw⟩ := hrel
    subst hw
    gi_wp2
    go_end0
    exact ⟨⟨_, rfl⟩, .inl ⟨[], HF1.out, HJ1.out⟩⟩

/-- The iterator, whatever was told of how many. -/
theorem written_seq (m : Nat) (hm1 : 1 ≤ m) (p C bR bL : Nat) (S cur : ByteArray) (e : Int) (hs : S.size ≤ 1000000) (n : Nat) (hn : n ≤ 65536) (RES : List Int × Nat × Int) (hRES : (e = 0 ∧ ∃ j0, j0 ≤ S.size ∧ cur = S.extract j0 S.size ∧ RES = contS S.data.toList n j0 []) ∨ (e ≠ 0 ∧ n = 0 ∧ RES = ([], 0, e)))
    (w0 : World) (hI : ItS p C bR bL cur e n w0) :
    SeqT Fence.wide m Try.prog 35 #[.pointer (some ⟨bL, 0, none⟩), .pointer (some ⟨bR, 0, none⟩)] encT (TwoT p C) (KpI p C bR bL) (TlR n) (FinI p S RES) (fun _ _ => True) w0 := fun lo J Jx W hW hJ _ hY h0 => by
  have hI2 : ItS p C bR bL cur e n W := hI.same (hW.block p hI.rd.lt) (hW.block C hI.ck.lt) (hW.block bR hI.br.lt) (hW.block bL hI.bl.lt)
  rcases hRES with ⟨rfl, j0, hj0, rfl, hr⟩ | ⟨he, rfl, hr⟩
  · exact run35 m hm1 lo p C bR bL S hs n j0 hn hj0 RES hr J Jx hJ hY W hI2 h0
  · exact run35_no m hm1 lo p C bR bL S cur e he RES hr J Jx hJ W hI2 h0
theorem kpI_t {p C bR bL : Nat} {A B D : World} (h : KpI p C bR bL A B) (k : KpI p C bR bL B D) : KpI p C bR bL A D := ⟨k.1.trans h.1, k.2.1.trans h.2.1, k.2.2.1.trans h.2.2.1, k.2.2.2.trans h.2.2.2⟩
theorem kpI_b {p C bR bL s : Nat} (h1 : p < s) (h2 : C < s) (h3 : bR < s) (h4 : bL < s) (W : World) (l : Nat) (o : Obj) (hl : s < l) : KpI p C bR bL W (W.putObj l o) :=
  ⟨World.putObj_heap_other (by omega), World.putObj_heap_other (by omega), World.putObj_heap_other (by omega), World.putObj_heap_other (by omega)⟩
theorem finI_own (p : Nat) (S : ByteArray) (RES : List Int × Nat × Int) (B : Nat) : OwnFrom B (FinI p S RES) := by
  rintro xs X Y row (⟨P, h1, h2, h3⟩ | ⟨e, cur, h1, h2, h3⟩) hg hr
  · exact .inl ⟨P, h1, (grownBy_keeps_cells hg (fun r e => (hr r e).2) h2 rfl).trans h2, h3⟩
  · exact .inr ⟨e, cur, h1, (grownBy_keeps_cells hg (fun r e => (hr r e).2) h2 rfl).trans h2, h3⟩

/-- Two boxes and what lies from B on may turn, if it is cells; all else lies as it lay. -/
structure KeepL (B bl bn : Nat) (W W' : World) : Prop where
  size : W.heap.size ≤ W'.heap.size
  low : ∀ k, k < B → k ≠ bl → k ≠ bn → W'.heap[k]? = W.heap[k]?
  oth : ∀ (k : Nat) (o : Obj), W.heap[k]? = some o → o.isCells = false → W'.heap[k]? = some o
theorem KeepL.refl (B bl bn : Nat) (W : World) : KeepL B bl bn W W := ⟨Nat.le_refl _, fun _ _ _ _ => rfl, fun _ _ h _ => h⟩
theorem KeepL.trans {B bl bn : Nat} {A D E : World} (h : KeepL B bl bn A D) (k : KeepL B bl bn D E) : KeepL B bl bn A E := ⟨Nat.le_trans h.size k.size, fun i h1 h2 h3 => (k.low i h1 h2 h3).trans (h.low i h1 h2 h3), fun i o h1 h2 => k.oth i o (h.oth i o h1 h2) h2⟩
theorem KeepL.grown {B bl bn : Nat} {W W' : World} {row : Option Nat} (hB : B ≤ W.heap.size) (h : W.grownBy W' row) (hr : ∀ j, row = some j → (∃ o, W.heap[j]? = some o ∧ o.isCells = true) ∧ (j = bl ∨ j = bn ∨ B ≤ j)) : KeepL B bl bn W W' :=
  ⟨h.size, fun k h1 h2 h3 => h.block k (by omega) (fun e => by have := (hr k e.symm).2; omega), fun k o h1 h2 => (h.block k (lt_of_blk h1) (fun e => by obtain ⟨o', h3, h4⟩ := (hr k e.symm).1; rw [h1] at h3; cases h3; rw [h2] at h4; cases h4)).trans h1⟩
theorem KeepL.from {B bl bn : Nat} {W W' : World} (h : KeepL B bl bn W W') (D : Nat) : KeepsFrom D W W' := ⟨h.size, fun k o _ h1 h2 => h.oth k o h1 h2⟩
/-- The numbers so far: the box of their row, the row, the last number's box. -/
structure GetI (w : World) (B bl bn : Nat) (L : List Int) (v : Value) (x : Int) (W : World) : Prop where
  box : Boxed W bl 22 v
  row : W.ownsRow B 2 1 v L.length (L.map (Value.int .i64))
  num : Boxed W bn 2 (.int .i64 x)
  lo : Below w.heap.size w W
  sz : B ≤ W.heap.size
theorem GetI.step {w : World} {B bl bn : Nat} {L : List Int} {v : Value} {x : Int} {W : World} (h : GetI w B bl bn L v x W) (hn : bn < B) (hw : w.heap.size ≤ bn) (z : Int) : GetI w B bl bn L v z (W.setCell ⟨bn, 0, none⟩ (.int .i64 z)) ∧ KeepL B bl bn W (W.setCell ⟨bn, 0, none⟩ (.int .i64 z)) :=
  have hg := grownBy_setCell' W bn (.int .i64 z)
  ⟨⟨h.box.kept hg (fun e => blk_ne h.num h.box (by decide) (Option.some.inj e)), ownsRow_setCell_below h.row (a := ⟨bn, 0, none⟩) hn _, h.num.set _, h.lo.setCell (p := ⟨bn, 0, none⟩) hw _, Nat.le_trans h.sz hg.size⟩,
    KeepL.grown h.sz hg (fun j e => by cases e; exact ⟨⟨_, h.num, rfl⟩, .inr (.inl rfl)⟩)⟩
theorem GetI.app {w : World} {B bl bn : Nat} {L : List Int} {v v' : Value} {x : Int} {W W2 : World} {cs : Array Value} {t : TypeId} (h : GetI w B bl bn L v x W) (hn : bn < B) (hw : w.heap.size ≤ bl) (hwB : w.heap.size ≤ B)
    (hr : W2.ownsRow B 2 1 v' (L.length + 1) (L.map (Value.int .i64) ++ [.int .i64 x])) (hg : (W.alloc (.cells cs t)).grownBy W2 v.ownBlock) :
    Boxed W2 bl 22 v ∧ GetI w B bl bn (L ++ [x]) v' x (W2.setCell ⟨bl, 0, none⟩ v') ∧ KeepL B bl bn W (W2.setCell ⟨bl, 0, none⟩ v') := by
  have hne : some bn ≠ v.ownBlock := by
    rcases h.row.2 with ⟨rfl, _⟩ | ⟨g, cap, cur, rfl, hb, _⟩
    · simp [Value.ownBlock]
    · intro e; simp [Value.ownBlock] at e; omega
  have b2 : Boxed W2 bl 22 v := (h.box.alloc _).kept hg (h.box.not_row (by decide) h.row)
  have n2 : Boxed W2 bn 2 (.int .i64 x) := (h.num.alloc _).kept hg hne
  have hg2 := grownBy_setCell' W2 bl v'
  have hs2 : W.heap.size ≤ W2.heap.size := (World_grown_alloc hg).size
  have hB := h.sz
  have l2 : Below w.heap.size w W2 := by
    refine h.lo.grown (World_grown_alloc hg) h.lo.size (fun k e => ?_)
    have := own_block_ge h.row k e
    omega
  refine ⟨b2, ⟨b2.set v', ?_, n2.kept hg2 (fun e => blk_ne b2 n2 (by decide) (Option.some.inj e)), l2.setCell (p := ⟨bl, 0, none⟩) hw _, Nat.le_trans (Nat.le_trans hB hs2) hg2.size⟩, ?_⟩
  · rw [List.length_append, List.length_singleton, List.map_append]
    exact hr.kept hg2 (.inr (Ne.symm (b2.not_row (by decide) hr)))
  · refine ((KeepL.grown hB (World_grown_alloc hg) fun j e => ?_)).trans (KeepL.grown (by omega) hg2 (fun j e => by cases e; exact ⟨⟨_, b2, rfl⟩, .inl rfl⟩))
    refine ⟨?_, .inr (.inr (own_block_ge h.row j e))⟩
    rcases h.row.2 with ⟨rfl, _⟩ | ⟨g, cap, cur, rfl, _, hgb, _⟩
    · simp [Value.ownBlock] at e
    · obtain rfl : g = j := by simpa [Value.ownBlock] using e
      exact ⟨_, hgb, rfl⟩
theorem GetI.turn {w : World} {B bl bn : Nat} {L : List Int} {v : Value} {x : Int} {W W' : World} {T : Nat → Prop} (h : GetI w B bl bn L v x W) (ht : Turns T W W') (h1 : ¬ T bl) (h2 : ¬ T bn) (h3 : ∀ k, T k → k < B) (h4 : ∀ k, T k → w.heap.size ≤ k) : GetI w B bl bn L v x W' := by
  refine ⟨ht.at h.box h1, ?_, ht.at h.num h2, ?_, Nat.le_trans h.sz ht.size⟩
  · obtain ⟨e, h0⟩ := h.row
    refine ⟨e, ?_⟩
    rcases h0 with h0 | ⟨g, cap, cur, rfl, a1, a2, a3⟩
    · exact .inl h0
    · exact .inr ⟨g, cap, cur, rfl, a1, ht.at a2 (fun a => by have := h3 g a; omega), a3⟩
  · exact ⟨ht.os.trans h.lo.os, ht.tape.trans h.lo.tape, ht.output.trans h.lo.output, Nat.le_trans h.lo.size ht.size, fun k hk => (ht.block k (Nat.lt_of_lt_of_le hk h.lo.size) (fun a => by have := h4 k a; omega)).trans (h.lo.block k hk)⟩
theorem getI_own (w : World) (B bl bn S : Nat) (f : List RunT → List Int) (hS : w.heap.size ≤ S) : OwnFrom S (fun pre W => ∃ v, GetI w B bl bn (f pre) v ((f pre).getLastD 0) W) := by
  rintro pre X Y row ⟨v, h⟩ hg hr
  have hr' : ∀ r, row = some r → ∃ o : Obj, X.heap[r]? = some o ∧ o.isCells = false := fun r e => (hr r e).2
  exact ⟨v, (grownBy_keeps_cells hg hr' h.box rfl).trans h.box, own_kept h.row hg hr', (grownBy_keeps_cells hg hr' h.num rfl).trans h.num, h.lo.grown hg h.lo.size (fun k e => Nat.le_trans hS (hr k e).1), Nat.le_trans h.sz hg.size⟩
end Go.Proofs.Ytjbhgifdpdnppaa
