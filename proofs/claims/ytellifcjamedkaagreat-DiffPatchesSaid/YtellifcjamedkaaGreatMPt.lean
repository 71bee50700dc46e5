/- What the walk of Patch wants: stores, results, what its rounds turn. Patch: the program's contract. -/
import Derived.Test.YtellifcjamedkaaGreatDpLay
import Derived.Test.YtellifcjamedkaaGreatMMa
import Derived.Test.YtellifcjamedkaaGreatMRe
import Derived.Test.YtellifcjamedkaaGreatMAm
import Derived.Test.YtellifcjamedkaaGreatMQm
namespace Go.Proofs.YtellifcjamedkaaGreat
open Go.RowKit Base Base2
attribute [local go_sem] Oper.semAt_some
theorem atStoreIn {F : Fence} {n : Nat} {P : Program} {ops : Array Oper} {rest : List Oper} {o : Oper} {a : Act} {w : World} {Q : Exit → Act → World → Prop} {ty : TypeId} {x y : Operand} (_ : o.op = .store ty x y) (h : wpListIn F n P ops Q (o :: rest) a w) : wpListIn F n P ops Q (o :: rest) a w := h
/-- A whole struct stored, in a fenced walk. -/
theorem storeRowIn {F : Fence} {n : Nat} {P : Program} {ops : Array Oper} {rest : List Oper} {o : Oper} {a : Act} {w : World} {Q : Exit → Act → World → Prop} (hgd : o.guard = none) (hab : ∀ f, o.about P w a.eval = some f → F.fn f) (ty : TypeId) (x y : Operand) (ho : o.op = .store ty x y)
    (g : Nat) (cells : Array Value) (hx : a.eval x = .pointer (some ⟨g, 0, none⟩)) (hy : a.eval y = .agg cells) (t : TypeId) (old : Array Value) (hg : w.heap[g]? = some (.cells old t (0, 0))) (hi : (P.info? ty).map (·.size) = some cells.size)
    (hold : old.size = cells.size) (h1 : cells.all (·.oneCell') = true) (h : wpListIn F n P ops Q rest (a.put o.dst undef) (w.setRow g cells)) : wpListIn F n P ops Q (o :: rest) a w := by
  refine wpListIn_plain hgd fun _ hK => ?_
  unfold Oper.wpIn
  refine ⟨hab, ?_⟩
  rw [Oper.semAt_eq _ _ _ (fun c e => by rw [ho] at e; cases e)]
  unfold execOp
  simp only [ho, hx, hy, Instr.storeAt, Instr.sureAddr, Sem.run_bind, Sem.run_pure, Result.andThen_ok, run_storeVar_row w g t ty old cells hg hi hold h1]
  exact hK _ _ h
theorem results_cc {fn : Func} {p u : Tmp} {ty tu : TypeId} (h : fn.results = #[.cell p ty, .cell u tu]) (tmps : Array Value) (P : Program) (w : World) :
    (results fn tmps).run P w = ((asAddr (tmps.getD p undef)).run P w).andThen fun a w1 => ((loadVar ty a).run P w1).andThen fun v w2 => ((asAddr (tmps.getD u undef)).run P w2).andThen fun a' w3 => ((loadVar tu a').run P w3).andThen fun v' w4 => .ok (.tuple #[v, v']) w4 := by
  simp only [results, h]
  simp [Sem.run_bind, Result.andThen]
theorem results_cells2 {fn : Func} {p u : Tmp} {ty tu : TypeId} (h : fn.results = #[.cell p ty, .cell u tu]) {tmps : Array Value} {P : Program} {w : World} {a b : Addr} {v v' : Value} (hx : tmps.getD p undef = .pointer (some a)) (hy : tmps.getD u undef = .pointer (some b)) (h1 : (loadVar ty a).run P w = .ok v w) (h2 : (loadVar tu b).run P w = .ok v' w) :
    (results fn tmps).run P w = .ok (.tuple #[v, v']) w := by
  rw [results_cc h, hx, hy]
  simp [asAddr, Result.andThen, h1, h2]
theorem load_err {W : World} {g : Nat} {n : Int} (h : W.heap[g]? = some (.cells #[.int .i64 n] 32 (0, 0))) : (loadVar 32 ⟨g, 0, none⟩).run Tryz.prog W = .ok (.int .i64 n) W := by
  have hc : W.cell? ⟨g, 0, none⟩ = some (.int .i64 n) := by rw [cell_of_row _ _ _ _ _ _ h]; rfl
  simp [loadVar, Sem.run_bind, Result.andThen, Tryz.isAgg32, run_load, hc]
theorem infoBk : (Tryz.prog.info? 27).map (·.size) = some 5 := by kernel_rfl
theorem load_bk {W : World} {g : Nat} {cs : Array Value} (h : W.heap[g]? = some (.cells cs 27 (0, 0))) (hs : cs.size = 5) : (loadVar 27 ⟨g, 0, none⟩).run Tryz.prog W = .ok (.agg cs) W :=
  run_loadVar_row W g 27 27 cs (0, 0) _ h Tryz.underlying27 rfl (by rw [hs]; exact infoBk)
theorem besideFC (x y : Value) (a : Option Addr) (n c gf : Nat) (lb : Array Value) (w : World) (hx : x = .func (.func gf) #[] lb) (hy : y = .slice a n c) : Calls Tryz.prog 20 #[x, y] w fun e w' => e = .returned (.func (.func 45) #[] #[.pointer (some ⟨w.heap.size + 1, 0, none⟩), .pointer (some ⟨w.heap.size, 0, none⟩)]) ∧ w' = (w.alloc (.cells #[x] 61)).alloc (.cells #[y] 35) := by
  subst hx hy
  go_enter Tryz.func20, Tryz.ntmps20
  go_wp2
  go_ret
  exact ⟨rfl, rfl⟩
theorem BkS.turn [LowB] {B gb : Nat} {W W' : World} {v : Slots} {b : BookT} {S : Nat → Obj → Prop} (h : BkS B gb W v b) (hT : NoT [27, 71, 73, 76, 50] S) (ht : TurnsK S W W') : BkS B gb W' v b :=
  ⟨hT.at ht h.box (by simp), own_turn h.h (hT.sub (by simp)) ht, own_turn h.s (hT.sub (by simp)) ht, own_turn h.o (hT.sub (by simp)) ht, own_turn h.r (hT.sub (by simp)) ht, h.lo, h.hl⟩
/-- What Patch's rounds turn: the book's box, the answer's, the error's, rows of things. -/
def RPat (B gb r4 r5 : Nat) (k : Nat) (o : Obj) : Prop := B ≤ k ∧ ((∃ cs fz, o = .cells cs 27 fz ∧ (fz = (0, 0) → k = gb ∨ k = r4)) ∨ (k = r5 ∧ ∃ cs, o = .cells cs 32 (0, 0)) ∨ (∃ cs t fz, o = .cells cs t fz ∧ (t = 71 ∨ t = 73 ∨ t = 76 ∨ t = 50)))
theorem RPat.cells {B gb r4 r5 k : Nat} {o : Obj} (h : RPat B gb r4 r5 k o) : o.isCells = true := by
  rcases h.2 with ⟨cs, fz, rfl, _⟩ | ⟨_, cs, rfl⟩ | ⟨cs, t, fz, rfl, _⟩ <;> rfl
theorem RPat.types {B gb r4 r5 k : Nat} {cs : Array Value} {t : TypeId} {fz : Nat × Nat} (h : RPat B gb r4 r5 k (.cells cs t fz)) : t = 27 ∨ t = 32 ∨ t = 71 ∨ t = 73 ∨ t = 76 ∨ t = 50 := by
  rcases h.2 with ⟨cs', fz', e, _⟩ | ⟨_, cs', e⟩ | ⟨cs', t', fz', e, ht⟩
  · cases e; exact .inl rfl
  · cases e; exact .inr (.inl rfl)
  · cases e; exact .inr (.inr ht)
theorem RPat.no (B gb r4 r5 : Nat) : NoT [59, 58, 2, 91, 51, 35] (RPat B gb r4 r5) := fun k cs t fz h => by
  rcases h.types with rfl | rfl | rfl | rfl | rfl | rfl <;> decide
theorem RPat.book {B gb r4 r5 g : Nat} {cs : Array Value} (h1 : g ≠ gb) (h2 : g ≠ r4) : ¬ RPat B gb r4 r5 g (.cells cs 27 (0, 0)) := fun h => by
  rcases h.2 with ⟨cs', fz', e, h⟩ | ⟨_, cs', e⟩ | ⟨cs', t', fz', e, ht⟩
  · cases e; rcases h rfl with h | h
    · exact h1 h
    · exact h2 h
  · cases e
  · cases e; rcases ht with h | h | h | h <;> cases h
theorem lay_turns [LowB] {B gb r4 r5 : Nat} {w w' : World} (hk : KeepT w w') (hb : Below B w w') (hg : KeepG gb w w') : TurnsK (RPat B gb r4 r5) w w' :=
  ⟨hb.os, hb.tape, hb.output, hb.size, fun k o h1 hn => by
    by_cases hlt : k < B
    · exact (hb.block k hlt).trans h1
    cases hbk : isBk o with
    | false => exact hk.same k o h1 hbk
    | true =>
      cases o with
      | cells cs t fz =>
        simp only [isBk, Bool.or_eq_true, beq_iff_eq] at hbk
        have h5 : t = 27 ∨ (t = 71 ∨ t = 73 ∨ t = 76 ∨ t = 50) := by
          rcases hbk with (((h | h) | h) | h) | h
          · exact .inl h
          · exact .inr (.inl h)
          · exact .inr (.inr (.inl h))
          · exact .inr (.inr (.inr (.inl h)))
          · exact .inr (.inr (.inr (.inr h)))
        rcases h5 with rfl | h5
        · by_cases hz : fz = (0, 0)
          · subst hz
            by_cases hkg : k = gb
            · exact absurd ⟨by omega, .inl ⟨cs, _, rfl, fun _ => .inl hkg⟩⟩ hn
            · exact hg k cs h1 hkg
          · exact absurd ⟨by omega, .inl ⟨cs, fz, rfl, fun h => absurd h hz⟩⟩ hn
        · exact absurd ⟨by omega, .inr (.inr ⟨cs, t, fz, rfl, h5⟩)⟩ hn
      | _ => simp [isBk] at hbk⟩
/-- How far lists grow. -/
theorem layB_len (b : BookT) (r : RowT) : (layB b r).hs.length ≤ b.hs.length + 1 ∧ (layB b r).ss.length ≤ b.ss.length + 1 ∧ (layB b r).os.length ≤ b.os.length + 1 ∧ (layB b r).rs.length ≤ b.rs.length + 1 := by
  unfold layB
  split
  · simp
  split
  · simp
  split
  · simp
  split <;> simp
theorem fold_len : ∀ (l : List RowT) (b : BookT), (l.foldl layB b).hs.length ≤ b.hs.length + l.length ∧ (l.foldl layB b).ss.length ≤ b.ss.length + l.length ∧ (l.foldl layB b).os.length ≤ b.os.length + l.length ∧ (l.foldl layB b).rs.length ≤ b.rs.length + l.length
  | [], b => by simp
  | r :: l, b => by
    have h1 := fold_len l (layB b r)
    have h2 := layB_len b r
    rw [List.foldl_cons, List.length_cons]
    omega
theorem lay_len (p : Option RowT × Option ChT) : (layOf p).length ≤ 1 := by
  obtain ⟨x, y⟩ := p
  cases y with
  | some c =>
    show (if c.now = [] then [] else _).length ≤ 1
    split <;> simp
  | none => cases x <;> simp [layOf]
theorem layAll_len (ps : List (Option RowT × Option ChT)) : (layAll ps).hs.length ≤ ps.length ∧ (layAll ps).ss.length ≤ ps.length ∧ (layAll ps).os.length ≤ ps.length ∧ (layAll ps).rs.length ≤ ps.length := by
  have h1 := fold_len (ps.flatMap layOf) zeroD
  have h2 : ∀ qs : List (Option RowT × Option ChT), (qs.flatMap layOf).length ≤ qs.length := fun qs => by
    induction qs with
    | nil => simp
    | cons q qs ih => rw [List.flatMap_cons, List.length_append, List.length_cons]; have := lay_len q; omega
  have h3 := h2 ps
  unfold layAll
  simp only [zeroD, List.length_nil] at h1 ⊢
  omega
theorem layAll_snoc (ps : List (Option RowT × Option ChT)) (p : Option RowT × Option ChT) : layAll (ps ++ [p]) = (layOf p).foldl layB (layAll ps) := by
  unfold layAll
  rw [List.flatMap_append, List.foldl_append, List.flatMap_singleton]
end Go.Proofs.YtellifcjamedkaaGreat
namespace Go.Proofs.YtellifcjamedkaaGreat
open Go.RowKit Go.Shelf Base Base2
attribute [local go_sem] Oper.semAt_some
theorem atLoadP {P : Program} {ops : Array Oper} {rest : List Oper} {o : Oper} {a : Act} {w : World} {Q : Exit → Act → World → Prop} {ty : TypeId} {x : Operand} (_ : o.op = .load ty x) (h : wpList P ops Q (o :: rest) a w) : wpList P ops Q (o :: rest) a w := h
theorem atStoreP {P : Program} {ops : Array Oper} {rest : List Oper} {o : Oper} {a : Act} {w : World} {Q : Exit → Act → World → Prop} {ty : TypeId} {x y : Operand} (_ : o.op = .store ty x y) (h : wpList P ops Q (o :: rest) a w) : wpList P ops Q (o :: rest) a w := h
/-- Rows that lie from a block on. -/
def RowFrom (B : Nat) (a : Option Addr) (l : List Item) : Prop := l = [] ∨ ∃ b off, a = some ⟨b, off, none⟩ ∧ B ≤ b
structure BookFrom (B : Nat) (v : Slots) (b : BookT) : Prop where
  h : RowFrom B v.h b.hs
  s : RowFrom B v.s b.ss
  o : RowFrom B v.o b.os
  r : RowFrom B v.r b.rs
theorem row_from {W : World} {B k c : Nat} {T : TypeId} {a : Option Addr} {l : List Item} {xs : List Value} (h : W.ownsRow B T k (.slice a l.length c) l.length xs) : RowFrom B a l := by
  rcases h.2 with ⟨_, hn⟩ | ⟨g, cap, cur, hv, h1, _⟩
  · exact .inl (List.eq_nil_of_length_eq_zero hn)
  · obtain ⟨rfl, rfl⟩ : a = some ⟨g, 0, none⟩ ∧ c = cap := by simpa using hv
    exact .inr ⟨g, 0, rfl, h1⟩
theorem BkS.from' [LowB] {B gb : Nat} {W : World} {v : Slots} {b : BookT} (h : BkS B gb W v b) : BookFrom B v b := ⟨row_from h.h, row_from h.s, row_from h.o, row_from h.r⟩
theorem rows_farP {B k : Nat} {W W' : World} {a : Option Addr} {l : List Item} (h : RowFrom B a l) (hr : RowsOf k W a l) (hsz : W.heap.size ≤ W'.heap.size) (hs : ∀ i, B ≤ i → W'.heap[i]? = W.heap[i]?) : RowsOf k W' a l := by
  rcases hr with hr | ⟨b, off, rfl, hlt, hc⟩
  · exact .inl hr
  · rcases h with h | ⟨b', off', hab, h1⟩
    · exact .inl h
    · obtain ⟨rfl, rfl⟩ : b = b' ∧ off = off' := by simpa using hab
      exact .inr ⟨b, off, rfl, Nat.lt_of_lt_of_le hlt hsz, fun i x hi j z hz => (World.cell?_of_block (a := ⟨b, off + i * k + j, none⟩) (hs b h1)).trans (hc i x hi j z hz)⟩
theorem book_farP {B : Nat} {W W' : World} {v : Slots} {b : BookT} (h : BookFrom B v b) (hr : BookIn W v b) (hsz : W.heap.size ≤ W'.heap.size) (hs : ∀ i, B ≤ i → W'.heap[i]? = W.heap[i]?) : BookIn W' v b :=
  ⟨rows_farP h.h hr.hs hsz hs, rows_farP h.s hr.ss hsz hs, rows_farP h.o hr.os hsz hs, rows_farP h.r hr.rs hsz hs⟩
/-- What Patch answers. -/
def PatchOut (w : World) (r : BookT × Int) (e : Ending) (w' : World) : Prop := (∃ v', e = .returned (.tuple #[.agg (cellsB v' r.1), .int .i64 r.2]) ∧ BookIn w' v' r.1 ∧ BookFrom w.heap.size v' r.1) ∧ Below w.heap.size w w'
theorem zero_in (W : World) : BookIn W ⟨none, none, none, none, 0, 0, 0, 0⟩ zeroD := ⟨.inl rfl, .inl rfl, .inl rfl, .inl rfl⟩
theorem pat_zero {w W : World} {n : Int} (h : Below w.heap.size w W) : PatchOut w (zeroD, n) (.returned (.tuple #[.agg #[.slice none 0 0, .slice none 0 0, .slice none 0 0, .slice none 0 0, .int .i64 0], .int .i64 n])) W := ⟨⟨⟨none, none, none, none, 0, 0, 0, 0⟩, rfl, zero_in W, ⟨.inl rfl, .inl rfl, .inl rfl, .inl rfl⟩⟩, h⟩
/-- The answer's box and the error's, as they lie at the beginning. -/
theorem three_new {W : World} {O P S : Obj} : (((W.alloc O).alloc P).alloc S).heap[W.heap.size]? = some O ∧ (((W.alloc O).alloc P).alloc S).heap[W.heap.size + 1]? = some P ∧ (((W.alloc O).alloc P).alloc S).heap[W.heap.size + 2]? = some S := by
  have h := heap_alloc_new ((W.alloc O).alloc P) S
  rw [World.size_alloc, World.size_alloc] at h
  obtain ⟨h1, h2⟩ := two_new (W := W) (O := O) (P := P)
  exact ⟨(Below.heap_alloc _ _ _ (lt_of_blk h1)).trans h1, (Below.heap_alloc _ _ _ (lt_of_blk h2)).trans h2, h⟩
/-- The answer and the error written. -/
theorem two_set {W : World} {r4 r5 : Nat} {cs ds : Array Value} {n m : Int} (h4 : W.heap[r4]? = some (.cells cs 27 (0, 0))) (h5 : W.heap[r5]? = some (.cells #[.int .i64 n] 32 (0, 0))) (_hd : ds.size = 5) :
    (W.setRow r4 ds).cell? ⟨r5, 0, none⟩ = some (.int .i64 n) ∧ (W.setRow r4 ds).frozen? ⟨r5, 0, none⟩ = false ∧ ((W.setRow r4 ds).setCell ⟨r5, 0, none⟩ (.int .i64 m)).heap[r4]? = some (.cells ds 27 (0, 0)) ∧ ((W.setRow r4 ds).setCell ⟨r5, 0, none⟩ (.int .i64 m)).heap[r5]? = some (.cells #[.int .i64 m] 32 (0, 0)) ∧
    TurnsK (fun k o => (k = r4 ∧ ∃ cs, o = .cells cs 27 (0, 0)) ∨ (k = r5 ∧ ∃ cs, o = .cells cs 32 (0, 0))) W ((W.setRow r4 ds).setCell ⟨r5, 0, none⟩ (.int .i64 m)) := by
  have hne : r5 ≠ r4 := by rintro rfl; rw [h4] at h5; cases h5
  have e4 : (W.setRow r4 ds).heap[r4]? = some (.cells ds 27 (0, 0)) := setRow_heap _ _ _ _ _ _ h4
  have e5 : (W.setRow r4 ds).heap[r5]? = some (.cells #[.int .i64 n] 32 (0, 0)) := (setRow_ne _ hne).trans h5
  refine ⟨by rw [cell_of_row _ _ _ _ _ _ e5]; rfl, free_of_blkN e5 0, (Below.heap_setCell _ _ _ _ (Ne.symm hne)).trans e4, set_blkN e5 0 _, ?_⟩
  exact ((TurnsK.refl _ W).setRow h4 (.inl ⟨rfl, _, rfl⟩) _).setCell e5 (.inr ⟨rfl, _, rfl⟩) _
theorem two_lo {B r4 r5 : Nat} {W W' : World} (h4 : B ≤ r4) (h5 : B ≤ r5) (hB : B ≤ W.heap.size) (h : TurnsK (fun k o => (k = r4 ∧ ∃ cs, o = .cells cs 27 (0, 0)) ∨ (k = r5 ∧ ∃ cs, o = .cells cs 32 (0, 0))) W W') : Below B W W' :=
  h.lo hB (fun k o hk a => by rcases a with ⟨rfl, _⟩ | ⟨rfl, _⟩ <;> omega)
theorem book_in_turn [LowB] {B gb m : Nat} {W W' : World} {v : Slots} {b : BookT} {S : Nat → Obj → Prop} (h : BkS B gb W v b) (hT : NoT [71, 73, 76, 50] S) (ht : TurnsK S W W') (hk : BookOk m b) : BookIn W' v b :=
  ⟨rows_ownS (fun x hx => (hk.hs.2 x hx).1) (own_turn h.h (hT.sub (by simp)) ht), rows_ownS (fun x hx => (hk.ss.2 x hx).1) (own_turn h.s (hT.sub (by simp)) ht), rows_ownS (fun x hx => (hk.os.2 x hx).1) (own_turn h.o (hT.sub (by simp)) ht), rows_ownS (fun x hx => (hk.rs.2 x hx).1) (own_turn h.r (hT.sub (by simp)) ht)⟩
theorem pair_of_rise : ∀ {l : List ChT}, riseC l = true → l.Pairwise (fun c d => ltC c d = true)
  | [], _ => List.Pairwise.nil
  | [_], _ => List.pairwise_singleton _ _
  | x :: y :: r, h => by
    have h' : (ltC x y && riseC (y :: r)) = true := h
    rw [Bool.and_eq_true] at h'
    have ih := pair_of_rise h'.2
    have hp := List.pairwise_cons.1 ih
    refine List.pairwise_cons.2 ⟨fun z hz => ?_, ih⟩
    rcases List.mem_cons.1 hz with rfl | hz
    · exact h'.1
    · exact (less3_trans (a := keyC x) (b := keyC y) (c := keyC z) h'.1 (hp.1 z hz) : less3 (keyC x) (keyC z) = true)
theorem may_rise {Y : List ChV} (h : mayCh (Y.map ChV.c) = true) : RiseK (Y.map (fun x : ChV => keyC x.c)) := by
  unfold mayCh at h
  rw [Bool.and_eq_true] at h
  have h2 := pair_of_rise h.2
  unfold RiseK
  rw [show Y.map (fun x : ChV => keyC x.c) = (Y.map ChV.c).map keyC by rw [List.map_map]; rfl]
  exact List.pairwise_map.2 h2
theorem may_one {l : List ChT} (h : mayCh l = true) : ∀ c ∈ l, 1 ≤ c.l ∧ c.l ≤ 5 ∧ (c.now ≠ [] → c.now.length = allT c.l) := fun c hc => by
  unfold mayCh at h
  rw [Bool.and_eq_true] at h
  have h1 := List.all_eq_true.1 h.1 c hc
  unfold mayOne at h1
  simp only [Bool.and_eq_true, decide_eq_true_eq] at h1
  obtain ⟨⟨⟨⟨⟨⟨h1, h2⟩, _⟩, h3⟩, _⟩, _⟩, _⟩ := h1
  refine ⟨h1, h2, fun hn => ?_⟩
  unfold valuesT at h3
  rw [if_neg hn, Bool.and_eq_true, beq_iff_eq] at h3
  exact h3.1
/-- A zero change. -/
def zeroCV : ChV := ⟨⟨0, 0, 0, [], []⟩, none, 0, none, 0⟩
theorem chArr_form (z : Option ChV) : chArr z = (z.getD zeroCV).cells.toArray := by cases z <;> rfl
theorem LayV.below [LowB] {W W' : World} {a : Option Addr} {v : List Int} (h : LayV W a v) (hb : Below W.heap.size W W') : LayV W' a v := by
  rcases h with h | ⟨k, off, h1, h2, h3, h4⟩
  · exact .inl (h.below hb)
  · exact .inr ⟨k, off, h1, h2, Nat.lt_of_lt_of_le h3 hb.size, fun i z hz => (World.cell?_of_block (a := ⟨k, off + i, none⟩) (hb.block k h3)).trans (h4 i z hz)⟩
theorem lay_of [LowB] {w W : World} {a : Option Addr} {v : List Int} (h : I64s w a v) (hn : LowB.n = w.heap.size) (hb : Below w.heap.size w W) : LayV W a v := by
  rcases h with h | ⟨k, off, h1, h2, h3⟩
  · exact .inl (.inl h)
  · exact .inr ⟨k, off, h1, by omega, Nat.lt_of_lt_of_le h2 hb.size, fun i z hz => (World.cell?_of_block (a := ⟨k, off + i, none⟩) (hb.block k h2)).trans (h3 i z hz)⟩
theorem okC [LowB] {W : World} {z : Option ChV} (h : ∀ x, z = some x → I64s W x.a1 x.c.was ∧ LayV W x.a2 x.c.now) : I64s W (z.getD zeroCV).a1 (z.getD zeroCV).c.was ∧ LayV W (z.getD zeroCV).a2 (z.getD zeroCV).c.now := by
  cases z with
  | none => exact ⟨.inl rfl, .inl (.inl rfl)⟩
  | some x => exact h x rfl
set_option maxRecDepth 100000 in
set_option maxHeartbeats 8000000 in
theorem patch_no1 (v : Slots) (a : BookT) (vl : Value) (l : List ChT) (w : World) (ha : BookIn w v a) (ka : BookOk 2000 a) (hm : mayT a = false) :
    Calls Tryz.prog 7 #[.agg (cellsB v a), vl] w (PatchOut w (patchP a l)) := by
  have HP := Lib.hid (show patchP a l = (zeroD, 1) by unfold patchP; rw [if_pos hm])
  rw [HP.out]
  obtain ⟨W0, hW0⟩ : ∃ x, (((w.alloc (.cells (cellsB v a) 27)).alloc (.cells #[.slice none 0 0, .slice none 0 0, .slice none 0 0, .slice none 0 0, .int .i64 0] 27)).alloc (.cells #[.int .i64 0] 32)) = x := ⟨_, rfl⟩
  have hA : Below w.heap.size w W0 := by rw [← hW0]; exact (((Below.refl _ w).alloc (Nat.le_refl _) _).alloc (by simp) _).alloc (by simp; omega) _
  have hN := three_new (W := w) (O := .cells (cellsB v a) 27) (P := (.cells #[.slice none 0 0, .slice none 0 0, .slice none 0 0, .slice none 0 0, .int .i64 0] 27)) (S := .cells #[.int .i64 0] 32)
  rw [hW0] at hN
  have hg1 : BoxB W0 w.heap.size v a := hN.1
  have HLO := Lib.hid (fun W (h : Below W0.heap.size W0 W) => show Below w.heap.size w W from hA.trans (h.mono hA.size))
  have HL1 := Lib.hid (fun W (h : Below W0.heap.size W0 W) => load_book (hg1.below h (lt_of_blk hg1)))
  have HM1 := Lib.hid (pmay9 v a W0 (ha.below hA) ka)
  have HN4 := Lib.hid (fun W (h : Below W0.heap.size W0 W) => (h.block _ (lt_of_blk hN.2.1)).trans hN.2.1)
  have HN5 := Lib.hid (fun W (h : Below W0.heap.size W0 W) => (h.block _ (lt_of_blk hN.2.2)).trans hN.2.2)
  rw [hm] at HM1
  clear ha ka hg1 hA hN hm
  generalize cellsB v a = CA at *
  go_enter Tryz.func7, Tryz.ntmps7
  go_upto_region 2 with (first | ((with_reducible refine atLoadP (ty := 27) (x := .tmp 2) rfl ?_); refine loadE (by rfl) 27 (.tmp 2) rfl _ (.agg CA) rfl (HL1.out _ (by first | exact HB2.out | exact HB1.out | exact Below.refl _ _)) ?_) | (go_at_call 18; refine HM1.out.mono ?_; rintro e w1 ⟨rfl, hb1⟩; have HB1 := Lib.hid hb1; clear hb1; have t4 := HN4.out _ HB1.out; have HT4 := Lib.hid t4; have HT5 := Lib.hid (HN5.out _ HB1.out); clear t4))
  obtain ⟨e1, e2, e3, e4, e5⟩ := two_set (m := 1) HT4.out HT5.out (show (#[.slice none 0 0, .slice none 0 0, .slice none 0 0, .slice none 0 0, .int .i64 0] : Array Value).size = 5 from rfl)
  have HE3 := Lib.hid e3
  have HE4 := Lib.hid e4
  have HE5 := Lib.hid e5
  clear e3 e4 e5
  go_wp2_with (first | ((with_reducible refine atStoreP (ty := 27) (x := .tmp 4) (y := .tmp 12) rfl ?_); refine wpList_store_row rfl 27 (.tmp 4) (.tmp 12) rfl (w.heap.size + 1) #[.slice none 0 0, .slice none 0 0, .slice none 0 0, .slice none 0 0, .int .i64 0] rfl rfl 27 #[.slice none 0 0, .slice none 0 0, .slice none 0 0, .slice none 0 0, .int .i64 0] HT4.out info27 rfl (by simp [Value.oneCell']) ?_))
  refine bodyPost_ret (v := .tuple #[.agg #[.slice none 0 0, .slice none 0 0, .slice none 0 0, .slice none 0 0, .int .i64 0], .int .i64 1]) (results_cells2 rfl rfl rfl (load_bk HE3.out rfl) (load_err HE4.out)) rfl ?_
  exact pat_zero ((HLO.out _ HB1.out).trans (two_lo (by omega) (by omega) (HLO.out _ HB1.out).size HE5.out))
set_option maxRecDepth 100000 in
set_option maxHeartbeats 8000000 in
theorem patch_no2 (v : Slots) (a : BookT) (ya : Option Addr) (yc : Nat) (Y : List ChV) (w : World) (ha : BookIn w v a) (ka : BookOk 2000 a) (hm : mayT a = true) (hmc : mayCh (Y.map ChV.c) = false)
    (hr : RowsK 59 5 w ya (Y.map ChV.cells)) (hok : ∀ y ∈ Y, I64s w y.a1 y.c.was ∧ I64s w y.a2 y.c.now) (hlv : ∀ x ∈ Y, x.c.was.length ≤ 100000 ∧ x.c.now.length ≤ 100000) (hle : Y.length ≤ 10000) :
    Calls Tryz.prog 7 #[.agg (cellsB v a), .slice ya Y.length yc] w (PatchOut w (patchP a (Y.map ChV.c))) := by
  have HP := Lib.hid (show patchP a (Y.map ChV.c) = (zeroD, 3) by unfold patchP; rw [if_neg (by rw [hm]; decide), if_pos hmc])
  rw [HP.out]
  obtain ⟨W0, hW0⟩ : ∃ x, (((w.alloc (.cells (cellsB v a) 27)).alloc (.cells #[.slice none 0 0, .slice none 0 0, .slice none 0 0, .slice none 0 0, .int .i64 0] 27)).alloc (.cells #[.int .i64 0] 32)) = x := ⟨_, rfl⟩
  have hA : Below w.heap.size w W0 := by rw [← hW0]; exact (((Below.refl _ w).alloc (Nat.le_refl _) _).alloc (by simp) _).alloc (by simp; omega) _
  have hN := three_new (W := w) (O := .cells (cellsB v a) 27) (P := (.cells #[.slice none 0 0, .slice none 0 0, .slice none 0 0, .slice none 0 0, .int .i64 0] 27)) (S := .cells #[.int .i64 0] 32)
  rw [hW0] at hN
  have hg1 : BoxB W0 w.heap.size v a := hN.1
  have HLO := Lib.hid (fun W (h : Below W0.heap.size W0 W) => show Below w.heap.size w W from hA.trans (h.mono hA.size))
  have HL1 := Lib.hid (fun W (h : Below W0.heap.size W0 W) => load_book (hg1.below h (lt_of_blk hg1)))
  have HM1 := Lib.hid (pmay9 v a W0 (ha.below hA) ka)
  have HN4 := Lib.hid (fun W (h : Below W0.heap.size W0 W) => (h.block _ (lt_of_blk hN.2.1)).trans hN.2.1)
  have HN5 := Lib.hid (fun W (h : Below W0.heap.size W0 W) => (h.block _ (lt_of_blk hN.2.2)).trans hN.2.2)
  have HMC := Lib.hid (fun W (h : Below W0.heap.size W0 W) => may27 ya yc Y W (hr.below (HLO.out _ h)) (fun x hx => ⟨(hok x hx).1.below (HLO.out _ h), (hok x hx).2.below (HLO.out _ h)⟩) hlv (by omega))
  rw [hm] at HM1
  rw [hmc] at HMC
  generalize Y.length = ny at *
  clear ha ka hg1 hA hN hm hmc hr hok hlv
  generalize cellsB v a = CA at *
  go_enter Tryz.func7, Tryz.ntmps7
  go_upto_region 4 with (first | ((with_reducible refine atLoadP (ty := 27) (x := .tmp 2) rfl ?_); refine loadE (by rfl) 27 (.tmp 2) rfl _ (.agg CA) rfl (HL1.out _ (by first | exact HB2.out | exact HB1.out | exact Below.refl _ _)) ?_) | (go_at_call 19; refine (HMC.out _ HB1.out).mono ?_; rintro e w2 ⟨rfl, hb2⟩; have HB2 := Lib.hid (HB1.out.trans (hb2.mono HB1.out.size)); clear hb2; have HT4 := Lib.hid (HN4.out _ HB2.out); have HT5 := Lib.hid (HN5.out _ HB2.out)) | (go_at_call 18; refine HM1.out.mono ?_; rintro e w1 ⟨rfl, hb1⟩; have HB1 := Lib.hid hb1; clear hb1; have t4 := HN4.out _ HB1.out; have HT4 := Lib.hid t4; have HT5 := Lib.hid (HN5.out _ HB1.out); clear t4))
  obtain ⟨e1, e2, e3, e4, e5⟩ := two_set (m := 3) HT4.out HT5.out (show (#[.slice none 0 0, .slice none 0 0, .slice none 0 0, .slice none 0 0, .int .i64 0] : Array Value).size = 5 from rfl)
  have HE3 := Lib.hid e3
  have HE4 := Lib.hid e4
  have HE5 := Lib.hid e5
  clear e3 e4 e5
  go_wp2_with (first | ((with_reducible refine atStoreP (ty := 27) (x := .tmp 4) (y := .tmp 16) rfl ?_); refine wpList_store_row rfl 27 (.tmp 4) (.tmp 16) rfl (w.heap.size + 1) #[.slice none 0 0, .slice none 0 0, .slice none 0 0, .slice none 0 0, .int .i64 0] rfl rfl 27 #[.slice none 0 0, .slice none 0 0, .slice none 0 0, .slice none 0 0, .int .i64 0] HT4.out info27 rfl (by simp [Value.oneCell']) ?_))
  refine bodyPost_ret (v := .tuple #[.agg #[.slice none 0 0, .slice none 0 0, .slice none 0 0, .slice none 0 0, .int .i64 0], .int .i64 3]) (results_cells2 rfl rfl rfl (load_bk HE3.out rfl) (load_err HE4.out)) rfl ?_
  exact pat_zero ((HLO.out _ HB2.out).trans (two_lo (by omega) (by omega) (HLO.out _ HB2.out).size HE5.out))
end Go.Proofs.YtellifcjamedkaaGreat
