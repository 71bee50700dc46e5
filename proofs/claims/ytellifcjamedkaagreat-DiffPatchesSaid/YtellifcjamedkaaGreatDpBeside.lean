/- Two lists side by side by their keys, told by an iterator over an iterator: the program's contract. -/
import Derived.Test.YtellifcjamedkaaGreatDpAlone
import Derived.Test.YtellifcjamedkaaGreatDpCollect
namespace Go.Proofs.YtellifcjamedkaaGreat
open Go.RowKit Go.Shelf Base Base2
open List renaming getElem_toArray → lgT, getElem_cons_zero → lgZ, getElem_cons_succ → lgS, setIfInBounds_toArray → lsT, set_cons_zero → lsZ, set_cons_succ → lsS
attribute [local go_sem] Oper.semAt_some
/-- An operation whose run is known, in a fenced walk. -/
theorem wpListIn_op_run {F : Fence} {n : Nat} {P : Program} {ops : Array Oper} {rest : List Oper} {o : Oper} {a : Act} {w : World} {Q : Exit → Act → World → Prop} (hgd : o.guard = none) (hab : ∀ f, o.about P w a.eval = some f → F.fn f) (hnd : ∀ c, o.op ≠ .defer c) (v' : Value) (hr : (execOp a.eval o).run P w = .ok (.value v') w) (h : wpListIn F n P ops Q rest (a.put o.dst v') w) : wpListIn F n P ops Q (o :: rest) a w :=
  wpListIn_plain hgd fun _ hK => by
    unfold Oper.wpIn
    refine ⟨hab, ?_⟩
    rw [Oper.semAt_eq _ _ _ hnd, hr]
    exact hK _ _ h
theorem atSliceIn {F : Fence} {n : Nat} {P : Program} {ops : Array Oper} {rest : List Oper} {o : Oper} {a : Act} {w : World} {Q : Exit → Act → World → Prop} {ty : TypeId} {x : Operand} {lo hi mx : Option Operand} (_ : o.op = .slice ty x lo hi mx) (h : wpListIn F n P ops Q (o :: rest) a w) : wpListIn F n P ops Q (o :: rest) a w := h
theorem bool_of {e : Ending} {A B : Prop} (h : (e = .returned (.bool true) ∧ A) ∨ (e = .returned (.bool false) ∧ B)) : ∃ b, e = .returned (.bool b) ∧ ((b = true ∧ A) ∨ (b = false ∧ B)) := by
  rcases h with ⟨h, a⟩ | ⟨h, b⟩
  · exact ⟨true, h, .inl ⟨rfl, a⟩⟩
  · exact ⟨false, h, .inr ⟨rfl, b⟩⟩
/-- A beginning of a row, an end of one. -/
theorem rowsK_to {t : TypeId} {k : Nat} {W : World} {a : Option Addr} {l : List (List Value)} {c n : Nat} (h : RowsK t k W a l) (hn : n ≤ l.length) (hc : l.length ≤ c) : ∃ a1, sliced a 0 n c k = .slice a1 n c ∧ RowsK t k W a1 (l.take n) := by
  refine ⟨_, rfl, ?_⟩
  rcases h with rfl | ⟨g, o, cs, rfl, hg, h3⟩
  · exact .inl (by simp)
  · by_cases h0 : n = 0
    · exact .inl (by rw [h0]; rfl)
    · refine .inr ⟨g, o, cs, by split <;> simp [Addr.add_mid], hg, fun i x hi => h3 i x ?_⟩
      have hin : i < n := by have := (List.getElem?_eq_some_iff.1 hi).1; rw [List.length_take] at this; omega
      rwa [List.getElem?_take_of_lt hin] at hi
theorem rowsK_from {t : TypeId} {k : Nat} {W : World} {a : Option Addr} {l : List (List Value)} {c n : Nat} (h : RowsK t k W a l) (hn : n ≤ l.length) (hc : l.length ≤ c) : ∃ a1, sliced a n l.length c k = .slice a1 (l.drop n).length (c - n) ∧ RowsK t k W a1 (l.drop n) ∧ (l.drop n).length ≤ c - n := by
  have hl : (l.drop n).length = l.length - n := List.length_drop
  refine ⟨_, by rw [hl]; rfl, ?_, by rw [hl]; omega⟩
  rcases h with rfl | ⟨g, o, cs, rfl, hg, h3⟩
  · exact .inl (by simp)
  · by_cases h0 : n = l.length
    · exact .inl (by rw [h0]; simp)
    · refine .inr ⟨g, o + n * k, cs, by rw [if_neg (by omega)]; simp [Addr.add_mid], hg, fun i x hi j u hu => ?_⟩
      rw [List.getElem?_drop] at hi
      have := h3 (n + i) x hi j u hu
      rwa [show o + n * k + i * k + j = o + (n + i) * k + j by rw [Nat.add_mul]; omega]
theorem pre_rest {ROWS : List RowT} {pre : List RowV} {x : RowV} {xs : List RowT} (h : pre.map RowV.r ++ xs = ROWS) (hs : ∃ s, (pre ++ [x]).map RowV.r ++ s = ROWS) : ∃ s, xs = x.r :: s ∧ (pre ++ [x]).map RowV.r ++ s = ROWS := by
  obtain ⟨s, e⟩ := hs
  refine ⟨s, ?_, e⟩
  rw [← h, List.map_append, List.append_assoc] at e
  exact (List.append_cancel_left e).symm
/-- What a round of it turns of what it made, and what its own rounds turn. -/
def KRow (o : Obj) : Prop := o.isCells = false ∨ ∃ cs, o = .cells cs 86 (0, 0)
def RRow (l p1 : Nat) (R : Nat → Obj → Prop) : Nat → Obj → Prop := fun k o => TLR l R k o ∨ (k = p1 ∧ ∃ cs, o = .cells cs 86 (0, 0))
theorem RRow.no {ts : List TypeId} {l p1 : Nat} {R : Nat → Obj → Prop} (h : NoT ts R) (hs : 86 ∉ ts) : NoT ts (RRow l p1 R) := fun k cs t fz a => by
  rcases a with a | ⟨_, cs', a⟩
  · exact (h.tlr l) k cs t fz a
  · cases a; exact hs
/-- What is left of the second list. -/
structure RestRow (W : World) (v : Value) (Y : List RowV) : Prop where
  sl : ∃ a c, v = .slice a Y.length c ∧ RowsK 58 4 W a (Y.map RowV.cells) ∧ Y.length ≤ c
  ok : ∀ y ∈ Y, RowOkW W y
theorem RestRow.turn {W W' : World} {v : Value} {Y : List RowV} {S : Nat → Obj → Prop} (h : RestRow W v Y) (hT : NoT [58, 2] S) (ht : TurnsK S W W') : RestRow W' v Y := by
  obtain ⟨a, c, h1, h2, h3⟩ := h.sl
  exact ⟨⟨a, c, h1, h2.turn (hT.sub (by simp)) ht, h3⟩, fun y hy => (h.ok y hy).turn (hT.sub (by simp)) ht⟩
theorem beside_roundRow {FULL : List (Option RowT × Option RowT)} {zs : List PRow} {x : RowV} {s : List RowT} {Y : List RowV} {P : Nat} {fo : Bool} (hP : posK (keyT x.r) (Y.map (fun x : RowV => keyT x.r)) = P) (hF : foundK (keyT x.r) (Y.map (fun x : RowV => keyT x.r)) = fo) (h : zs.map plainRow ++ besideS keyT keyT (x.r :: s) (Y.map RowV.r) = FULL) :
    (∃ t, (zs ++ (Y.take P).map soleSRow).map plainRow ++ t = FULL) ∧
    (zs ++ (Y.take P).map soleSRow ++ [(some x, if fo then Y[P]? else none)]).map plainRow ++ besideS keyT keyT s ((Y.drop (if fo then P + 1 else P)).map RowV.r) = FULL := by
  have hk : (Y.map RowV.r).map keyT = Y.map (fun x : RowV => keyT x.r) := by rw [List.map_map]; rfl
  have e : besideS keyT keyT (x.r :: s) (Y.map RowV.r) = ((Y.take P).map soleSRow).map plainRow ++ plainRow (some x, if fo then Y[P]? else none) :: besideS keyT keyT s ((Y.drop (if fo then P + 1 else P)).map RowV.r) := by
    rw [besideS, hk, hP, hF]
    congr 1
    · rw [← List.map_take, List.map_map, List.map_map]; rfl
    · congr 1
      · cases fo <;> simp [plainRow]
      · rw [← List.map_drop]
  rw [e] at h
  refine ⟨⟨_, by rw [List.map_append, List.append_assoc]; exact h⟩, ?_⟩
  rw [List.map_append, List.map_append, List.append_assoc, List.append_assoc, ← h]
  rfl
/-- How it stands between two rounds. -/
structure BsRow (J : List PRow → World → Prop) (ROWS : List RowT) (FULL : List (Option RowT × Option RowT)) (l p0 : Nat) (pre : List RowV) (zs : List PRow) (v : Value) (YR : List RowV) (W : World) : Prop where
  j : J zs W
  st : ∃ xs, pre.map RowV.r ++ xs = ROWS ∧ zs.map plainRow ++ besideS keyT keyT xs (YR.map RowV.r) = FULL
  bx : Boxed W (p0 + 1) 86 v
  re : RestRow W v YR
  le : YR.length ≤ 10000
  ri : RiseK (YR.map (fun x : RowV => keyT x.r))
  yb : Boxed W p0 117 (.func (.yield l) #[] #[])
  al : Boxed W (p0 + 1 + 1) 118 (.func (.func 66) #[] #[.pointer (some ⟨p0, 0, none⟩)])
theorem BsRow.turn' {J J' : List PRow → World → Prop} {ROWS : List RowT} {FULL : List (Option RowT × Option RowT)} {l p0 : Nat} {pre : List RowV} {zs zs' : List PRow} {v : Value} {YR : List RowV} {W W' : World} {S : Nat → Obj → Prop} (h : BsRow J ROWS FULL l p0 pre zs v YR W) (hT : NoT [58, 2, 86, 117, 118] S) (hj : J' zs' W') (ht : TurnsK S W W') :
    J' zs' W' ∧ Boxed W' (p0 + 1) 86 v ∧ RestRow W' v YR ∧ YR.length ≤ 10000 ∧ RiseK (YR.map (fun x : RowV => keyT x.r)) ∧ Boxed W' p0 117 (.func (.yield l) #[] #[]) ∧ Boxed W' (p0 + 1 + 1) 118 (.func (.func 66) #[] #[.pointer (some ⟨p0, 0, none⟩)]) :=
  ⟨hj, boxed_turn h.bx (hT.sub (by simp)) ht, h.re.turn (hT.sub (by simp)) ht, h.le, h.ri, boxed_turn h.yb (hT.sub (by simp)) ht, boxed_turn h.al (hT.sub (by simp)) ht⟩
theorem BsRow.turn {J : List PRow → World → Prop} {ROWS : List RowT} {FULL : List (Option RowT × Option RowT)} {l p0 : Nat} {pre : List RowV} {zs : List PRow} {v : Value} {YR : List RowV} {W W' : World} {S : Nat → Obj → Prop} (h : BsRow J ROWS FULL l p0 pre zs v YR W) (hT : NoT [58, 2, 86, 117, 118] S) (hJ : BearsK S J) (ht : TurnsK S W W') : BsRow J ROWS FULL l p0 pre zs v YR W' :=
  ⟨hJ _ _ _ h.j ht, h.st, boxed_turn h.bx (hT.sub (by simp)) ht, h.re.turn (hT.sub (by simp)) ht, h.le, h.ri, boxed_turn h.yb (hT.sub (by simp)) ht, boxed_turn h.al (hT.sub (by simp)) ht⟩
set_option maxRecDepth 100000 in
set_option maxHeartbeats 8000000 in
theorem beside_seqRow (R : Nat → Obj → Prop) (hR : NoT [58, 58, 2, 117, 118, 86] R) (ROWS : List RowT) (Y : List RowV) (v : Value) (gf : Nat) (lb : Array Value) (eg : ∀ args w, (callFunc gf args).run Tryz.prog w = .ok (.enter gf args) w) (yb xb : Nat) (w0 : World)
    (hyb : Boxed w0 yb 86 v) (hxb : Boxed w0 xb 61 (.func (.func gf) #[] lb)) (hre : RestRow w0 v Y) (hle : Y.length ≤ 10000) (hri : RiseK (Y.map (fun x : RowV => keyT x.r)))
    (hin : ∀ (l p1 : Nat) (W : World), w0.heap.size ≤ l → w0.heap.size ≤ p1 → Below w0.heap.size w0 W → SeqK Tryz.prog gf lb encRv (fun _ => False) (RRow l p1 R) (TlRow ROWS) (fun xs => xs.map RowV.r = ROWS) W)
    (hRc : ∀ k o, R k o → o.isCells = true) :
    SeqK Tryz.prog 65 #[.pointer (some ⟨yb, 0, none⟩), .pointer (some ⟨xb, 0, none⟩)] encRow2 KRow R (TlPRow (besideS keyT keyT ROWS (Y.map RowV.r))) (fun zs => zs.map plainRow = (besideS keyT keyT ROWS (Y.map RowV.r))) w0 := by
  intro l J Jx W hW hl hlr hJ hJx hY h0
  refine (callsIn_wide (n := 10)).1 ?_
  obtain ⟨ya, yc, hv, _⟩ := hre.sl
  subst hv
  obtain ⟨FULL, hF⟩ : ∃ F, (besideS keyT keyT ROWS (Y.map RowV.r)) = F := ⟨_, rfl⟩
  rw [hF] at hY ⊢
  obtain ⟨w1, hw1⟩ : ∃ x, (((W.alloc (.cells #[.func (.yield l) #[] #[]] 117)).alloc (.cells #[.slice ya Y.length yc] 86)).alloc (.cells #[.func (.func 66) #[] #[.pointer (some ⟨W.heap.size, 0, none⟩)]] 118)) = x := ⟨_, rfl⟩
  have hA := three_alloc (w := W) (A := .cells #[.func (.yield l) #[] #[]] 117) (B := .cells #[.slice ya Y.length yc] 86) (C := .cells #[.func (.func 66) #[] #[.pointer (some ⟨W.heap.size, 0, none⟩)]] 118)
  have hsz : w1.heap.size = W.heap.size + 3 := by rw [← hw1]; simp
  rw [hw1] at hA
  have HB01 := Lib.hid (show Below w0.heap.size w0 w1 from hW.trans (hA.2.2.2.mono hW.size))
  have HBs := Lib.hid (show BsRow J ROWS FULL l W.heap.size [] [] (.slice ya Y.length yc) Y w1 from ⟨(hJ.mono (fun _ _ a => a.elim) : BearsK (fun _ _ => False) J).below h0 hA.2.2.2, ⟨ROWS, rfl, by rw [List.map_nil, List.nil_append]; exact hF⟩, hA.2.1, hre.turn (NoT.false _) (TurnsK.below HB01.out), hle, hri, hA.1, hA.2.2.1⟩)
  have hz0 := hW.size
  have HIN := Lib.hid (hin l (W.heap.size + 1) w1 hl (by omega) HB01.out)
  have cy := cell_of_one (((hW.trans (((Below.refl _ W).alloc (Nat.le_refl _) (.cells #[.func (.yield l) #[] #[]] 117)).mono hW.size)).block _ hyb.lt).trans hyb)
  have cx0 := cell_of_one ((HB01.out.block _ hxb.lt).trans hxb)
  have HJ := Lib.hid hJ
  have HJX := Lib.hid hJx
  have HY := Lib.hid (show YieldPRow l R FULL J Jx from hY)
  have HRR := Lib.hid hR
  have HE := Lib.hid eg
  have HRC := Lib.hid hRc
  have hll : l < W.heap.size := by obtain ⟨r, hr⟩ := hlr; exact blk_ltK hr
  clear hW hl hlr hJ hJx hY h0 hyb hxb hre hle hri hin eg hRc hA
  refine callsIn_of_wp_marks Tryz.func65 rfl trivial ?_ rfl
  simp only [Tryz.ntmps65, List.size_toArray, List.length_cons, List.length_nil, Nat.reduceAdd, Nat.reduceSub, Array.replicate_succ, Array.replicate_zero, List.push_toArray, List.append_toArray, List.nil_append, List.cons_append]
  gi_wp2
  refine range_kinds (gf := gf) (lb := lb) (w := w1) rfl HE.out HIN.out ?hrc (Below.refl _ _) (fun _ => rfl)
    (fun pre W' => ∃ zs v YR, BsRow J ROWS FULL l W.heap.size pre zs v YR W') (fun c _ W' => c = Code.ret ∧ ∃ zs, Jx zs W') ?bi ?bx ?h0
    (fun pre x a' W' => TlRow ROWS pre x W' ∧ ∃ zs v YR, BsRow J ROWS FULL l W.heap.size pre zs v YR W' ∧ ∃ b0, W'.heap[b0]? = some (.cells x.cells.toArray 58 (0, 0)) ∧ w1.heap.size ≤ b0 ∧ a' = ⟨#[.func (.yield l) #[] #[], .pointer (some ⟨yb, 0, none⟩), .pointer (some ⟨xb, 0, none⟩), .pointer (some ⟨W.heap.size, 0, none⟩), .pointer (some ⟨W.heap.size + 1, 0, none⟩), .pointer (some ⟨W.heap.size + 1 + 1, 0, none⟩), .pointer (some ⟨b0, 0, none⟩), undef, undef, undef, .slice ya Y.length yc, .func (.func 66) #[] #[.pointer (some ⟨W.heap.size, 0, none⟩)], .func (.func gf) #[] lb, .agg x.cells.toArray, undef, undef, undef, undef, undef, undef, undef, undef, undef, undef, undef, undef, undef, undef, undef, undef, undef, undef, undef, undef, undef, undef, undef, undef, undef, undef, undef, undef, undef, undef, undef, undef], []⟩) ?bax ?assign ?body ?done ?stop
  case hrc =>
    rintro k o (h | ⟨rfl, cs, rfl⟩)
    · rcases h with ⟨rfl, _⟩ | h
      · exact .inr (by omega)
      · exact .inl (HRC.out k o h)
    · exact .inl rfl
  case bi =>
    rintro pre A B ⟨zs, v, YR, h⟩ ht
    refine ⟨zs, v, YR, h.turn (not_cells (fun k o h => h.2.elim False.elim id)) (HJ.out.mono ?_) ht⟩
    rintro k o ⟨h1, h2⟩
    exact ⟨by omega, .inl (h2.elim False.elim id)⟩
  case bx =>
    rintro c pre A B ⟨hc, zs, h⟩ ht
    refine ⟨hc, zs, HJX.out _ _ _ h (ht.mono ?_)⟩
    rintro k o ⟨h1, h2⟩
    exact ⟨by omega, .inl (h2.elim False.elim id)⟩
  case h0 => exact ⟨[], _, Y, HBs.out⟩
  case bax =>
    rintro pre x a' s A B ⟨⟨hp, hv⟩, zs, v, YR, h, b0, h3, h4, h5⟩ ht
    have hn : ∀ ts, NoT ts (fun k o => w1.heap.size ≤ k ∧ o.isCells = false) := fun ts => not_cells (fun k o h => h.2)
    refine ⟨⟨hp, hv.turn (hn _) ht⟩, zs, v, YR, h.turn (hn _) (HJ.out.mono ?_) ht, b0, (hn _).at ht h3 (List.mem_singleton.2 rfl), h4, h5⟩
    rintro k o ⟨h1, h2⟩
    exact ⟨by omega, .inl h2⟩
  case assign =>
    rintro lo pre ⟨⟨xl, xa, xb', xv⟩, A, C⟩ W2 K2 ⟨zs, v, YR, hbs⟩ ⟨hp, hx⟩ hK
    have hbl := (Below.refl _ W2).alloc (Nat.le_refl _) (.cells #[.int .i64 xl, .int .i64 xa, .int .i64 xb', .slice A xv.length C] 58)
    have HK := Lib.hid (hK _ _ (.below hbl) ⟨⟨hp, hx.below hbl⟩, zs, v, YR, hbs.turn (NoT.false _) (HJ.out.mono (fun _ _ a => a.elim)) (TurnsK.below hbl), W2.heap.size, heap_alloc_new W2 _, by have := hbs.al.lt; omega, rfl⟩)
    clear hK hbs hp hx hbl
    dsimp only [encRv, RowV.cells]
    gi_wp2
    exact HK.out
  case body =>
    rintro lo pre ⟨⟨xl, xa, xb', xv⟩, A, C⟩ a' W2 ⟨⟨hp, hx⟩, zs, v, YR, hbs, b0, hb0, hb1, rfl⟩
    obtain ⟨ra, rc, hv, hrk, hcap⟩ := hbs.re.sl
    subst hv
    obtain ⟨xs, hst1, hst2⟩ := hbs.st
    obtain ⟨s, hs1, hs2⟩ := pre_rest hst1 hp
    subst hs1
    obtain ⟨P, hP⟩ : ∃ P, posK (xl, xa, xb') (YR.map (fun x : RowV => keyT x.r)) = P := ⟨_, rfl⟩
    obtain ⟨fo, hF2⟩ : ∃ fo, foundK (xl, xa, xb') (YR.map (fun x : RowV => keyT x.r)) = fo := ⟨_, rfl⟩
    have HRD := Lib.hid (beside_roundRow (x := ⟨⟨xl, xa, xb', xv⟩, A, C⟩) hP hF2 hst2)
    have hPl : P ≤ YR.length := by have := posK_le (xl, xa, xb') (YR.map (fun x : RowV => keyT x.r)); rw [List.length_map, hP] at this; exact this
    have HFO := Lib.hid (show fo = true → P < YR.length from fun h => by have := foundK_lt (hF2.trans h); rw [List.length_map, hP] at this; exact this)
    have HS := Lib.hid (fun (W' : World) (hb : Below W2.heap.size W2 W') => searchRow ra rc YR xl xa xb' W' (hrk.below hb) hbs.ri hbs.le)
    rw [hP, hF2] at HS
    have hb0' : W2.heap[b0]? = some (.cells #[.int .i64 xl, .int .i64 xa, .int .i64 xb', .slice A xv.length C] 58 (0, 0)) := hb0
    have HB0 := Lib.hid hb0'
    have HBX := Lib.hid hbs.bx
    have HBS := Lib.hid hbs
    have HX := Lib.hid hx
    have HP2 := Lib.hid hs2
    have HRK := Lib.hid hrk
    have hcap' := hcap
    have hle2 := hbs.le
    obtain ⟨n, hn⟩ : ∃ n, YR.length = n := ⟨_, rfl⟩
    have HN := Lib.hid hn
    rw [hn] at hPl HFO HS HBX hcap hle2
    clear hp hx hbs hrk hst1 hst2 hs2 hP hF2 hb0 hb0' hn hcap'
    dsimp only [RowV.cells]
    have hm := methRow
    obtain ⟨a1, hsl, hr1⟩ := rowsK_to HRK.out (n := P) (by rw [List.length_map, HN.out]; exact hPl) (by rw [List.length_map, HN.out]; exact hcap)
    have HSL := Lib.hid hsl
    have hS0 : Below W2.heap.size W2 W2.drew := (Below.refl _ _).drew
    have HR1 := Lib.hid hr1
    clear hsl hr1
    gi_wp2
    refine region_round (S := fun W => Below W2.heap.size W2 W) (by kernel_rfl) (fun hq => by obtain ⟨_, _, h⟩ := hq; exact h) (by kernel_rfl) (hS0) (fun hS => ?_)
    refine wpAnyH_take (i := 0) (v := .slice ra n rc) rfl (by kernel_rfl) (by kernel_rfl) (by kernel_rfl) (fun _ _ _ h => h) (Or.inl ⟨by simp [Region.wanted], fun W hW => by have c0 := cell_of_one ((hW.block _ HBX.out.lt).trans HBX.out); go_simp⟩) hS ?_
    simp only [lgT, lgZ, Act.put, lsT, lsZ, lsS]
    refine wpAnyH_take (i := 1) (v := .agg #[.int .i64 xl, .int .i64 xa, .int .i64 xb', .slice A xv.length C]) rfl (by kernel_rfl) (by kernel_rfl) (by kernel_rfl) (fun _ _ _ h => h) (yieldsIf_load rfl 58 (.tmp 6) rfl (.pointer (some ⟨b0, 0, none⟩)) _ rfl (fun W hW => load_rowD (o := 0) (by rw [cell_of_row _ _ _ _ _ _ ((hW.block _ (lt_of_blk HB0.out)).trans HB0.out)]; rfl) (by rw [cell_of_row _ _ _ _ _ _ ((hW.block _ (lt_of_blk HB0.out)).trans HB0.out)]; rfl) (by rw [cell_of_row _ _ _ _ _ _ ((hW.block _ (lt_of_blk HB0.out)).trans HB0.out)]; rfl) (by rw [cell_of_row _ _ _ _ _ _ ((hW.block _ (lt_of_blk HB0.out)).trans HB0.out)]; rfl))) hS ?_
    simp only [lgT, lgZ, lgS, Act.put, lsT, lsZ, lsS]
    refine wpAnyH_take (i := 2) (v := .iface 58 (.agg #[.int .i64 xl, .int .i64 xa, .int .i64 xb', .slice A xv.length C])) rfl (by kernel_rfl) (by kernel_rfl) (by kernel_rfl) (fun _ _ _ h => h) (Or.inl ⟨by simp [Region.wanted], fun W _ => by go_simp⟩) hS ?_
    simp only [lgT, lgZ, lgS, Act.put, lsT, lsZ, lsS]
    refine wpAnyH_ready (rs := [3]) (by kernel_rfl) (by simp) ?_
    refine AllReadyH.cons rfl (fun K1 hK1 => ?_) AllReadyH.nil
    refine wanted_go rfl ?_
    simp only [lgT, lgZ, lgS]
    go_wp2_with (go_at_call 119; refine (atRow xl xa xb' A xv.length C _).mono ?_; rintro e w2 ⟨rfl, hb2⟩; have HB2 := Lib.hid hb2; clear hb2)
    refine hK1.out _ _ ((hS).trans (HB2.out.mono (hS).size)) (fun hS1 => ?_)
    refine wpAnyH_ready (rs := [4]) (by kernel_rfl) (by simp) ?_
    refine AllReadyH.cons rfl (fun K2 hK2 => ?_) AllReadyH.nil
    refine wanted_go rfl ?_
    simp only [lgT, lgZ, lgS]
    go_wp2_with (go_at_call 67; refine (HS.out _ hS1).mono ?_; rintro e w3 ⟨rfl, hb3⟩; have HB3 := Lib.hid hb3; clear hb3)
    refine hK2.out _ _ ((hS1).trans (HB3.out.mono (hS1).size)) (fun hS2 => ?_)
    refine wpAnyH_take (i := 5) (v := .tuple #[.int .i64 (P : Int), .bool fo]) rfl (by kernel_rfl) (by kernel_rfl) (by kernel_rfl) (fun _ _ _ h => h) (Or.inl ⟨by simp [Region.wanted], fun W _ => by go_simp⟩) hS2 ?_
    simp only [lgT, lgZ, lgS, Act.put, lsT, lsZ, lsS]
    refine wpAnyH_take (i := 6) (v := .int .i64 (P : Int)) rfl (by kernel_rfl) (by kernel_rfl) (by kernel_rfl) (fun _ _ _ h => h) (Or.inl ⟨by simp [Region.wanted], fun W _ => by go_simp⟩) hS2 ?_
    simp only [lgT, lgZ, lgS, Act.put, lsT, lsZ, lsS]
    refine wpAnyH_take (i := 7) (v := .bool fo) rfl (by kernel_rfl) (by kernel_rfl) (by kernel_rfl) (fun _ _ _ h => h) (Or.inl ⟨by simp [Region.wanted], fun W _ => by go_simp⟩) hS2 ?_
    simp only [lgT, lgZ, lgS, Act.put, lsT, lsZ, lsS]
    refine wpAnyH_take (i := 8) (v := .int .i64 (P : Int)) rfl (by kernel_rfl) (by kernel_rfl) (by kernel_rfl) (fun _ _ _ h => h) (Or.inl ⟨by simp [Region.wanted], fun W _ => by go_simp⟩) hS2 ?_
    simp only [lgT, lgZ, lgS, Act.put, lsT, lsZ, lsS]
    refine wpAnyH_take (i := 9) (v := .bool fo) rfl (by kernel_rfl) (by kernel_rfl) (by kernel_rfl) (fun _ _ _ h => h) (Or.inl ⟨by simp [Region.wanted], fun W _ => by go_simp⟩) hS2 ?_
    simp only [lgT, lgZ, lgS, Act.put, lsT, lsZ, lsS]
    refine wpAnyH_done (by kernel_rfl) ?_ _
    gi_wp2
    have hb23 : Below W2.heap.size W2 w3 := hS2
    have hbd : Below W2.heap.size W2 w3.drew := hb23.drew
    have HBS3 := Lib.hid (HBS.out.turn (NoT.false _) (HJ.out.mono (fun _ _ a => a.elim)) (TurnsK.below hbd))
    have HB03 := Lib.hid ((hbd.block _ (lt_of_blk HB0.out)).trans HB0.out)
    have HX3 := Lib.hid (HX.out.below hbd)
    have hlt : (YR.take P).length = P := by rw [List.length_take, HN.out]; omega
    have hal := aloneRow l R (HRR.out.sub (by simp)) FULL J Jx (HJ.out.mono (fun _ _ a => a.elim)) HY.out w3.drew a1 rc (YR.take P) (by rw [List.map_take]; exact HR1.out.below hbd) (fun y hy => HBS3.out.re.ok y (List.mem_of_mem_take hy)) (by rw [hlt]; omega) W.heap.size HBS3.out.yb zs HRD.out.1 HBS3.out.j
    rw [hlt] at hal
    have HAL := Lib.hid hal
    have HBX3 := Lib.hid (show Boxed w3 (W.heap.size + 1) 86 (.slice ra n rc) by have h := HBS3.out.bx; rw [HN.out] at h; exact h)
    have HAL3 := Lib.hid (show Boxed w3 (W.heap.size + 1 + 1) 118 (.func (.func 66) #[] #[.pointer (some ⟨W.heap.size, 0, none⟩)]) from HBS3.out.al)
    have HB3W := Lib.hid hb23
    clear hal hbd hb23 hS1 hS2 hS hlt HS HBX HX HBS HB0 HR1
    have hPc : (P : Int) ≤ (rc : Int) := by omega
    have hPc2 : ¬ rc < P := by omega
    refine region_round (S := fun W' => TurnsK (TLR l R) w3 W') (by kernel_rfl) (fun hq => by obtain ⟨_, _, h⟩ := hq; exact h) (by kernel_rfl) ((TurnsK.refl _ _).drew) (fun hS => ?_)
    refine wpAnyH_take (i := 0) (v := .func (.func 66) #[] #[.pointer (some ⟨W.heap.size, 0, none⟩)]) rfl (by kernel_rfl) (by kernel_rfl) (by kernel_rfl) (fun _ _ _ h => h) (Or.inl ⟨by simp [Region.wanted], fun W' hW => by have cp1 := cell_of_one ((HRR.out.tlr l).at hW HBX3.out (by simp)); have cp2 := cell_of_one ((HRR.out.tlr l).at hW HAL3.out (by simp)); go_simp⟩) hS ?_
    simp only [lgT, lgZ, Act.put, lsT, lsZ, lsS]
    refine wpAnyH_take (i := 1) (v := .slice ra n rc) rfl (by kernel_rfl) (by kernel_rfl) (by kernel_rfl) (fun _ _ _ h => h) (Or.inl ⟨by simp [Region.wanted], fun W' hW => by have cp1 := cell_of_one ((HRR.out.tlr l).at hW HBX3.out (by simp)); have cp2 := cell_of_one ((HRR.out.tlr l).at hW HAL3.out (by simp)); go_simp⟩) hS ?_
    simp only [lgT, lgZ, lgS, Act.put, lsT, lsZ, lsS]
    refine wpAnyH_take (i := 2) (v := .int .i64 (P : Int)) rfl (by kernel_rfl) (by kernel_rfl) (by kernel_rfl) (fun _ _ _ h => h) (Or.inl ⟨by simp [Region.wanted], fun W' _ => by go_simp⟩) hS ?_
    simp only [lgT, lgZ, lgS, Act.put, lsT, lsZ, lsS]
    refine wpAnyH_take (i := 3) (v := .slice a1 P rc) rfl (by kernel_rfl) (by kernel_rfl) (by kernel_rfl) (fun _ _ _ h => h) (Or.inl ⟨by simp [Region.wanted], fun W' _ => by rw [← HSL.out]; go_simp⟩) hS ?_
    simp only [lgT, lgZ, lgS, Act.put, lsT, lsZ, lsS]
    refine wpAnyH_ready (rs := [4]) (by kernel_rfl) (by simp) ?_
    refine AllReadyH.cons rfl (fun K1 hK1 => ?_) AllReadyH.nil
    refine wanted_go rfl ?_
    simp only [lgT, lgZ, lgS]
    go_wp2_with (go_at_call 66; refine HAL.out.mono ?_; rintro e w4 ⟨ht4, hcase⟩; obtain ⟨bb, he, hcs2⟩ := bool_of hcase; clear hcase; subst he; have HCS4 := Lib.hid hcs2; have HT3 := Lib.hid ht4; clear hcs2 ht4)
    refine hK1.out _ _ ((TurnsK.refl _ _).drew.trans HT3.out) (fun hS4 => ?_)
    refine wpAnyH_take (i := 5) (v := .bool (!bb)) rfl (by kernel_rfl) (by kernel_rfl) (by kernel_rfl) (fun _ _ _ h => h) (Or.inl ⟨by simp [Region.wanted], fun W' _ => by go_simp⟩) hS4 ?_
    simp only [lgT, lgZ, lgS, Act.put, lsT, lsZ, lsS]
    refine wpAnyH_done (by kernel_rfl) ?_ _
    have HT4 := Lib.hid (show TurnsK (TLR l R) W2 w4 from (TurnsK.below HB3W.out).trans hS4)
    clear hS4
    rcases HCS4.out with ⟨rfl, hj4⟩ | ⟨rfl, zs4, hj4⟩
    · have hf4 : ∀ {ts}, NoT ts R → NoT ts (TLR l R) := fun h => h.tlr l
      have HBS4 := Lib.hid (HBS3.out.turn' (hf4 (HRR.out.sub (by simp))) hj4 HT3.out)
      have HB04 := Lib.hid ((hf4 (HRR.out.sub (by simp : ∀ t ∈ [58], t ∈ _))).at HT3.out HB03.out (List.mem_singleton.2 rfl))
      have HX4 := Lib.hid (HX3.out.turn (hf4 (HRR.out.sub (by simp))) HT3.out)
      clear hj4 HT3 HBS3 HB03 HX3 HBX3 HAL3
      cases fo with
      | false =>
        have hrk4 := HBS4.out.2.2.1.sl
        obtain ⟨ra0, rc0, hv0, hrk0, hcp0⟩ := hrk4
        have hq0 : ra = ra0 ∧ rc = rc0 := by simpa using hv0
        rw [← hq0.1] at hrk0
        obtain ⟨a2, hsf, hr2, hc2⟩ := rowsK_from hrk0 (n := P) (by rw [List.length_map, HN.out]; omega) (by rw [List.length_map, HN.out]; exact hcap)
        rw [List.length_map, HN.out] at hsf
        rw [← List.map_drop, List.length_map] at hsf hc2
        rw [← List.map_drop] at hr2
        have HSF := Lib.hid hsf
        have hre5 : RestRow w4 (.slice a2 (YR.drop P).length (rc - P)) (YR.drop P) := ⟨⟨a2, _, rfl, hr2, hc2⟩, fun y hy => HBS4.out.2.2.1.ok y (List.mem_of_mem_drop hy)⟩
        clear hrk0 hv0 hq0 hsf hr2 hc2 hcp0
        obtain ⟨m2, hm2⟩ : ∃ m, (YR.drop P).length = m := ⟨_, rfl⟩
        rw [hm2] at HSF hre5
        have hbl := (Below.refl _ w4).alloc (Nat.le_refl _) (.cells #[.int .i64 0, .int .i64 0, .int .i64 0, .slice none 0 0] 58)
        have hx5 := (hbl.block _ HBS4.out.2.1.lt).trans HBS4.out.2.1
        rw [HN.out] at hx5
        have cp1 := cell_of_one hx5
        have fp1 := free_of_blkN hx5 0
        have hT45 : TurnsK (fun k o => k = W.heap.size + 1 ∧ ∃ cs, o = .cells cs 86 (0, 0)) w4 ((w4.alloc (.cells #[.int .i64 0, .int .i64 0, .int .i64 0, .slice none 0 0] 58)).setCell ⟨W.heap.size + 1, 0, none⟩ (.slice a2 m2 (rc - P))) := ((TurnsK.refl _ w4).alloc _).setCell (p := ⟨W.heap.size + 1, 0, none⟩) hx5 ⟨rfl, _, rfl⟩ _
        have hn5 : ∀ ts, 86 ∉ ts → NoT ts (fun k o => k = W.heap.size + 1 ∧ ∃ cs, o = .cells cs 86 (0, 0)) := fun ts ht k cs t fz h => by obtain ⟨_, cs2, h⟩ := h; cases h; exact ht
        have hob : ((w4.alloc (.cells #[.int .i64 0, .int .i64 0, .int .i64 0, .slice none 0 0] 58)).setCell ⟨W.heap.size + 1, 0, none⟩ (.slice a2 m2 (rc - P))).heap[w4.heap.size]? = some (.cells #[.int .i64 0, .int .i64 0, .int .i64 0, .slice none 0 0] 58 (0, 0)) := (heap_setCell_ne _ (by have := HBS4.out.2.1.lt; omega)).trans (heap_alloc_new w4 _)
        have hxx5 : Boxed ((w4.alloc (.cells #[.int .i64 0, .int .i64 0, .int .i64 0, .slice none 0 0] 58)).setCell ⟨W.heap.size + 1, 0, none⟩ (.slice a2 m2 (rc - P))) (W.heap.size + 1) 86 (.slice a2 m2 (rc - P)) := set_blkN hx5 0 _
        obtain ⟨W5, hW5⟩ : ∃ x, ((w4.alloc (.cells #[.int .i64 0, .int .i64 0, .int .i64 0, .slice none 0 0] 58)).setCell ⟨W.heap.size + 1, 0, none⟩ (.slice a2 m2 (rc - P))) = x := ⟨_, rfl⟩
        rw [hW5] at hT45 hob hxx5
        have hj5 := HJ.out _ _ _ HBS4.out.1 (hT45.mono (fun k o h => ⟨by have := h.1; omega, .inr h.2⟩))
        have hb5 := (hn5 [58] (by decide)).at hT45 HB04.out (List.mem_singleton.2 rfl)
        have hy5 := boxed_turn HBS4.out.2.2.2.2.2.1 (hn5 _ (by decide)) hT45
        have ha5 := boxed_turn HBS4.out.2.2.2.2.2.2 (hn5 _ (by decide)) hT45
        have hr5 := hre5.turn (hn5 _ (by decide)) hT45
        have hx0 := HX4.out.turn (hn5 _ (by decide)) hT45
        have d0 : W5.cell? ⟨b0, 0, none⟩ = some (.int .i64 xl) := by rw [cell_of_row _ _ _ _ _ _ hb5]; rfl
        have d1 : W5.cell? ⟨b0, 1, none⟩ = some (.int .i64 xa) := by rw [cell_of_row _ _ _ _ _ _ hb5]; rfl
        have d2 : W5.cell? ⟨b0, 2, none⟩ = some (.int .i64 xb') := by rw [cell_of_row _ _ _ _ _ _ hb5]; rfl
        have d3 : W5.cell? ⟨b0, 3, none⟩ = some (.slice A xv.length C) := by rw [cell_of_row _ _ _ _ _ _ hb5]; rfl
        have q0 : W5.cell? ⟨w4.heap.size, 0, none⟩ = some (.int .i64 0) := by rw [cell_of_row _ _ _ _ _ _ hob]; rfl
        have q1 : W5.cell? ⟨w4.heap.size, 1, none⟩ = some (.int .i64 0) := by rw [cell_of_row _ _ _ _ _ _ hob]; rfl
        have q2 : W5.cell? ⟨w4.heap.size, 2, none⟩ = some (.int .i64 0) := by rw [cell_of_row _ _ _ _ _ _ hob]; rfl
        have q3 : W5.cell? ⟨w4.heap.size, 3, none⟩ = some (.slice none 0 0) := by rw [cell_of_row _ _ _ _ _ _ hob]; rfl
        have cy5 := cell_of_one hy5
        have hst := HRD.out.2
        rw [if_neg (by simp), if_neg (by simp)] at hst
        obtain ⟨fn, tmps, assign, body, hy, hRd⟩ := HY.out _ (some ⟨⟨xl, xa, xb', xv⟩, A, C⟩, none) _ hj5 ⟨⟨_, hst⟩, (fun x hx => by cases hx; exact hx0), (fun y hy => by cases hy)⟩
        replace hy : (Instr.yield l #[.agg #[.int .i64 xl, .int .i64 xa, .int .i64 xb', .slice A xv.length C], .agg #[.int .i64 0, .int .i64 0, .int .i64 0, .slice none 0 0]]).run Tryz.prog W5 = .ok (.round l fn tmps assign body) W5 := hy
        have HST := Lib.hid hst
        have HXX5 := Lib.hid hxx5
        have HY5 := Lib.hid hy5
        have HA5 := Lib.hid ha5
        have HR5 := Lib.hid hr5
        have HT5 := Lib.hid hT45
        have HLE := Lib.hid HBS4.out.2.2.2.1
        have HRI := Lib.hid HBS4.out.2.2.2.2.1
        clear hst hxx5 hy5 ha5 hr5 hT45 hre5 hx5 hob hj5 hb5 hx0 hbl hm2 HBS4 HB04 HX4
        gi_wp2_with ((with_reducible refine atSliceIn (ty := 86) (x := .tmp 35) (lo := some (.tmp 36)) (hi := none) (mx := none) rfl ?_); refine wpListIn_op_run rfl (fun _ _ => trivial) (fun c h => by cases h) (.slice a2 m2 (rc - P)) (by rw [← HSF.out]; go_simp) ?_)
        refine (roundIn_any hRd).mono ?_
        rintro e W6 ⟨⟨rfl, hj6⟩ | ⟨rfl, hjx6⟩, ht6⟩
        · have hT26 : TurnsK (RRow l (W.heap.size + 1) R) W2 W6 := ((HT4.out.mono (fun _ _ h => .inl h)).trans (HT5.out.mono (fun _ _ h => .inr h))).trans (ht6.mono (fun _ _ h => .inl h))
          have hbs6 : BsRow J ROWS FULL l W.heap.size (pre ++ [⟨⟨xl, xa, xb', xv⟩, A, C⟩]) _ _ (YR.drop P) W6 := ⟨hj6, ⟨s, HP2.out, HST.out⟩, boxed_turn HXX5.out (hf4 (HRR.out.sub (by simp))) ht6, HR5.out.turn (hf4 (HRR.out.sub (by simp))) ht6, by have := HLE.out; rw [List.length_drop]; omega, by rw [List.map_drop]; exact HRI.out.sublist (List.drop_sublist _ _), boxed_turn HY5.out (hf4 (HRR.out.sub (by simp))) ht6, boxed_turn HA5.out (hf4 (HRR.out.sub (by simp))) ht6⟩
          have HE6 := Lib.hid (And.intro hT26 hbs6)
          clear hT26 hbs6 hj6 ht6 hy hRd d0 d1 d2 d3 q0 q1 q2 q3 cy5
          gi_wp2
          exact ⟨HE6.out.1, _, _, _, HE6.out.2⟩
        · have HE6 := Lib.hid (And.intro (show TurnsK (RRow l (W.heap.size + 1) R) W2 W6 from ((HT4.out.mono (fun _ _ h => .inl h)).trans (HT5.out.mono (fun _ _ h => .inr h))).trans (ht6.mono (fun _ _ h => .inl h))) hjx6)
          clear hjx6 ht6 hy hRd d0 d1 d2 d3 q0 q1 q2 q3 cy5
          gi_wp2
          exact ⟨HE6.out.1, rfl, _, HE6.out.2⟩
      | true =>
        have hPn := HFO.out rfl
        obtain ⟨y, hy0⟩ : ∃ y, YR[P]? = some y := ⟨YR[P]'(by rw [HN.out]; exact hPn), by simp [HN.out, hPn]⟩
        obtain ⟨⟨yl, ya1, yb1, yv⟩, B, D⟩ := y
        have HY0 := Lib.hid hy0
        obtain ⟨ra0, rc0, hv0, hrk0, _⟩ := HBS4.out.2.2.1.sl
        obtain ⟨rfl, rfl⟩ : ra = ra0 ∧ rc = rc0 := by simpa using hv0
        obtain ⟨g, off, ha, hcs⟩ := hrk0.at (i := P) (xs := #[.int .i64 yl, .int .i64 ya1, .int .i64 yb1, .slice B yv.length D].toList) (by rw [List.getElem?_map, hy0]; rfl)
        subst ha
        have hbz := (Below.refl _ w4).alloc (Nat.le_refl _) (.cells #[.int .i64 0, .int .i64 0, .int .i64 0, .slice none 0 0] 58)
        have e0 := hcs _ hbz 0 _ rfl
        have e1 := hcs _ hbz 1 _ rfl
        have e2 := hcs _ hbz 2 _ rfl
        have e3 := hcs _ hbz 3 _ rfl
        rw [Nat.add_zero] at e0
        have cz := cell_of_one ((hbz.block _ HBS4.out.2.1.lt).trans HBS4.out.2.1)
        rw [HN.out] at cz
        clear hy0 hv0 hrk0 hcs hbz
        have hrk4 := HBS4.out.2.2.1.sl
        obtain ⟨ra0, rc0, hv0, hrk0, hcp0⟩ := hrk4
        have hq0 : (some ⟨g, off, none⟩) = ra0 ∧ rc = rc0 := by simpa using hv0
        rw [← hq0.1] at hrk0
        obtain ⟨a2, hsf, hr2, hc2⟩ := rowsK_from hrk0 (n := (P + 1)) (by rw [List.length_map, HN.out]; omega) (by rw [List.length_map, HN.out]; exact hcap)
        rw [List.length_map, HN.out] at hsf
        rw [← List.map_drop, List.length_map] at hsf hc2
        rw [← List.map_drop] at hr2
        have HSF := Lib.hid hsf
        have hre5 : RestRow w4 (.slice a2 (YR.drop (P + 1)).length (rc - (P + 1))) (YR.drop (P + 1)) := ⟨⟨a2, _, rfl, hr2, hc2⟩, fun y hy => HBS4.out.2.2.1.ok y (List.mem_of_mem_drop hy)⟩
        clear hrk0 hv0 hq0 hsf hr2 hc2 hcp0
        obtain ⟨m2, hm2⟩ : ∃ m, (YR.drop (P + 1)).length = m := ⟨_, rfl⟩
        rw [hm2] at HSF hre5
        have hbl := (Below.refl _ w4).alloc (Nat.le_refl _) (.cells #[.int .i64 yl, .int .i64 ya1, .int .i64 yb1, .slice B yv.length D] 58)
        have hx5 := (hbl.block _ HBS4.out.2.1.lt).trans HBS4.out.2.1
        rw [HN.out] at hx5
        have cp1 := cell_of_one hx5
        have fp1 := free_of_blkN hx5 0
        have hT45 : TurnsK (fun k o => k = W.heap.size + 1 ∧ ∃ cs, o = .cells cs 86 (0, 0)) w4 ((w4.alloc (.cells #[.int .i64 yl, .int .i64 ya1, .int .i64 yb1, .slice B yv.length D] 58)).setCell ⟨W.heap.size + 1, 0, none⟩ (.slice a2 m2 (rc - (P + 1)))) := ((TurnsK.refl _ w4).alloc _).setCell (p := ⟨W.heap.size + 1, 0, none⟩) hx5 ⟨rfl, _, rfl⟩ _
        have hn5 : ∀ ts, 86 ∉ ts → NoT ts (fun k o => k = W.heap.size + 1 ∧ ∃ cs, o = .cells cs 86 (0, 0)) := fun ts ht k cs t fz h => by obtain ⟨_, cs2, h⟩ := h; cases h; exact ht
        have hob : ((w4.alloc (.cells #[.int .i64 yl, .int .i64 ya1, .int .i64 yb1, .slice B yv.length D] 58)).setCell ⟨W.heap.size + 1, 0, none⟩ (.slice a2 m2 (rc - (P + 1)))).heap[w4.heap.size]? = some (.cells #[.int .i64 yl, .int .i64 ya1, .int .i64 yb1, .slice B yv.length D] 58 (0, 0)) := (heap_setCell_ne _ (by have := HBS4.out.2.1.lt; omega)).trans (heap_alloc_new w4 _)
        have hxx5 : Boxed ((w4.alloc (.cells #[.int .i64 yl, .int .i64 ya1, .int .i64 yb1, .slice B yv.length D] 58)).setCell ⟨W.heap.size + 1, 0, none⟩ (.slice a2 m2 (rc - (P + 1)))) (W.heap.size + 1) 86 (.slice a2 m2 (rc - (P + 1))) := set_blkN hx5 0 _
        obtain ⟨W5, hW5⟩ : ∃ x, ((w4.alloc (.cells #[.int .i64 yl, .int .i64 ya1, .int .i64 yb1, .slice B yv.length D] 58)).setCell ⟨W.heap.size + 1, 0, none⟩ (.slice a2 m2 (rc - (P + 1)))) = x := ⟨_, rfl⟩
        rw [hW5] at hT45 hob hxx5
        have hj5 := HJ.out _ _ _ HBS4.out.1 (hT45.mono (fun k o h => ⟨by have := h.1; omega, .inr h.2⟩))
        have hb5 := (hn5 [58] (by decide)).at hT45 HB04.out (List.mem_singleton.2 rfl)
        have hy5 := boxed_turn HBS4.out.2.2.2.2.2.1 (hn5 _ (by decide)) hT45
        have ha5 := boxed_turn HBS4.out.2.2.2.2.2.2 (hn5 _ (by decide)) hT45
        have hr5 := hre5.turn (hn5 _ (by decide)) hT45
        have hx0 := HX4.out.turn (hn5 _ (by decide)) hT45
        have d0 : W5.cell? ⟨b0, 0, none⟩ = some (.int .i64 xl) := by rw [cell_of_row _ _ _ _ _ _ hb5]; rfl
        have d1 : W5.cell? ⟨b0, 1, none⟩ = some (.int .i64 xa) := by rw [cell_of_row _ _ _ _ _ _ hb5]; rfl
        have d2 : W5.cell? ⟨b0, 2, none⟩ = some (.int .i64 xb') := by rw [cell_of_row _ _ _ _ _ _ hb5]; rfl
        have d3 : W5.cell? ⟨b0, 3, none⟩ = some (.slice A xv.length C) := by rw [cell_of_row _ _ _ _ _ _ hb5]; rfl
        have q0 : W5.cell? ⟨w4.heap.size, 0, none⟩ = some (.int .i64 yl) := by rw [cell_of_row _ _ _ _ _ _ hob]; rfl
        have q1 : W5.cell? ⟨w4.heap.size, 1, none⟩ = some (.int .i64 ya1) := by rw [cell_of_row _ _ _ _ _ _ hob]; rfl
        have q2 : W5.cell? ⟨w4.heap.size, 2, none⟩ = some (.int .i64 yb1) := by rw [cell_of_row _ _ _ _ _ _ hob]; rfl
        have q3 : W5.cell? ⟨w4.heap.size, 3, none⟩ = some (.slice B yv.length D) := by rw [cell_of_row _ _ _ _ _ _ hob]; rfl
        have cy5 := cell_of_one hy5
        have hst := HRD.out.2
        rw [if_pos rfl, HY0.out, if_pos rfl] at hst
        obtain ⟨fn, tmps, assign, body, hy, hRd⟩ := HY.out _ (some ⟨⟨xl, xa, xb', xv⟩, A, C⟩, some ⟨⟨yl, ya1, yb1, yv⟩, B, D⟩) _ hj5 ⟨⟨_, hst⟩, (fun x hx => by cases hx; exact hx0), (fun y hy => by cases hy; exact ((HBS4.out.2.2.1.ok _ (List.mem_of_getElem? HY0.out)).turn (hn5 _ (by decide)) hT45))⟩
        replace hy : (Instr.yield l #[.agg #[.int .i64 xl, .int .i64 xa, .int .i64 xb', .slice A xv.length C], .agg #[.int .i64 yl, .int .i64 ya1, .int .i64 yb1, .slice B yv.length D]]).run Tryz.prog W5 = .ok (.round l fn tmps assign body) W5 := hy
        have HST := Lib.hid hst
        have HXX5 := Lib.hid hxx5
        have HY5 := Lib.hid hy5
        have HA5 := Lib.hid ha5
        have HR5 := Lib.hid hr5
        have HT5 := Lib.hid hT45
        have HLE := Lib.hid HBS4.out.2.2.2.1
        have HRI := Lib.hid HBS4.out.2.2.2.2.1
        clear hst hxx5 hy5 ha5 hr5 hT45 hre5 hx5 hob hj5 hb5 hx0 hbl hm2 HBS4 HB04 HX4
        have hq1 : (P : Int) + 1 ≤ (n : Int) := by omega
        have hq2 : ((P : Int) + 1).toNat = P + 1 := by omega
        have hq3 : (0 : Int) ≤ (P : Int) + 1 := by omega
        have hq4 : (P : Int) < (n : Int) := by omega
        gi_wp2_with ((with_reducible refine atSliceIn (ty := 86) (x := .tmp 35) (lo := some (.tmp 36)) (hi := none) (mx := none) rfl ?_); refine wpListIn_op_run rfl (fun _ _ => trivial) (fun c h => by cases h) (.slice a2 m2 (rc - (P + 1))) (by rw [← HSF.out]; go_simp) ?_)
        refine (roundIn_any hRd).mono ?_
        rintro e W6 ⟨⟨rfl, hj6⟩ | ⟨rfl, hjx6⟩, ht6⟩
        · have hT26 : TurnsK (RRow l (W.heap.size + 1) R) W2 W6 := ((HT4.out.mono (fun _ _ h => .inl h)).trans (HT5.out.mono (fun _ _ h => .inr h))).trans (ht6.mono (fun _ _ h => .inl h))
          have hbs6 : BsRow J ROWS FULL l W.heap.size (pre ++ [⟨⟨xl, xa, xb', xv⟩, A, C⟩]) _ _ (YR.drop (P + 1)) W6 := ⟨hj6, ⟨s, HP2.out, HST.out⟩, boxed_turn HXX5.out (hf4 (HRR.out.sub (by simp))) ht6, HR5.out.turn (hf4 (HRR.out.sub (by simp))) ht6, by have := HLE.out; rw [List.length_drop]; omega, by rw [List.map_drop]; exact HRI.out.sublist (List.drop_sublist _ _), boxed_turn HY5.out (hf4 (HRR.out.sub (by simp))) ht6, boxed_turn HA5.out (hf4 (HRR.out.sub (by simp))) ht6⟩
          have HE6 := Lib.hid (And.intro hT26 hbs6)
          clear hT26 hbs6 hj6 ht6 hy hRd d0 d1 d2 d3 q0 q1 q2 q3 cy5
          gi_wp2
          exact ⟨HE6.out.1, _, _, _, HE6.out.2⟩
        · have HE6 := Lib.hid (And.intro (show TurnsK (RRow l (W.heap.size + 1) R) W2 W6 from ((HT4.out.mono (fun _ _ h => .inl h)).trans (HT5.out.mono (fun _ _ h => .inr h))).trans (ht6.mono (fun _ _ h => .inl h))) hjx6)
          clear hjx6 ht6 hy hRd d0 d1 d2 d3 q0 q1 q2 q3 cy5
          gi_wp2
          exact ⟨HE6.out.1, rfl, _, HE6.out.2⟩
    · have HJ4 := Lib.hid hj4
      clear hj4
      gi_wp2
      exact ⟨HT4.out.mono (fun _ _ h => .inl h), rfl, zs4, HJ4.out⟩
  case done =>
    rintro D pre W5 hD hf ⟨zs, v, YR, hbs⟩ hK
    obtain ⟨ra, rc, hv, hrk, hcap⟩ := hbs.re.sl
    subst hv
    have hst : (zs ++ YR.map soleSRow).map plainRow = FULL := by
      obtain ⟨xs, e1, e2⟩ := hbs.st
      rw [hf] at e1
      have e3 : xs = [] := List.append_cancel_left (e1.trans (List.append_nil _).symm)
      subst e3
      rw [← e2, List.map_append, besideS, List.map_map, List.map_map]
      rfl
    have hal := aloneRow l R (HRR.out.sub (by simp)) FULL J Jx (HJ.out.mono (fun _ _ a => a.elim)) HY.out W5 ra rc YR hrk hbs.re.ok hbs.le W.heap.size hbs.yb zs ⟨[], by rw [List.append_nil]; exact hst⟩ hbs.j
    have cp1 := cell_of_one hbs.bx
    have cp2 := cell_of_one hbs.al
    have HKD := Lib.hid (fun (W6 : World) (ht : TurnsK (TLR l R) W5 W6) => ht.block _ _ hK (fun a => by rcases a with ⟨a, _⟩ | a; omega; have := HRC.out _ _ a; cases this))
    have HAL := Lib.hid hal
    have HST := Lib.hid hst
    have HDD := Lib.hid hD
    clear hbs hf hK hal hst hrk hcap hD
    gi_wp2_with (refine ⟨trivial, ?_⟩; gi_at_call 66; refine (callsIn_wide.2 HAL.out).mono ?_; rintro e w6 ⟨ht6, hcase⟩; obtain ⟨bb, he, hcs2⟩ := bool_of hcase; clear hcase; subst he; have HCS6 := Lib.hid hcs2; have HT6 := Lib.hid ht6; clear hcs2 ht6)
    have hkd := HKD.out _ HT6.out
    refine ⟨by simp, .inl ⟨_, _, rfl, run_takeDeferred hkd, ?_⟩⟩
    have hput : TurnsK (fun k o => W.heap.size ≤ k ∧ KRow o) w6 (w6.putObj D (.deferred none)) := (TurnsK.refl _ _).putObj hkd ⟨by have := HDD.out; omega, .inl rfl⟩ _
    refine ⟨_, results_none rfl _ _ _, ⟨_, rfl⟩, ?_⟩
    rcases HCS6.out with ⟨_, hj⟩ | ⟨_, zs2, hj⟩
    · exact .inl ⟨_, HST.out, HJ.out _ _ _ hj hput⟩
    · exact .inr ⟨zs2, HJX.out _ _ _ hj hput⟩
  case stop =>
    rintro D c pre W5 hD ⟨rfl, zs, hj⟩ hK
    have hput : TurnsK (fun k o => W.heap.size ≤ k ∧ KRow o) W5 (W5.putObj D (.deferred none)) := (TurnsK.refl _ _).putObj hK ⟨by omega, .inl rfl⟩ _
    have HJ6 := Lib.hid (HJX.out _ _ _ hj hput)
    have HKD := Lib.hid hK
    clear hj hput hK
    gi_wp2
    refine ⟨by simp, .inl ⟨_, _, rfl, run_takeDeferred HKD.out, ?_⟩⟩
    exact ⟨_, results_none rfl _ _ _, ⟨_, rfl⟩, .inr ⟨zs, HJ6.out⟩⟩
/-- What a round of it turns of what it made, and what its own rounds turn. -/
def KCh (o : Obj) : Prop := o.isCells = false ∨ ∃ cs, o = .cells cs 35 (0, 0)
def RCh (l p1 : Nat) (R : Nat → Obj → Prop) : Nat → Obj → Prop := fun k o => TLR l R k o ∨ (k = p1 ∧ ∃ cs, o = .cells cs 35 (0, 0))
theorem RCh.no {ts : List TypeId} {l p1 : Nat} {R : Nat → Obj → Prop} (h : NoT ts R) (hs : 35 ∉ ts) : NoT ts (RCh l p1 R) := fun k cs t fz a => by
  rcases a with a | ⟨_, cs', a⟩
  · exact (h.tlr l) k cs t fz a
  · cases a; exact hs
/-- What is left of the second list. -/
structure RestCh [ChQ] (W : World) (v : Value) (Y : List ChV) : Prop where
  sl : ∃ a c, v = .slice a Y.length c ∧ RowsK 59 5 W a (Y.map ChV.cells) ∧ Y.length ≤ c
  ok : ∀ y ∈ Y, ChOk W y
theorem RestCh.turn [ChQ] {W W' : World} {v : Value} {Y : List ChV} {S : Nat → Obj → Prop} (h : RestCh W v Y) (hT : NoT [59, 2] S) (ht : TurnsK S W W') : RestCh W' v Y := by
  obtain ⟨a, c, h1, h2, h3⟩ := h.sl
  exact ⟨⟨a, c, h1, h2.turn (hT.sub (by simp)) ht, h3⟩, fun y hy => (h.ok y hy).turn (hT.sub (by simp)) ht⟩
theorem beside_roundCh {FULL : List (Option RowT × Option ChT)} {zs : List PCh} {x : RowV} {s : List RowT} {Y : List ChV} {P : Nat} {fo : Bool} (hP : posK (keyT x.r) (Y.map (fun x : ChV => keyC x.c)) = P) (hF : foundK (keyT x.r) (Y.map (fun x : ChV => keyC x.c)) = fo) (h : zs.map plainCh ++ besideS keyT keyC (x.r :: s) (Y.map ChV.c) = FULL) :
    (∃ t, (zs ++ (Y.take P).map soleSCh).map plainCh ++ t = FULL) ∧
    (zs ++ (Y.take P).map soleSCh ++ [(some x, if fo then Y[P]? else none)]).map plainCh ++ besideS keyT keyC s ((Y.drop (if fo then P + 1 else P)).map ChV.c) = FULL := by
  have hk : (Y.map ChV.c).map keyC = Y.map (fun x : ChV => keyC x.c) := by rw [List.map_map]; rfl
  have e : besideS keyT keyC (x.r :: s) (Y.map ChV.c) = ((Y.take P).map soleSCh).map plainCh ++ plainCh (some x, if fo then Y[P]? else none) :: besideS keyT keyC s ((Y.drop (if fo then P + 1 else P)).map ChV.c) := by
    rw [besideS, hk, hP, hF]
    congr 1
    · rw [← List.map_take, List.map_map, List.map_map]; rfl
    · congr 1
      · cases fo <;> simp [plainCh]
      · rw [← List.map_drop]
  rw [e] at h
  refine ⟨⟨_, by rw [List.map_append, List.append_assoc]; exact h⟩, ?_⟩
  rw [List.map_append, List.map_append, List.append_assoc, List.append_assoc, ← h]
  rfl
/-- How it stands between two rounds. -/
structure BsCh [ChQ] (J : List PCh → World → Prop) (ROWS : List RowT) (FULL : List (Option RowT × Option ChT)) (l p0 : Nat) (pre : List RowV) (zs : List PCh) (v : Value) (YR : List ChV) (W : World) : Prop where
  j : J zs W
  st : ∃ xs, pre.map RowV.r ++ xs = ROWS ∧ zs.map plainCh ++ besideS keyT keyC xs (YR.map ChV.c) = FULL
  bx : Boxed W (p0 + 1) 35 v
  re : RestCh W v YR
  le : YR.length ≤ 10000
  ri : RiseK (YR.map (fun x : ChV => keyC x.c))
  yb : Boxed W p0 91 (.func (.yield l) #[] #[])
  al : Boxed W (p0 + 1 + 1) 51 (.func (.func 46) #[] #[.pointer (some ⟨p0, 0, none⟩)])
theorem BsCh.turn' [ChQ] {J J' : List PCh → World → Prop} {ROWS : List RowT} {FULL : List (Option RowT × Option ChT)} {l p0 : Nat} {pre : List RowV} {zs zs' : List PCh} {v : Value} {YR : List ChV} {W W' : World} {S : Nat → Obj → Prop} (h : BsCh J ROWS FULL l p0 pre zs v YR W) (hT : NoT [59, 2, 35, 91, 51] S) (hj : J' zs' W') (ht : TurnsK S W W') :
    J' zs' W' ∧ Boxed W' (p0 + 1) 35 v ∧ RestCh W' v YR ∧ YR.length ≤ 10000 ∧ RiseK (YR.map (fun x : ChV => keyC x.c)) ∧ Boxed W' p0 91 (.func (.yield l) #[] #[]) ∧ Boxed W' (p0 + 1 + 1) 51 (.func (.func 46) #[] #[.pointer (some ⟨p0, 0, none⟩)]) :=
  ⟨hj, boxed_turn h.bx (hT.sub (by simp)) ht, h.re.turn (hT.sub (by simp)) ht, h.le, h.ri, boxed_turn h.yb (hT.sub (by simp)) ht, boxed_turn h.al (hT.sub (by simp)) ht⟩
theorem BsCh.turn [ChQ] {J : List PCh → World → Prop} {ROWS : List RowT} {FULL : List (Option RowT × Option ChT)} {l p0 : Nat} {pre : List RowV} {zs : List PCh} {v : Value} {YR : List ChV} {W W' : World} {S : Nat → Obj → Prop} (h : BsCh J ROWS FULL l p0 pre zs v YR W) (hT : NoT [59, 2, 35, 91, 51] S) (hJ : BearsK S J) (ht : TurnsK S W W') : BsCh J ROWS FULL l p0 pre zs v YR W' :=
  ⟨hJ _ _ _ h.j ht, h.st, boxed_turn h.bx (hT.sub (by simp)) ht, h.re.turn (hT.sub (by simp)) ht, h.le, h.ri, boxed_turn h.yb (hT.sub (by simp)) ht, boxed_turn h.al (hT.sub (by simp)) ht⟩
set_option maxRecDepth 100000 in
set_option maxHeartbeats 8000000 in
theorem beside_seqCh [ChQ] (R : Nat → Obj → Prop) (hR : NoT [59, 58, 2, 91, 51, 35] R) (ROWS : List RowT) (Y : List ChV) (v : Value) (gf : Nat) (lb : Array Value) (eg : ∀ args w, (callFunc gf args).run Tryz.prog w = .ok (.enter gf args) w) (yb xb : Nat) (w0 : World)
    (hyb : Boxed w0 yb 35 v) (hxb : Boxed w0 xb 61 (.func (.func gf) #[] lb)) (hre : RestCh w0 v Y) (hle : Y.length ≤ 10000) (hri : RiseK (Y.map (fun x : ChV => keyC x.c)))
    (hin : ∀ (l p1 : Nat) (W : World), w0.heap.size ≤ l → w0.heap.size ≤ p1 → Below w0.heap.size w0 W → SeqK Tryz.prog gf lb encRv (fun _ => False) (RCh l p1 R) (TlRow ROWS) (fun xs => xs.map RowV.r = ROWS) W)
    (hRc : ∀ k o, R k o → o.isCells = true) :
    SeqK Tryz.prog 45 #[.pointer (some ⟨yb, 0, none⟩), .pointer (some ⟨xb, 0, none⟩)] encCh2 KCh R (TlPCh (besideS keyT keyC ROWS (Y.map ChV.c))) (fun zs => zs.map plainCh = (besideS keyT keyC ROWS (Y.map ChV.c))) w0 := by
  intro l J Jx W hW hl hlr hJ hJx hY h0
  refine (callsIn_wide (n := 10)).1 ?_
  obtain ⟨ya, yc, hv, _⟩ := hre.sl
  subst hv
  obtain ⟨FULL, hF⟩ : ∃ F, (besideS keyT keyC ROWS (Y.map ChV.c)) = F := ⟨_, rfl⟩
  rw [hF] at hY ⊢
  obtain ⟨w1, hw1⟩ : ∃ x, (((W.alloc (.cells #[.func (.yield l) #[] #[]] 91)).alloc (.cells #[.slice ya Y.length yc] 35)).alloc (.cells #[.func (.func 46) #[] #[.pointer (some ⟨W.heap.size, 0, none⟩)]] 51)) = x := ⟨_, rfl⟩
  have hA := three_alloc (w := W) (A := .cells #[.func (.yield l) #[] #[]] 91) (B := .cells #[.slice ya Y.length yc] 35) (C := .cells #[.func (.func 46) #[] #[.pointer (some ⟨W.heap.size, 0, none⟩)]] 51)
  have hsz : w1.heap.size = W.heap.size + 3 := by rw [← hw1]; simp
  rw [hw1] at hA
  have HB01 := Lib.hid (show Below w0.heap.size w0 w1 from hW.trans (hA.2.2.2.mono hW.size))
  have HBs := Lib.hid (show BsCh J ROWS FULL l W.heap.size [] [] (.slice ya Y.length yc) Y w1 from ⟨(hJ.mono (fun _ _ a => a.elim) : BearsK (fun _ _ => False) J).below h0 hA.2.2.2, ⟨ROWS, rfl, by rw [List.map_nil, List.nil_append]; exact hF⟩, hA.2.1, hre.turn (NoT.false _) (TurnsK.below HB01.out), hle, hri, hA.1, hA.2.2.1⟩)
  have hz0 := hW.size
  have HIN := Lib.hid (hin l (W.heap.size + 1) w1 hl (by omega) HB01.out)
  have cy := cell_of_one (((hW.trans (((Below.refl _ W).alloc (Nat.le_refl _) (.cells #[.func (.yield l) #[] #[]] 91)).mono hW.size)).block _ hyb.lt).trans hyb)
  have cx0 := cell_of_one ((HB01.out.block _ hxb.lt).trans hxb)
  have HJ := Lib.hid hJ
  have HJX := Lib.hid hJx
  have HY := Lib.hid (show YieldPCh l R FULL J Jx from hY)
  have HRR := Lib.hid hR
  have HE := Lib.hid eg
  have HRC := Lib.hid hRc
  have hll : l < W.heap.size := by obtain ⟨r, hr⟩ := hlr; exact blk_ltK hr
  clear hW hl hlr hJ hJx hY h0 hyb hxb hre hle hri hin eg hRc hA
  refine callsIn_of_wp_marks Tryz.func45 rfl trivial ?_ rfl
  simp only [Tryz.ntmps45, List.size_toArray, List.length_cons, List.length_nil, Nat.reduceAdd, Nat.reduceSub, Array.replicate_succ, Array.replicate_zero, List.push_toArray, List.append_toArray, List.nil_append, List.cons_append]
  gi_wp2
  refine range_kinds (gf := gf) (lb := lb) (w := w1) rfl HE.out HIN.out ?hrc (Below.refl _ _) (fun _ => rfl)
    (fun pre W' => ∃ zs v YR, BsCh J ROWS FULL l W.heap.size pre zs v YR W') (fun c _ W' => c = Code.ret ∧ ∃ zs, Jx zs W') ?bi ?bx ?h0
    (fun pre x a' W' => TlRow ROWS pre x W' ∧ ∃ zs v YR, BsCh J ROWS FULL l W.heap.size pre zs v YR W' ∧ ∃ b0, W'.heap[b0]? = some (.cells x.cells.toArray 58 (0, 0)) ∧ w1.heap.size ≤ b0 ∧ a' = ⟨#[.func (.yield l) #[] #[], .pointer (some ⟨yb, 0, none⟩), .pointer (some ⟨xb, 0, none⟩), .pointer (some ⟨W.heap.size, 0, none⟩), .pointer (some ⟨W.heap.size + 1, 0, none⟩), .pointer (some ⟨W.heap.size + 1 + 1, 0, none⟩), .pointer (some ⟨b0, 0, none⟩), undef, undef, undef, .slice ya Y.length yc, .func (.func 46) #[] #[.pointer (some ⟨W.heap.size, 0, none⟩)], .func (.func gf) #[] lb, .agg x.cells.toArray, undef, undef, undef, undef, undef, undef, undef, undef, undef, undef, undef, undef, undef, undef, undef, undef, undef, undef, undef, undef, undef, undef, undef, undef, undef, undef, undef, undef, undef, undef, undef, undef], []⟩) ?bax ?assign ?body ?done ?stop
  case hrc =>
    rintro k o (h | ⟨rfl, cs, rfl⟩)
    · rcases h with ⟨rfl, _⟩ | h
      · exact .inr (by omega)
      · exact .inl (HRC.out k o h)
    · exact .inl rfl
  case bi =>
    rintro pre A B ⟨zs, v, YR, h⟩ ht
    refine ⟨zs, v, YR, h.turn (not_cells (fun k o h => h.2.elim False.elim id)) (HJ.out.mono ?_) ht⟩
    rintro k o ⟨h1, h2⟩
    exact ⟨by omega, .inl (h2.elim False.elim id)⟩
  case bx =>
    rintro c pre A B ⟨hc, zs, h⟩ ht
    refine ⟨hc, zs, HJX.out _ _ _ h (ht.mono ?_)⟩
    rintro k o ⟨h1, h2⟩
    exact ⟨by omega, .inl (h2.elim False.elim id)⟩
  case h0 => exact ⟨[], _, Y, HBs.out⟩
  case bax =>
    rintro pre x a' s A B ⟨⟨hp, hv⟩, zs, v, YR, h, b0, h3, h4, h5⟩ ht
    have hn : ∀ ts, NoT ts (fun k o => w1.heap.size ≤ k ∧ o.isCells = false) := fun ts => not_cells (fun k o h => h.2)
    refine ⟨⟨hp, hv.turn (hn _) ht⟩, zs, v, YR, h.turn (hn _) (HJ.out.mono ?_) ht, b0, (hn _).at ht h3 (List.mem_singleton.2 rfl), h4, h5⟩
    rintro k o ⟨h1, h2⟩
    exact ⟨by omega, .inl h2⟩
  case assign =>
    rintro lo pre ⟨⟨xl, xa, xb', xv⟩, A, C⟩ W2 K2 ⟨zs, v, YR, hbs⟩ ⟨hp, hx⟩ hK
    have hbl := (Below.refl _ W2).alloc (Nat.le_refl _) (.cells #[.int .i64 xl, .int .i64 xa, .int .i64 xb', .slice A xv.length C] 58)
    have HK := Lib.hid (hK _ _ (.below hbl) ⟨⟨hp, hx.below hbl⟩, zs, v, YR, hbs.turn (NoT.false _) (HJ.out.mono (fun _ _ a => a.elim)) (TurnsK.below hbl), W2.heap.size, heap_alloc_new W2 _, by have := hbs.al.lt; omega, rfl⟩)
    clear hK hbs hp hx hbl
    dsimp only [encRv, RowV.cells]
    gi_wp2
    exact HK.out
  case body =>
    rintro lo pre ⟨⟨xl, xa, xb', xv⟩, A, C⟩ a' W2 ⟨⟨hp, hx⟩, zs, v, YR, hbs, b0, hb0, hb1, rfl⟩
    obtain ⟨ra, rc, hv, hrk, hcap⟩ := hbs.re.sl
    subst hv
    obtain ⟨xs, hst1, hst2⟩ := hbs.st
    obtain ⟨s, hs1, hs2⟩ := pre_rest hst1 hp
    subst hs1
    obtain ⟨P, hP⟩ : ∃ P, posK (xl, xa, xb') (YR.map (fun x : ChV => keyC x.c)) = P := ⟨_, rfl⟩
    obtain ⟨fo, hF2⟩ : ∃ fo, foundK (xl, xa, xb') (YR.map (fun x : ChV => keyC x.c)) = fo := ⟨_, rfl⟩
    have HRD := Lib.hid (beside_roundCh (x := ⟨⟨xl, xa, xb', xv⟩, A, C⟩) hP hF2 hst2)
    have hPl : P ≤ YR.length := by have := posK_le (xl, xa, xb') (YR.map (fun x : ChV => keyC x.c)); rw [List.length_map, hP] at this; exact this
    have HFO := Lib.hid (show fo = true → P < YR.length from fun h => by have := foundK_lt (hF2.trans h); rw [List.length_map, hP] at this; exact this)
    have HS := Lib.hid (fun (W' : World) (hb : Below W2.heap.size W2 W') => searchCh ra rc YR xl xa xb' W' (hrk.below hb) hbs.ri hbs.le)
    rw [hP, hF2] at HS
    have hb0' : W2.heap[b0]? = some (.cells #[.int .i64 xl, .int .i64 xa, .int .i64 xb', .slice A xv.length C] 58 (0, 0)) := hb0
    have HB0 := Lib.hid hb0'
    have HBX := Lib.hid hbs.bx
    have HBS := Lib.hid hbs
    have HX := Lib.hid hx
    have HP2 := Lib.hid hs2
    have HRK := Lib.hid hrk
    have hcap' := hcap
    have hle2 := hbs.le
    obtain ⟨n, hn⟩ : ∃ n, YR.length = n := ⟨_, rfl⟩
    have HN := Lib.hid hn
    rw [hn] at hPl HFO HS HBX hcap hle2
    clear hp hx hbs hrk hst1 hst2 hs2 hP hF2 hb0 hb0' hn hcap'
    dsimp only [RowV.cells]
    have hm := methRow
    obtain ⟨a1, hsl, hr1⟩ := rowsK_to HRK.out (n := P) (by rw [List.length_map, HN.out]; exact hPl) (by rw [List.length_map, HN.out]; exact hcap)
    have HSL := Lib.hid hsl
    have hS0 : Below W2.heap.size W2 W2.drew := (Below.refl _ _).drew
    have HR1 := Lib.hid hr1
    clear hsl hr1
    gi_wp2
    refine region_round (S := fun W => Below W2.heap.size W2 W) (by kernel_rfl) (fun hq => by obtain ⟨_, _, h⟩ := hq; exact h) (by kernel_rfl) (hS0) (fun hS => ?_)
    refine wpAnyH_take (i := 0) (v := .slice ra n rc) rfl (by kernel_rfl) (by kernel_rfl) (by kernel_rfl) (fun _ _ _ h => h) (Or.inl ⟨by simp [Region.wanted], fun W hW => by have c0 := cell_of_one ((hW.block _ HBX.out.lt).trans HBX.out); go_simp⟩) hS ?_
    simp only [lgT, lgZ, Act.put, lsT, lsZ, lsS]
    refine wpAnyH_take (i := 1) (v := .agg #[.int .i64 xl, .int .i64 xa, .int .i64 xb', .slice A xv.length C]) rfl (by kernel_rfl) (by kernel_rfl) (by kernel_rfl) (fun _ _ _ h => h) (yieldsIf_load rfl 58 (.tmp 6) rfl (.pointer (some ⟨b0, 0, none⟩)) _ rfl (fun W hW => load_rowD (o := 0) (by rw [cell_of_row _ _ _ _ _ _ ((hW.block _ (lt_of_blk HB0.out)).trans HB0.out)]; rfl) (by rw [cell_of_row _ _ _ _ _ _ ((hW.block _ (lt_of_blk HB0.out)).trans HB0.out)]; rfl) (by rw [cell_of_row _ _ _ _ _ _ ((hW.block _ (lt_of_blk HB0.out)).trans HB0.out)]; rfl) (by rw [cell_of_row _ _ _ _ _ _ ((hW.block _ (lt_of_blk HB0.out)).trans HB0.out)]; rfl))) hS ?_
    simp only [lgT, lgZ, lgS, Act.put, lsT, lsZ, lsS]
    refine wpAnyH_take (i := 2) (v := .iface 58 (.agg #[.int .i64 xl, .int .i64 xa, .int .i64 xb', .slice A xv.length C])) rfl (by kernel_rfl) (by kernel_rfl) (by kernel_rfl) (fun _ _ _ h => h) (Or.inl ⟨by simp [Region.wanted], fun W _ => by go_simp⟩) hS ?_
    simp only [lgT, lgZ, lgS, Act.put, lsT, lsZ, lsS]
    refine wpAnyH_ready (rs := [3]) (by kernel_rfl) (by simp) ?_
    refine AllReadyH.cons rfl (fun K1 hK1 => ?_) AllReadyH.nil
    refine wanted_go rfl ?_
    simp only [lgT, lgZ, lgS]
    go_wp2_with (go_at_call 119; refine (atRow xl xa xb' A xv.length C _).mono ?_; rintro e w2 ⟨rfl, hb2⟩; have HB2 := Lib.hid hb2; clear hb2)
    refine hK1.out _ _ ((hS).trans (HB2.out.mono (hS).size)) (fun hS1 => ?_)
    refine wpAnyH_ready (rs := [4]) (by kernel_rfl) (by simp) ?_
    refine AllReadyH.cons rfl (fun K2 hK2 => ?_) AllReadyH.nil
    refine wanted_go rfl ?_
    simp only [lgT, lgZ, lgS]
    go_wp2_with (go_at_call 47; refine (HS.out _ hS1).mono ?_; rintro e w3 ⟨rfl, hb3⟩; have HB3 := Lib.hid hb3; clear hb3)
    refine hK2.out _ _ ((hS1).trans (HB3.out.mono (hS1).size)) (fun hS2 => ?_)
    refine wpAnyH_take (i := 5) (v := .tuple #[.int .i64 (P : Int), .bool fo]) rfl (by kernel_rfl) (by kernel_rfl) (by kernel_rfl) (fun _ _ _ h => h) (Or.inl ⟨by simp [Region.wanted], fun W _ => by go_simp⟩) hS2 ?_
    simp only [lgT, lgZ, lgS, Act.put, lsT, lsZ, lsS]
    refine wpAnyH_take (i := 6) (v := .int .i64 (P : Int)) rfl (by kernel_rfl) (by kernel_rfl) (by kernel_rfl) (fun _ _ _ h => h) (Or.inl ⟨by simp [Region.wanted], fun W _ => by go_simp⟩) hS2 ?_
    simp only [lgT, lgZ, lgS, Act.put, lsT, lsZ, lsS]
    refine wpAnyH_take (i := 7) (v := .bool fo) rfl (by kernel_rfl) (by kernel_rfl) (by kernel_rfl) (fun _ _ _ h => h) (Or.inl ⟨by simp [Region.wanted], fun W _ => by go_simp⟩) hS2 ?_
    simp only [lgT, lgZ, lgS, Act.put, lsT, lsZ, lsS]
    refine wpAnyH_take (i := 8) (v := .int .i64 (P : Int)) rfl (by kernel_rfl) (by kernel_rfl) (by kernel_rfl) (fun _ _ _ h => h) (Or.inl ⟨by simp [Region.wanted], fun W _ => by go_simp⟩) hS2 ?_
    simp only [lgT, lgZ, lgS, Act.put, lsT, lsZ, lsS]
    refine wpAnyH_take (i := 9) (v := .bool fo) rfl (by kernel_rfl) (by kernel_rfl) (by kernel_rfl) (fun _ _ _ h => h) (Or.inl ⟨by simp [Region.wanted], fun W _ => by go_simp⟩) hS2 ?_
    simp only [lgT, lgZ, lgS, Act.put, lsT, lsZ, lsS]
    refine wpAnyH_done (by kernel_rfl) ?_ _
    gi_wp2
    have hb23 : Below W2.heap.size W2 w3 := hS2
    have hbd : Below W2.heap.size W2 w3.drew := hb23.drew
    have HBS3 := Lib.hid (HBS.out.turn (NoT.false _) (HJ.out.mono (fun _ _ a => a.elim)) (TurnsK.below hbd))
    have HB03 := Lib.hid ((hbd.block _ (lt_of_blk HB0.out)).trans HB0.out)
    have HX3 := Lib.hid (HX.out.below hbd)
    have hlt : (YR.take P).length = P := by rw [List.length_take, HN.out]; omega
    have hal := aloneCh l R (HRR.out.sub (by simp)) FULL J Jx (HJ.out.mono (fun _ _ a => a.elim)) HY.out w3.drew a1 rc (YR.take P) (by rw [List.map_take]; exact HR1.out.below hbd) (fun y hy => HBS3.out.re.ok y (List.mem_of_mem_take hy)) (by rw [hlt]; omega) W.heap.size HBS3.out.yb zs HRD.out.1 HBS3.out.j
    rw [hlt] at hal
    have HAL := Lib.hid hal
    have HBX3 := Lib.hid (show Boxed w3 (W.heap.size + 1) 35 (.slice ra n rc) by have h := HBS3.out.bx; rw [HN.out] at h; exact h)
    have HAL3 := Lib.hid (show Boxed w3 (W.heap.size + 1 + 1) 51 (.func (.func 46) #[] #[.pointer (some ⟨W.heap.size, 0, none⟩)]) from HBS3.out.al)
    have HB3W := Lib.hid hb23
    clear hal hbd hb23 hS1 hS2 hS hlt HS HBX HX HBS HB0 HR1
    have hPc : (P : Int) ≤ (rc : Int) := by omega
    have hPc2 : ¬ rc < P := by omega
    refine region_round (S := fun W' => TurnsK (TLR l R) w3 W') (by kernel_rfl) (fun hq => by obtain ⟨_, _, h⟩ := hq; exact h) (by kernel_rfl) ((TurnsK.refl _ _).drew) (fun hS => ?_)
    refine wpAnyH_take (i := 0) (v := .func (.func 46) #[] #[.pointer (some ⟨W.heap.size, 0, none⟩)]) rfl (by kernel_rfl) (by kernel_rfl) (by kernel_rfl) (fun _ _ _ h => h) (Or.inl ⟨by simp [Region.wanted], fun W' hW => by have cp1 := cell_of_one ((HRR.out.tlr l).at hW HBX3.out (by simp)); have cp2 := cell_of_one ((HRR.out.tlr l).at hW HAL3.out (by simp)); go_simp⟩) hS ?_
    simp only [lgT, lgZ, Act.put, lsT, lsZ, lsS]
    refine wpAnyH_take (i := 1) (v := .slice ra n rc) rfl (by kernel_rfl) (by kernel_rfl) (by kernel_rfl) (fun _ _ _ h => h) (Or.inl ⟨by simp [Region.wanted], fun W' hW => by have cp1 := cell_of_one ((HRR.out.tlr l).at hW HBX3.out (by simp)); have cp2 := cell_of_one ((HRR.out.tlr l).at hW HAL3.out (by simp)); go_simp⟩) hS ?_
    simp only [lgT, lgZ, lgS, Act.put, lsT, lsZ, lsS]
    refine wpAnyH_take (i := 2) (v := .int .i64 (P : Int)) rfl (by kernel_rfl) (by kernel_rfl) (by kernel_rfl) (fun _ _ _ h => h) (Or.inl ⟨by simp [Region.wanted], fun W' _ => by go_simp⟩) hS ?_
    simp only [lgT, lgZ, lgS, Act.put, lsT, lsZ, lsS]
    refine wpAnyH_take (i := 3) (v := .slice a1 P rc) rfl (by kernel_rfl) (by kernel_rfl) (by kernel_rfl) (fun _ _ _ h => h) (Or.inl ⟨by simp [Region.wanted], fun W' _ => by rw [← HSL.out]; go_simp⟩) hS ?_
    simp only [lgT, lgZ, lgS, Act.put, lsT, lsZ, lsS]
    refine wpAnyH_ready (rs := [4]) (by kernel_rfl) (by simp) ?_
    refine AllReadyH.cons rfl (fun K1 hK1 => ?_) AllReadyH.nil
    refine wanted_go rfl ?_
    simp only [lgT, lgZ, lgS]
    go_wp2_with (go_at_call 46; refine HAL.out.mono ?_; rintro e w4 ⟨ht4, hcase⟩; obtain ⟨bb, he, hcs2⟩ := bool_of hcase; clear hcase; subst he; have HCS4 := Lib.hid hcs2; have HT3 := Lib.hid ht4; clear hcs2 ht4)
    refine hK1.out _ _ ((TurnsK.refl _ _).drew.trans HT3.out) (fun hS4 => ?_)
    refine wpAnyH_take (i := 5) (v := .bool (!bb)) rfl (by kernel_rfl) (by kernel_rfl) (by kernel_rfl) (fun _ _ _ h => h) (Or.inl ⟨by simp [Region.wanted], fun W' _ => by go_simp⟩) hS4 ?_
    simp only [lgT, lgZ, lgS, Act.put, lsT, lsZ, lsS]
    refine wpAnyH_done (by kernel_rfl) ?_ _
    have HT4 := Lib.hid (show TurnsK (TLR l R) W2 w4 from (TurnsK.below HB3W.out).trans hS4)
    clear hS4
    rcases HCS4.out with ⟨rfl, hj4⟩ | ⟨rfl, zs4, hj4⟩
    · have hf4 : ∀ {ts}, NoT ts R → NoT ts (TLR l R) := fun h => h.tlr l
      have HBS4 := Lib.hid (HBS3.out.turn' (hf4 (HRR.out.sub (by simp))) hj4 HT3.out)
      have HB04 := Lib.hid ((hf4 (HRR.out.sub (by simp : ∀ t ∈ [58], t ∈ _))).at HT3.out HB03.out (List.mem_singleton.2 rfl))
      have HX4 := Lib.hid (HX3.out.turn (hf4 (HRR.out.sub (by simp))) HT3.out)
      clear hj4 HT3 HBS3 HB03 HX3 HBX3 HAL3
      cases fo with
      | false =>
        have hrk4 := HBS4.out.2.2.1.sl
        obtain ⟨ra0, rc0, hv0, hrk0, hcp0⟩ := hrk4
        have hq0 : ra = ra0 ∧ rc = rc0 := by simpa using hv0
        rw [← hq0.1] at hrk0
        obtain ⟨a2, hsf, hr2, hc2⟩ := rowsK_from hrk0 (n := P) (by rw [List.length_map, HN.out]; omega) (by rw [List.length_map, HN.out]; exact hcap)
        rw [List.length_map, HN.out] at hsf
        rw [← List.map_drop, List.length_map] at hsf hc2
        rw [← List.map_drop] at hr2
        have HSF := Lib.hid hsf
        have hre5 : RestCh w4 (.slice a2 (YR.drop P).length (rc - P)) (YR.drop P) := ⟨⟨a2, _, rfl, hr2, hc2⟩, fun y hy => HBS4.out.2.2.1.ok y (List.mem_of_mem_drop hy)⟩
        clear hrk0 hv0 hq0 hsf hr2 hc2 hcp0
        obtain ⟨m2, hm2⟩ : ∃ m, (YR.drop P).length = m := ⟨_, rfl⟩
        rw [hm2] at HSF hre5
        have hbl := (Below.refl _ w4).alloc (Nat.le_refl _) (.cells #[.int .i64 0, .int .i64 0, .int .i64 0, .slice none 0 0, .slice none 0 0] 59)
        have hx5 := (hbl.block _ HBS4.out.2.1.lt).trans HBS4.out.2.1
        rw [HN.out] at hx5
        have cp1 := cell_of_one hx5
        have fp1 := free_of_blkN hx5 0
        have hT45 : TurnsK (fun k o => k = W.heap.size + 1 ∧ ∃ cs, o = .cells cs 35 (0, 0)) w4 ((w4.alloc (.cells #[.int .i64 0, .int .i64 0, .int .i64 0, .slice none 0 0, .slice none 0 0] 59)).setCell ⟨W.heap.size + 1, 0, none⟩ (.slice a2 m2 (rc - P))) := ((TurnsK.refl _ w4).alloc _).setCell (p := ⟨W.heap.size + 1, 0, none⟩) hx5 ⟨rfl, _, rfl⟩ _
        have hn5 : ∀ ts, 35 ∉ ts → NoT ts (fun k o => k = W.heap.size + 1 ∧ ∃ cs, o = .cells cs 35 (0, 0)) := fun ts ht k cs t fz h => by obtain ⟨_, cs2, h⟩ := h; cases h; exact ht
        have hob : ((w4.alloc (.cells #[.int .i64 0, .int .i64 0, .int .i64 0, .slice none 0 0, .slice none 0 0] 59)).setCell ⟨W.heap.size + 1, 0, none⟩ (.slice a2 m2 (rc - P))).heap[w4.heap.size]? = some (.cells #[.int .i64 0, .int .i64 0, .int .i64 0, .slice none 0 0, .slice none 0 0] 59 (0, 0)) := (heap_setCell_ne _ (by have := HBS4.out.2.1.lt; omega)).trans (heap_alloc_new w4 _)
        have hxx5 : Boxed ((w4.alloc (.cells #[.int .i64 0, .int .i64 0, .int .i64 0, .slice none 0 0, .slice none 0 0] 59)).setCell ⟨W.heap.size + 1, 0, none⟩ (.slice a2 m2 (rc - P))) (W.heap.size + 1) 35 (.slice a2 m2 (rc - P)) := set_blkN hx5 0 _
        obtain ⟨W5, hW5⟩ : ∃ x, ((w4.alloc (.cells #[.int .i64 0, .int .i64 0, .int .i64 0, .slice none 0 0, .slice none 0 0] 59)).setCell ⟨W.heap.size + 1, 0, none⟩ (.slice a2 m2 (rc - P))) = x := ⟨_, rfl⟩
        rw [hW5] at hT45 hob hxx5
        have hj5 := HJ.out _ _ _ HBS4.out.1 (hT45.mono (fun k o h => ⟨by have := h.1; omega, .inr h.2⟩))
        have hb5 := (hn5 [58] (by decide)).at hT45 HB04.out (List.mem_singleton.2 rfl)
        have hy5 := boxed_turn HBS4.out.2.2.2.2.2.1 (hn5 _ (by decide)) hT45
        have ha5 := boxed_turn HBS4.out.2.2.2.2.2.2 (hn5 _ (by decide)) hT45
        have hr5 := hre5.turn (hn5 _ (by decide)) hT45
        have hx0 := HX4.out.turn (hn5 _ (by decide)) hT45
        have d0 : W5.cell? ⟨b0, 0, none⟩ = some (.int .i64 xl) := by rw [cell_of_row _ _ _ _ _ _ hb5]; rfl
        have d1 : W5.cell? ⟨b0, 1, none⟩ = some (.int .i64 xa) := by rw [cell_of_row _ _ _ _ _ _ hb5]; rfl
        have d2 : W5.cell? ⟨b0, 2, none⟩ = some (.int .i64 xb') := by rw [cell_of_row _ _ _ _ _ _ hb5]; rfl
        have d3 : W5.cell? ⟨b0, 3, none⟩ = some (.slice A xv.length C) := by rw [cell_of_row _ _ _ _ _ _ hb5]; rfl
        have q0 : W5.cell? ⟨w4.heap.size, 0, none⟩ = some (.int .i64 0) := by rw [cell_of_row _ _ _ _ _ _ hob]; rfl
        have q1 : W5.cell? ⟨w4.heap.size, 1, none⟩ = some (.int .i64 0) := by rw [cell_of_row _ _ _ _ _ _ hob]; rfl
        have q2 : W5.cell? ⟨w4.heap.size, 2, none⟩ = some (.int .i64 0) := by rw [cell_of_row _ _ _ _ _ _ hob]; rfl
        have q3 : W5.cell? ⟨w4.heap.size, 3, none⟩ = some (.slice none 0 0) := by rw [cell_of_row _ _ _ _ _ _ hob]; rfl
        have q4 : W5.cell? ⟨w4.heap.size, 4, none⟩ = some (.slice none 0 0) := by rw [cell_of_row _ _ _ _ _ _ hob]; rfl
        have cy5 := cell_of_one hy5
        have hst := HRD.out.2
        rw [if_neg (by simp), if_neg (by simp)] at hst
        obtain ⟨fn, tmps, assign, body, hy, hRd⟩ := HY.out _ (some ⟨⟨xl, xa, xb', xv⟩, A, C⟩, none) _ hj5 ⟨⟨_, hst⟩, (fun x hx => by cases hx; exact hx0), (fun y hy => by cases hy)⟩
        replace hy : (Instr.yield l #[.agg #[.int .i64 xl, .int .i64 xa, .int .i64 xb', .slice A xv.length C], .agg #[.int .i64 0, .int .i64 0, .int .i64 0, .slice none 0 0, .slice none 0 0]]).run Tryz.prog W5 = .ok (.round l fn tmps assign body) W5 := hy
        have HST := Lib.hid hst
        have HXX5 := Lib.hid hxx5
        have HY5 := Lib.hid hy5
        have HA5 := Lib.hid ha5
        have HR5 := Lib.hid hr5
        have HT5 := Lib.hid hT45
        have HLE := Lib.hid HBS4.out.2.2.2.1
        have HRI := Lib.hid HBS4.out.2.2.2.2.1
        clear hst hxx5 hy5 ha5 hr5 hT45 hre5 hx5 hob hj5 hb5 hx0 hbl hm2 HBS4 HB04 HX4
        gi_wp2_with ((with_reducible refine atSliceIn (ty := 35) (x := .tmp 35) (lo := some (.tmp 36)) (hi := none) (mx := none) rfl ?_); refine wpListIn_op_run rfl (fun _ _ => trivial) (fun c h => by cases h) (.slice a2 m2 (rc - P)) (by rw [← HSF.out]; go_simp) ?_)
        refine (roundIn_any hRd).mono ?_
        rintro e W6 ⟨⟨rfl, hj6⟩ | ⟨rfl, hjx6⟩, ht6⟩
        · have hT26 : TurnsK (RCh l (W.heap.size + 1) R) W2 W6 := ((HT4.out.mono (fun _ _ h => .inl h)).trans (HT5.out.mono (fun _ _ h => .inr h))).trans (ht6.mono (fun _ _ h => .inl h))
          have hbs6 : BsCh J ROWS FULL l W.heap.size (pre ++ [⟨⟨xl, xa, xb', xv⟩, A, C⟩]) _ _ (YR.drop P) W6 := ⟨hj6, ⟨s, HP2.out, HST.out⟩, boxed_turn HXX5.out (hf4 (HRR.out.sub (by simp))) ht6, HR5.out.turn (hf4 (HRR.out.sub (by simp))) ht6, by have := HLE.out; rw [List.length_drop]; omega, by rw [List.map_drop]; exact HRI.out.sublist (List.drop_sublist _ _), boxed_turn HY5.out (hf4 (HRR.out.sub (by simp))) ht6, boxed_turn HA5.out (hf4 (HRR.out.sub (by simp))) ht6⟩
          have HE6 := Lib.hid (And.intro hT26 hbs6)
          clear hT26 hbs6 hj6 ht6 hy hRd d0 d1 d2 d3 q0 q1 q2 q3 q4 cy5
          gi_wp2
          exact ⟨HE6.out.1, _, _, _, HE6.out.2⟩
        · have HE6 := Lib.hid (And.intro (show TurnsK (RCh l (W.heap.size + 1) R) W2 W6 from ((HT4.out.mono (fun _ _ h => .inl h)).trans (HT5.out.mono (fun _ _ h => .inr h))).trans (ht6.mono (fun _ _ h => .inl h))) hjx6)
          clear hjx6 ht6 hy hRd d0 d1 d2 d3 q0 q1 q2 q3 q4 cy5
          gi_wp2
          exact ⟨HE6.out.1, rfl, _, HE6.out.2⟩
      | true =>
        have hPn := HFO.out rfl
        obtain ⟨y, hy0⟩ : ∃ y, YR[P]? = some y := ⟨YR[P]'(by rw [HN.out]; exact hPn), by simp [HN.out, hPn]⟩
        obtain ⟨⟨yl, ya1, yb1, yv, zv⟩, B, D, E, G⟩ := y
        have HY0 := Lib.hid hy0
        obtain ⟨ra0, rc0, hv0, hrk0, _⟩ := HBS4.out.2.2.1.sl
        obtain ⟨rfl, rfl⟩ : ra = ra0 ∧ rc = rc0 := by simpa using hv0
        obtain ⟨g, off, ha, hcs⟩ := hrk0.at (i := P) (xs := #[.int .i64 yl, .int .i64 ya1, .int .i64 yb1, .slice B yv.length D, .slice E zv.length G].toList) (by rw [List.getElem?_map, hy0]; rfl)
        subst ha
        have hbz := (Below.refl _ w4).alloc (Nat.le_refl _) (.cells #[.int .i64 0, .int .i64 0, .int .i64 0, .slice none 0 0, .slice none 0 0] 59)
        have e0 := hcs _ hbz 0 _ rfl
        have e1 := hcs _ hbz 1 _ rfl
        have e2 := hcs _ hbz 2 _ rfl
        have e3 := hcs _ hbz 3 _ rfl
        have e4 := hcs _ hbz 4 _ rfl
        rw [Nat.add_zero] at e0
        have cz := cell_of_one ((hbz.block _ HBS4.out.2.1.lt).trans HBS4.out.2.1)
        rw [HN.out] at cz
        clear hy0 hv0 hrk0 hcs hbz
        have hrk4 := HBS4.out.2.2.1.sl
        obtain ⟨ra0, rc0, hv0, hrk0, hcp0⟩ := hrk4
        have hq0 : (some ⟨g, off, none⟩) = ra0 ∧ rc = rc0 := by simpa using hv0
        rw [← hq0.1] at hrk0
        obtain ⟨a2, hsf, hr2, hc2⟩ := rowsK_from hrk0 (n := (P + 1)) (by rw [List.length_map, HN.out]; omega) (by rw [List.length_map, HN.out]; exact hcap)
        rw [List.length_map, HN.out] at hsf
        rw [← List.map_drop, List.length_map] at hsf hc2
        rw [← List.map_drop] at hr2
        have HSF := Lib.hid hsf
        have hre5 : RestCh w4 (.slice a2 (YR.drop (P + 1)).length (rc - (P + 1))) (YR.drop (P + 1)) := ⟨⟨a2, _, rfl, hr2, hc2⟩, fun y hy => HBS4.out.2.2.1.ok y (List.mem_of_mem_drop hy)⟩
        clear hrk0 hv0 hq0 hsf hr2 hc2 hcp0
        obtain ⟨m2, hm2⟩ : ∃ m, (YR.drop (P + 1)).length = m := ⟨_, rfl⟩
        rw [hm2] at HSF hre5
        have hbl := (Below.refl _ w4).alloc (Nat.le_refl _) (.cells #[.int .i64 yl, .int .i64 ya1, .int .i64 yb1, .slice B yv.length D, .slice E zv.length G] 59)
        have hx5 := (hbl.block _ HBS4.out.2.1.lt).trans HBS4.out.2.1
        rw [HN.out] at hx5
        have cp1 := cell_of_one hx5
        have fp1 := free_of_blkN hx5 0
        have hT45 : TurnsK (fun k o => k = W.heap.size + 1 ∧ ∃ cs, o = .cells cs 35 (0, 0)) w4 ((w4.alloc (.cells #[.int .i64 yl, .int .i64 ya1, .int .i64 yb1, .slice B yv.length D, .slice E zv.length G] 59)).setCell ⟨W.heap.size + 1, 0, none⟩ (.slice a2 m2 (rc - (P + 1)))) := ((TurnsK.refl _ w4).alloc _).setCell (p := ⟨W.heap.size + 1, 0, none⟩) hx5 ⟨rfl, _, rfl⟩ _
        have hn5 : ∀ ts, 35 ∉ ts → NoT ts (fun k o => k = W.heap.size + 1 ∧ ∃ cs, o = .cells cs 35 (0, 0)) := fun ts ht k cs t fz h => by obtain ⟨_, cs2, h⟩ := h; cases h; exact ht
        have hob : ((w4.alloc (.cells #[.int .i64 yl, .int .i64 ya1, .int .i64 yb1, .slice B yv.length D, .slice E zv.length G] 59)).setCell ⟨W.heap.size + 1, 0, none⟩ (.slice a2 m2 (rc - (P + 1)))).heap[w4.heap.size]? = some (.cells #[.int .i64 yl, .int .i64 ya1, .int .i64 yb1, .slice B yv.length D, .slice E zv.length G] 59 (0, 0)) := (heap_setCell_ne _ (by have := HBS4.out.2.1.lt; omega)).trans (heap_alloc_new w4 _)
        have hxx5 : Boxed ((w4.alloc (.cells #[.int .i64 yl, .int .i64 ya1, .int .i64 yb1, .slice B yv.length D, .slice E zv.length G] 59)).setCell ⟨W.heap.size + 1, 0, none⟩ (.slice a2 m2 (rc - (P + 1)))) (W.heap.size + 1) 35 (.slice a2 m2 (rc - (P + 1))) := set_blkN hx5 0 _
        obtain ⟨W5, hW5⟩ : ∃ x, ((w4.alloc (.cells #[.int .i64 yl, .int .i64 ya1, .int .i64 yb1, .slice B yv.length D, .slice E zv.length G] 59)).setCell ⟨W.heap.size + 1, 0, none⟩ (.slice a2 m2 (rc - (P + 1)))) = x := ⟨_, rfl⟩
        rw [hW5] at hT45 hob hxx5
        have hj5 := HJ.out _ _ _ HBS4.out.1 (hT45.mono (fun k o h => ⟨by have := h.1; omega, .inr h.2⟩))
        have hb5 := (hn5 [58] (by decide)).at hT45 HB04.out (List.mem_singleton.2 rfl)
        have hy5 := boxed_turn HBS4.out.2.2.2.2.2.1 (hn5 _ (by decide)) hT45
        have ha5 := boxed_turn HBS4.out.2.2.2.2.2.2 (hn5 _ (by decide)) hT45
        have hr5 := hre5.turn (hn5 _ (by decide)) hT45
        have hx0 := HX4.out.turn (hn5 _ (by decide)) hT45
        have d0 : W5.cell? ⟨b0, 0, none⟩ = some (.int .i64 xl) := by rw [cell_of_row _ _ _ _ _ _ hb5]; rfl
        have d1 : W5.cell? ⟨b0, 1, none⟩ = some (.int .i64 xa) := by rw [cell_of_row _ _ _ _ _ _ hb5]; rfl
        have d2 : W5.cell? ⟨b0, 2, none⟩ = some (.int .i64 xb') := by rw [cell_of_row _ _ _ _ _ _ hb5]; rfl
        have d3 : W5.cell? ⟨b0, 3, none⟩ = some (.slice A xv.length C) := by rw [cell_of_row _ _ _ _ _ _ hb5]; rfl
        have q0 : W5.cell? ⟨w4.heap.size, 0, none⟩ = some (.int .i64 yl) := by rw [cell_of_row _ _ _ _ _ _ hob]; rfl
        have q1 : W5.cell? ⟨w4.heap.size, 1, none⟩ = some (.int .i64 ya1) := by rw [cell_of_row _ _ _ _ _ _ hob]; rfl
        have q2 : W5.cell? ⟨w4.heap.size, 2, none⟩ = some (.int .i64 yb1) := by rw [cell_of_row _ _ _ _ _ _ hob]; rfl
        have q3 : W5.cell? ⟨w4.heap.size, 3, none⟩ = some (.slice B yv.length D) := by rw [cell_of_row _ _ _ _ _ _ hob]; rfl
        have q4 : W5.cell? ⟨w4.heap.size, 4, none⟩ = some (.slice E zv.length G) := by rw [cell_of_row _ _ _ _ _ _ hob]; rfl
        have cy5 := cell_of_one hy5
        have hst := HRD.out.2
        rw [if_pos rfl, HY0.out, if_pos rfl] at hst
        obtain ⟨fn, tmps, assign, body, hy, hRd⟩ := HY.out _ (some ⟨⟨xl, xa, xb', xv⟩, A, C⟩, some ⟨⟨yl, ya1, yb1, yv, zv⟩, B, D, E, G⟩) _ hj5 ⟨⟨_, hst⟩, (fun x hx => by cases hx; exact hx0), (fun y hy => by cases hy; exact ((HBS4.out.2.2.1.ok _ (List.mem_of_getElem? HY0.out)).turn (hn5 _ (by decide)) hT45))⟩
        replace hy : (Instr.yield l #[.agg #[.int .i64 xl, .int .i64 xa, .int .i64 xb', .slice A xv.length C], .agg #[.int .i64 yl, .int .i64 ya1, .int .i64 yb1, .slice B yv.length D, .slice E zv.length G]]).run Tryz.prog W5 = .ok (.round l fn tmps assign body) W5 := hy
        have HST := Lib.hid hst
        have HXX5 := Lib.hid hxx5
        have HY5 := Lib.hid hy5
        have HA5 := Lib.hid ha5
        have HR5 := Lib.hid hr5
        have HT5 := Lib.hid hT45
        have HLE := Lib.hid HBS4.out.2.2.2.1
        have HRI := Lib.hid HBS4.out.2.2.2.2.1
        clear hst hxx5 hy5 ha5 hr5 hT45 hre5 hx5 hob hj5 hb5 hx0 hbl hm2 HBS4 HB04 HX4
        have hq1 : (P : Int) + 1 ≤ (n : Int) := by omega
        have hq2 : ((P : Int) + 1).toNat = P + 1 := by omega
        have hq3 : (0 : Int) ≤ (P : Int) + 1 := by omega
        have hq4 : (P : Int) < (n : Int) := by omega
        gi_wp2_with ((with_reducible refine atSliceIn (ty := 35) (x := .tmp 35) (lo := some (.tmp 36)) (hi := none) (mx := none) rfl ?_); refine wpListIn_op_run rfl (fun _ _ => trivial) (fun c h => by cases h) (.slice a2 m2 (rc - (P + 1))) (by rw [← HSF.out]; go_simp) ?_)
        refine (roundIn_any hRd).mono ?_
        rintro e W6 ⟨⟨rfl, hj6⟩ | ⟨rfl, hjx6⟩, ht6⟩
        · have hT26 : TurnsK (RCh l (W.heap.size + 1) R) W2 W6 := ((HT4.out.mono (fun _ _ h => .inl h)).trans (HT5.out.mono (fun _ _ h => .inr h))).trans (ht6.mono (fun _ _ h => .inl h))
          have hbs6 : BsCh J ROWS FULL l W.heap.size (pre ++ [⟨⟨xl, xa, xb', xv⟩, A, C⟩]) _ _ (YR.drop (P + 1)) W6 := ⟨hj6, ⟨s, HP2.out, HST.out⟩, boxed_turn HXX5.out (hf4 (HRR.out.sub (by simp))) ht6, HR5.out.turn (hf4 (HRR.out.sub (by simp))) ht6, by have := HLE.out; rw [List.length_drop]; omega, by rw [List.map_drop]; exact HRI.out.sublist (List.drop_sublist _ _), boxed_turn HY5.out (hf4 (HRR.out.sub (by simp))) ht6, boxed_turn HA5.out (hf4 (HRR.out.sub (by simp))) ht6⟩
          have HE6 := Lib.hid (And.intro hT26 hbs6)
          clear hT26 hbs6 hj6 ht6 hy hRd d0 d1 d2 d3 q0 q1 q2 q3 q4 cy5
          gi_wp2
          exact ⟨HE6.out.1, _, _, _, HE6.out.2⟩
        · have HE6 := Lib.hid (And.intro (show TurnsK (RCh l (W.heap.size + 1) R) W2 W6 from ((HT4.out.mono (fun _ _ h => .inl h)).trans (HT5.out.mono (fun _ _ h => .inr h))).trans (ht6.mono (fun _ _ h => .inl h))) hjx6)
          clear hjx6 ht6 hy hRd d0 d1 d2 d3 q0 q1 q2 q3 q4 cy5
          gi_wp2
          exact ⟨HE6.out.1, rfl, _, HE6.out.2⟩
    · have HJ4 := Lib.hid hj4
      clear hj4
      gi_wp2
      exact ⟨HT4.out.mono (fun _ _ h => .inl h), rfl, zs4, HJ4.out⟩
  case done =>
    rintro D pre W5 hD hf ⟨zs, v, YR, hbs⟩ hK
    obtain ⟨ra, rc, hv, hrk, hcap⟩ := hbs.re.sl
    subst hv
    have hst : (zs ++ YR.map soleSCh).map plainCh = FULL := by
      obtain ⟨xs, e1, e2⟩ := hbs.st
      rw [hf] at e1
      have e3 : xs = [] := List.append_cancel_left (e1.trans (List.append_nil _).symm)
      subst e3
      rw [← e2, List.map_append, besideS, List.map_map, List.map_map]
      rfl
    have hal := aloneCh l R (HRR.out.sub (by simp)) FULL J Jx (HJ.out.mono (fun _ _ a => a.elim)) HY.out W5 ra rc YR hrk hbs.re.ok hbs.le W.heap.size hbs.yb zs ⟨[], by rw [List.append_nil]; exact hst⟩ hbs.j
    have cp1 := cell_of_one hbs.bx
    have cp2 := cell_of_one hbs.al
    have HKD := Lib.hid (fun (W6 : World) (ht : TurnsK (TLR l R) W5 W6) => ht.block _ _ hK (fun a => by rcases a with ⟨a, _⟩ | a; omega; have := HRC.out _ _ a; cases this))
    have HAL := Lib.hid hal
    have HST := Lib.hid hst
    have HDD := Lib.hid hD
    clear hbs hf hK hal hst hrk hcap hD
    gi_wp2_with (refine ⟨trivial, ?_⟩; gi_at_call 46; refine (callsIn_wide.2 HAL.out).mono ?_; rintro e w6 ⟨ht6, hcase⟩; obtain ⟨bb, he, hcs2⟩ := bool_of hcase; clear hcase; subst he; have HCS6 := Lib.hid hcs2; have HT6 := Lib.hid ht6; clear hcs2 ht6)
    have hkd := HKD.out _ HT6.out
    refine ⟨by simp, .inl ⟨_, _, rfl, run_takeDeferred hkd, ?_⟩⟩
    have hput : TurnsK (fun k o => W.heap.size ≤ k ∧ KCh o) w6 (w6.putObj D (.deferred none)) := (TurnsK.refl _ _).putObj hkd ⟨by have := HDD.out; omega, .inl rfl⟩ _
    refine ⟨_, results_none rfl _ _ _, ⟨_, rfl⟩, ?_⟩
    rcases HCS6.out with ⟨_, hj⟩ | ⟨_, zs2, hj⟩
    · exact .inl ⟨_, HST.out, HJ.out _ _ _ hj hput⟩
    · exact .inr ⟨zs2, HJX.out _ _ _ hj hput⟩
  case stop =>
    rintro D c pre W5 hD ⟨rfl, zs, hj⟩ hK
    have hput : TurnsK (fun k o => W.heap.size ≤ k ∧ KCh o) W5 (W5.putObj D (.deferred none)) := (TurnsK.refl _ _).putObj hK ⟨by omega, .inl rfl⟩ _
    have HJ6 := Lib.hid (HJX.out _ _ _ hj hput)
    have HKD := Lib.hid hK
    clear hj hput hK
    gi_wp2
    refine ⟨by simp, .inl ⟨_, _, rfl, run_takeDeferred HKD.out, ?_⟩⟩
    exact ⟨_, results_none rfl _ _ _, ⟨_, rfl⟩, .inr ⟨zs, HJ6.out⟩⟩
end Go.Proofs.YtellifcjamedkaaGreat
