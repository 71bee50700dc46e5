/- What the walks of the document's set want. The document's set of a count: the contract. -/
import Derived.Test.YtellifcjamedkaaGreatDfRef6
import Derived.Test.YtellifcjamedkaaGreatMPt
import Derived.Test.YtellifcjamedkaaGreatDpLay
import Derived.Test.YtellifcjamedkaaGreatMRg
import Derived.Test.YtellifcjamedkaaGreatMRh
import Derived.Test.YtellifcjamedkaaGreatMDq
namespace Go.Proofs.YtellifcjamedkaaGreat
open Go.RowKit Base Base2
/-- Rows of things lie in no book's box. -/
theorem rows_no_box {k g : Nat} {W : World} {a : Option Addr} {l : List Item} {v : Slots} {b : BookT} (h : RowsOf k W a l) (hk : 2 ≤ k) (hl : ∀ x ∈ l, x.length = k) (hg : W.heap[g]? = some (.cells (cellsB v b) 27 (0, 0))) : l = [] ∨ ∃ q off, a = some ⟨q, off, none⟩ ∧ q ≠ g := by
  rcases h with h | ⟨q, off, rfl, hlt, hc⟩
  · exact .inl h
  · by_cases hq : q = g
    · subst hq
      cases l with
      | nil => exact .inl rfl
      | cons x l =>
        exfalso
        have hx := hl x (List.mem_cons_self ..)
        obtain ⟨z0, h0⟩ : ∃ z, x[0]? = some z := ⟨x[0]'(by omega), by simp [show 0 < x.length by omega]⟩
        obtain ⟨z1, h1⟩ : ∃ z, x[1]? = some z := ⟨x[1]'(by omega), by simp [show 1 < x.length by omega]⟩
        have c0 := hc 0 x rfl 0 z0 h0
        have c1 := hc 0 x rfl 1 z1 h1
        rw [cell_of_row _ _ _ _ _ _ hg] at c0 c1
        simp only [Nat.zero_mul, Nat.add_zero] at c0 c1
        unfold cellsB at c0 c1
        match off, c0, c1 with
        | 0, c0, _ => simp at c0
        | 1, c0, _ => simp at c0
        | 2, c0, _ => simp at c0
        | 3, c0, _ => simp at c0
        | 4, _, c1 => simp at c1
        | n + 5, c0, _ => simp at c0
    · exact .inr ⟨q, off, rfl, hq⟩
theorem rows_but {k g : Nat} {W W' : World} {a : Option Addr} {l : List Item} {v : Slots} {b : BookT} (h : RowsOf k W a l) (hk : 2 ≤ k) (hl : ∀ x ∈ l, x.length = k) (hg : W.heap[g]? = some (.cells (cellsB v b) 27 (0, 0))) (hs : W.heap.size ≤ W'.heap.size) (hf : ∀ i, i ≠ g → i < W.heap.size → W'.heap[i]? = W.heap[i]?) : RowsOf k W' a l := by
  rcases rows_no_box h hk hl hg with h0 | ⟨q, off, hq, hne⟩
  · exact .inl h0
  · rcases h with h | ⟨q', off', hq', hlt, hc⟩
    · exact .inl h
    · rw [hq] at hq'
      obtain ⟨rfl, rfl⟩ : q = q' ∧ off = off' := by simpa using hq'
      exact .inr ⟨q, off, hq, Nat.lt_of_lt_of_le hlt hs, fun i x hi j z hz => (World.cell?_of_block (a := ⟨q, off + i * k + j, none⟩) (hf q hne hlt)).trans (hc i x hi j z hz)⟩
theorem len_ok {m : Nat} {b : BookT} (hk : BookOk m b) : LenB b := ⟨fun x hx => (hk.hs.2 x hx).1, fun x hx => (hk.ss.2 x hx).1, fun x hx => (hk.os.2 x hx).1, fun x hx => (hk.rs.2 x hx).1⟩
theorem book_but {g : Nat} {W W' : World} {v u : Slots} {b d : BookT} (h : BookIn W v b) (hk : LenB b) (hg : W.heap[g]? = some (.cells (cellsB u d) 27 (0, 0))) (hs : W.heap.size ≤ W'.heap.size) (hf : ∀ i, i ≠ g → i < W.heap.size → W'.heap[i]? = W.heap[i]?) : BookIn W' v b :=
  ⟨rows_but h.hs (by omega) hk.h hg hs hf, rows_but h.ss (by omega) hk.s hg hs hf, rows_but h.os (by omega) hk.o hg hs hf, rows_but h.rs (by omega) hk.r hg hs hf⟩
def zeroV : Slots := ⟨none, none, none, none, 0, 0, 0, 0⟩
/-- The end: the book's box is copied into the answer's. -/
theorem set_end {w W : World} {v' : Slots} {b' : BookT} (hlo : Below w.heap.size w W) (hin : BookIn W v' b') (hk : LenB b') (hr : W.heap[w.heap.size + 2]? = some (.cells #[.slice none 0 0, .slice none 0 0, .slice none 0 0, .slice none 0 0, .int .i64 0] 27 (0, 0))) :
    (W.setRow (w.heap.size + 2) (cellsB v' b')).heap[w.heap.size + 2]? = some (.cells (cellsB v' b') 27 (0, 0)) ∧ BookAns w b' (.returned (.agg (cellsB v' b'))) (W.setRow (w.heap.size + 2) (cellsB v' b')) :=
  ⟨setRow_heap _ _ _ _ _ _ hr, ⟨⟨v', rfl, book_but hin hk (v := v') (u := zeroV) (d := zeroD) (hr : W.heap[w.heap.size + 2]? = some (.cells (cellsB zeroV zeroD) 27 (0, 0))) (by simp) (fun i hi _ => setRow_ne _ hi)⟩, hlo.trans (((TurnsK.refl (fun k _ => k = w.heap.size + 2) W).setRow hr rfl _).lo hlo.size (fun k ob hk a => by omega))⟩⟩
/-- All but one block lies as it lay. -/
structure FrX (g : Nat) (W W' : World) : Prop where
  size : W.heap.size ≤ W'.heap.size
  same : ∀ (k : Nat) (o : Obj), k ≠ g → W.heap[k]? = some o → W'.heap[k]? = some o
theorem FrX.refl (g : Nat) (W : World) : FrX g W W := ⟨Nat.le_refl _, fun _ _ _ h => h⟩
theorem FrX.trans {g : Nat} {A B C : World} (h : FrX g A B) (k : FrX g B C) : FrX g A C := ⟨Nat.le_trans h.size k.size, fun i o hi ho => k.same i o hi (h.same i o hi ho)⟩
theorem FrX.below {g : Nat} {W W' : World} (h : Below W.heap.size W W') : FrX g W W' := ⟨h.size, fun k _ _ ho => (h.block k (lt_of_blk ho)).trans ho⟩
theorem FrX.row {g : Nat} {W : World} (cs : Array Value) : FrX g W (W.setRow g cs) := ⟨by simp, fun k _ hk ho => (setRow_ne _ hk).trans ho⟩
theorem FrX.cell {g i : Nat} {W : World} (u : Value) : FrX g W (W.setCell ⟨g, i, none⟩ u) := ⟨by simp [World.setCell], fun k _ hk ho => (Below.heap_setCell _ _ _ k hk).trans ho⟩
/-- How the document's set stands: the book's box, the change's, the answer's. -/
structure SetS (w : World) (xc : Array Value) (v : Slots) (b : BookT) (W : World) : Prop where
  bx : BoxB W w.heap.size v b
  ch : W.heap[w.heap.size + 1]? = some (.cells xc 43 (0, 0))
  rz : W.heap[w.heap.size + 2]? = some (.cells #[.slice none 0 0, .slice none 0 0, .slice none 0 0, .slice none 0 0, .int .i64 0] 27 (0, 0))
  lo : Below w.heap.size w W
  inn : BookIn W v b
theorem SetS.below {w W W' : World} {xc : Array Value} {v : Slots} {b : BookT} (h : SetS w xc v b W) (hb : Below W.heap.size W W') : SetS w xc v b W' :=
  ⟨(hb.block _ (lt_of_blk h.bx)).trans h.bx, (hb.block _ (lt_of_blk h.ch)).trans h.ch, (hb.block _ (lt_of_blk h.rz)).trans h.rz, h.lo.trans (hb.mono h.lo.size), h.inn.below hb⟩
/-- Another book is put in the box. -/
theorem SetS.put {w W : World} {xc : Array Value} {v v' : Slots} {b b' : BookT} (h : SetS w xc v b W) (hi : BookIn W v' b') (hk : LenB b') : SetS w xc v' b' (W.setRow w.heap.size (cellsB v' b')) :=
  ⟨setRow_heap _ _ _ _ _ _ h.bx, (setRow_ne _ (by omega)).trans h.ch, (setRow_ne _ (by omega)).trans h.rz, h.lo.trans (((TurnsK.refl (fun k _ => k = w.heap.size) W).setRow h.bx rfl _).lo h.lo.size (fun k ob hk a => by omega)), book_but hi hk h.bx (by simp) (fun i hi _ => setRow_ne _ hi)⟩
theorem SetS.cell {w W : World} {xc : Array Value} {v v' : Slots} {b b' : BookT} {i : Nat} {u : Value} (h : SetS w xc v b W) (hi : BookIn W v' b') (hk : LenB b') (hc : (cellsB v b).setIfInBounds i u = cellsB v' b') : SetS w xc v' b' (W.setCell ⟨w.heap.size, i, none⟩ u) :=
  ⟨by unfold BoxB; rw [set_blkN h.bx, hc], (Below.heap_setCell _ _ _ _ (by show w.heap.size + 1 ≠ w.heap.size; omega)).trans h.ch, (Below.heap_setCell _ _ _ _ (by show w.heap.size + 2 ≠ w.heap.size; omega)).trans h.rz, h.lo.setCell (p := ⟨w.heap.size, i, none⟩) (Nat.le_refl _) _, book_but hi hk h.bx (by simp [World.setCell]) (fun j hj _ => Below.heap_setCell _ _ _ j hj)⟩
theorem ItemsOk.le {k m n : Nat} {l : List Item} (h : ItemsOk k m l) (hm : m ≤ n) : ItemsOk k n l := ⟨Nat.le_trans h.1 hm, h.2⟩
theorem in_co {W : World} {v : Slots} {b : BookT} {n : Int} (h : BookIn W v b) : BookIn W v { b with co := n } := ⟨h.hs, h.ss, h.os, h.rs⟩
theorem len_co {b : BookT} {n : Int} (h : LenB b) : LenB { b with co := n } := ⟨h.h, h.s, h.o, h.r⟩
theorem len_set {k : Nat} {ge eq : Item → Bool} {x : Item} {d : Bool} {l : List Item} (h : ∀ y ∈ l, y.length = k) (hx : x.length = k) : ∀ y ∈ setL ge eq x d l, y.length = k := fun y hy => by
  rcases (setL_len ge eq x d l).2 y hy with rfl | hy
  · exact hx
  · exact h y hy
theorem len_holder {b : BookT} {x : Item} (h : LenB b) (hx : x.length = 4) : LenB (setHolderT b x) := ⟨len_set h.h hx, h.s, h.o, h.r⟩
theorem len_stake {b : BookT} {x : Item} (h : LenB b) (hx : x.length = 3) : LenB (setStakeT b x) := ⟨h.h, len_set h.s hx, h.o, h.r⟩
theorem len_open {b : BookT} {x : Item} (h : LenB b) (hx : x.length = 6) : LenB (setOpenT b x) := ⟨h.h, h.s, len_set h.o hx, h.r⟩
theorem len_rate {b : BookT} {x : Item} (h : LenB b) (hx : x.length = 2) : LenB (setRateT b x) := ⟨h.h, h.s, h.o, len_set h.r hx⟩
theorem atLoadS {P : Program} {ops : Array Oper} {rest : List Oper} {o : Oper} {a : Act} {w : World} {Q : Exit → Act → World → Prop} {ty : TypeId} {x : Operand} (_ : o.op = .load ty x) (h : wpList P ops Q (o :: rest) a w) : wpList P ops Q (o :: rest) a w := h
theorem i64_cells {W : World} {a : Option Addr} {v : List Int} (h : I64s W a v) (hne : v ≠ []) : ∃ k off, a = some ⟨k, off, none⟩ ∧ k < W.heap.size ∧ ∀ W', Below W.heap.size W W' → ∀ (i : Nat) (z : Int), v[i]? = some z → W'.cell? ⟨k, off + i, none⟩ = some (.int .i64 z) := by
  rcases h with h | ⟨k, off, h1, h2, h3⟩
  · exact absurd h hne
  · exact ⟨k, off, h1, h2, fun W' hb i z hz => (World.cell?_of_block (a := ⟨k, off + i, none⟩) (hb.block k h2)).trans (h3 i z hz)⟩
theorem FrX.cellX {g q j : Nat} {W W' : World} (h : FrX g W W') (hq : q ≠ g) (hl : q < W.heap.size) : W'.cell? ⟨q, j, none⟩ = W.cell? ⟨q, j, none⟩ :=
  World.cell?_of_block (a := ⟨q, j, none⟩) (by show W'.heap[q]? = W.heap[q]?; rw [h.same q (W.heap[q]) hq (by simp [hl])]; simp [hl])
end Go.Proofs.YtellifcjamedkaaGreat
namespace Go.Proofs.YtellifcjamedkaaGreat
open Go.RowKit Base Base2
set_option maxRecDepth 100000 in
set_option maxHeartbeats 16000000 in
theorem set_5 (v : Slots) (b : BookT) (A1 A2 : Option Addr) (C1 C2 nx : Nat) (xa xb : Int) (xv : List Int) (y0 : Int) (w : World) (hb : BookIn w v b) (hk : BookOk 900 b) (hy : I64s w A2 [y0]) :
    Calls Tryz.prog 35 #[.agg (cellsB v b), .agg #[.int .i64 5, .int .i64 xa, .int .i64 xb, .slice A1 nx C1, .slice A2 1 C2]] w (BookAns w (setChT b ⟨5, xa, xb, xv, [y0]⟩)) := by
  obtain ⟨XC, hXC⟩ : ∃ x : Array Value, x = #[.int .i64 5, .int .i64 xa, .int .i64 xb, .slice A1 nx C1, .slice A2 1 C2] := ⟨_, rfl⟩
  obtain ⟨W0, hW0⟩ : ∃ x, ((w.alloc (.cells (cellsB v b) 27)).alloc (.cells #[.int .i64 5, .int .i64 xa, .int .i64 xb, .slice A1 nx C1, .slice A2 1 C2] 43)).alloc (.cells #[.slice none 0 0, .slice none 0 0, .slice none 0 0, .slice none 0 0, .int .i64 0] 27) = x := ⟨_, rfl⟩
  have hA : Below w.heap.size w W0 := by rw [← hW0]; exact (((Below.refl _ w).alloc (Nat.le_refl _) _).alloc (by simp) _).alloc (by simp; omega) _
  have hN := three_new (W := w) (O := .cells (cellsB v b) 27) (P := .cells #[.int .i64 5, .int .i64 xa, .int .i64 xb, .slice A1 nx C1, .slice A2 1 C2] 43) (S := (.cells #[.slice none 0 0, .slice none 0 0, .slice none 0 0, .slice none 0 0, .int .i64 0] 27))
  rw [hW0] at hN
  have HS := Lib.hid (show SetS w XC v b W0 from ⟨hN.1, by rw [hXC]; exact hN.2.1, hN.2.2, hA, hb.below hA⟩)
  have HXC := Lib.hid hXC
  have HK := Lib.hid hk
  have xc := fun (W : World) (h : SetS w XC v b W) (i : Nat) => (cell_of_row _ _ i _ _ _ h.ch).trans (by rw [hXC] : XC[i]? = (#[.int .i64 5, .int .i64 xa, .int .i64 xb, .slice A1 nx C1, .slice A2 1 C2] : Array Value)[i]?)
  have HXX := Lib.hid (fun (v' : Slots) (b' : BookT) (W : World) (h : SetS w XC v' b' W) (i : Nat) => (cell_of_row _ _ i _ _ _ h.ch).trans (by rw [hXC] : XC[i]? = (#[.int .i64 5, .int .i64 xa, .int .i64 xb, .slice A1 nx C1, .slice A2 1 C2] : Array Value)[i]?))
  have b0 := HS.out.bx.cells.1
  have b1 := HS.out.bx.cells.2.1
  have b2 := HS.out.bx.cells.2.2.1
  have b3 := HS.out.bx.cells.2.2.2.1
  have b4 := HS.out.bx.cells.2.2.2.2
  have x0 := xc W0 HS.out 0
  have x1 := xc W0 HS.out 1
  have x2 := xc W0 HS.out 2
  have x4 := xc W0 HS.out 4
  clear xc
  obtain ⟨yg, yo, rfl, hyl, hyc⟩ := i64_cells hy (by simp)
  have HYC := Lib.hid (fun (W : World) (h : Below w.heap.size w W) => hyc W h)
  have z0 := HYC.out W0 HS.out.lo 0 y0 rfl
  rw [Nat.add_zero] at z0
  clear hy hyc hyl
  clear hb hk hXC hA hN
  obtain ⟨CB, hCB⟩ : ∃ x, cellsB v b = x := ⟨_, rfl⟩
  have HCB := Lib.hid hCB
  rw [hCB] at hW0 ⊢
  clear hCB
  by_cases h0 : 0 ≤ b.co
  · have H5 := Lib.hid (HS.out.cell (v' := v) (b' := { b with co := y0 }) (i := 4) (u := .int .i64 y0) (in_co HS.out.inn) (len_co (len_ok HK.out)) (by simp [cellsB]))
    have HF := Lib.hid (show BookAns w (setChT b ⟨5, xa, xb, xv, [y0]⟩) = BookAns w { b with co := y0 } by show BookAns w (if 0 ≤ b.co then { b with co := y0 } else b) = _; rw [if_pos h0])
    rw [HF.out]
    have hfz := free_of_blkN HS.out.bx 4
    have hlk : LenB { b with co := y0 } := len_co (len_ok HK.out)
    go_enter Tryz.func35, Tryz.ntmps35
    go_upto_region 37 with (fail)
    have HLD := Lib.hid (load_book H5.out.bx)
    obtain ⟨e1, e2⟩ := set_end H5.out.lo H5.out.inn hlk H5.out.rz
    have HE1 := Lib.hid e1
    have HE2 := Lib.hid e2
    have HRZ := Lib.hid H5.out.rz
    clear e1 e2
    go_wp2_with (first | ((with_reducible refine atLoadS (ty := 27) (x := .tmp 2) rfl ?_); refine loadE (by rfl) 27 (.tmp 2) rfl _ (.agg (cellsB v { b with co := y0 })) rfl HLD.out ?_) | ((with_reducible refine atStoreP (ty := 27) (x := .tmp 4) (y := .tmp 176) rfl ?_); refine wpList_store_row rfl 27 (.tmp 4) (.tmp 176) rfl (w.heap.size + 2) (cellsB v { b with co := y0 }) rfl rfl 27 _ HRZ.out info27 rfl (by simp [cellsB, Value.oneCell']) ?_))
    refine ret_cell rfl rfl rfl HE1.out Tryz.underlying27 rfl info27 ?_
    exact HE2.out
  · have HF := Lib.hid (show BookAns w (setChT b ⟨5, xa, xb, xv, [y0]⟩) = BookAns w b by show BookAns w (if 0 ≤ b.co then { b with co := y0 } else b) = _; rw [if_neg h0])
    rw [HF.out]
    have hlk := len_ok HK.out
    go_enter Tryz.func35, Tryz.ntmps35
    go_upto_region 37 with (fail)
    have HLD := Lib.hid (load_book HS.out.bx)
    obtain ⟨e1, e2⟩ := set_end HS.out.lo HS.out.inn hlk HS.out.rz
    have HE1 := Lib.hid e1
    have HE2 := Lib.hid e2
    have HRZ := Lib.hid HS.out.rz
    clear e1 e2
    go_wp2_with (first | ((with_reducible refine atLoadS (ty := 27) (x := .tmp 2) rfl ?_); refine loadE (by rfl) 27 (.tmp 2) rfl _ (.agg (cellsB v b)) rfl HLD.out ?_) | ((with_reducible refine atStoreP (ty := 27) (x := .tmp 4) (y := .tmp 176) rfl ?_); refine wpList_store_row rfl 27 (.tmp 4) (.tmp 176) rfl (w.heap.size + 2) (cellsB v b) rfl rfl 27 _ HRZ.out info27 rfl (by simp [cellsB, Value.oneCell']) ?_))
    refine ret_cell rfl rfl rfl HE1.out Tryz.underlying27 rfl info27 ?_
    exact HE2.out
end Go.Proofs.YtellifcjamedkaaGreat
