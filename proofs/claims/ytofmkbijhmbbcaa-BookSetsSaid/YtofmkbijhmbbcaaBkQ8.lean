/- The program's sets in a book: contracts. -/
import Derived.Test.YtofmkbijhmbbcaaBkQ7
import Derived.Test.YtofmkbijhmbbcaaBkRef8
namespace Go.Proofs.Ytofmkbijhmbbcaa
open Go.RowKit Base Base2

theorem RowNew.below {base : Nat} {W W' : World} {a : Option Addr} {l : List Item} {k : Nat} (h : RowNew base W a l) (hr : RowsOf k W a l) (hb : Below W.heap.size W W') : RowNew base W' a l := by
  rcases hr with hr | ⟨b, off, rfl, hlt, _⟩
  · exact .inl hr
  · rcases h with h | ⟨b', off', hab, h1, h2⟩
    · exact .inl h
    · obtain ⟨rfl, rfl⟩ : b = b' ∧ off = off' := by simpa using hab
      exact .inr ⟨b, off, rfl, h1, fun i => (World.frozen?_of_block (a := ⟨b, i, none⟩) (hb.block b hlt)).trans (h2 i)⟩
theorem BookNew.below {base : Nat} {W W' : World} {v : Slots} {b : BookT} (h : BookNew base W v b) (hr : BookIn W v b) (hb : Below W.heap.size W W') : BookNew base W' v b :=
  ⟨h.hs.below hr.hs hb, h.ss.below hr.ss hb, h.os.below hr.os hb, h.rs.below hr.rs hb⟩
/-- Rows from a block on, while below it something is written. -/
theorem rows_far {base : Nat} {W W' : World} {a : Option Addr} {l : List Item} {k : Nat} (h : RowNew base W a l) (hr : RowsOf k W a l) (hsz : W.heap.size ≤ W'.heap.size) (hs : ∀ i, base ≤ i → W'.heap[i]? = W.heap[i]?) : RowsOf k W' a l ∧ RowNew base W' a l := by
  rcases hr with hr | ⟨b, off, rfl, hlt, hc⟩
  · exact ⟨.inl hr, .inl hr⟩
  · rcases h with h | ⟨b', off', hab, h1, h2⟩
    · exact ⟨.inl h, .inl h⟩
    · obtain ⟨rfl, rfl⟩ : b = b' ∧ off = off' := by simpa using hab
      exact ⟨.inr ⟨b, off, rfl, Nat.lt_of_lt_of_le hlt hsz, fun i x hi j z hz => (World.cell?_of_block (a := ⟨b, off + i * k + j, none⟩) (hs b h1)).trans (hc i x hi j z hz)⟩,
        .inr ⟨b, off, rfl, h1, fun i => (World.frozen?_of_block (a := ⟨b, i, none⟩) (hs b h1)).trans (h2 i)⟩⟩
theorem book_far {base : Nat} {W W' : World} {v : Slots} {b : BookT} (h : BookNew base W v b) (hr : BookIn W v b) (hsz : W.heap.size ≤ W'.heap.size) (hs : ∀ i, base ≤ i → W'.heap[i]? = W.heap[i]?) : BookIn W' v b ∧ BookNew base W' v b :=
  ⟨⟨(rows_far h.hs hr.hs hsz hs).1, (rows_far h.ss hr.ss hsz hs).1, (rows_far h.os hr.os hsz hs).1, (rows_far h.rs hr.rs hsz hs).1⟩, ⟨(rows_far h.hs hr.hs hsz hs).2, (rows_far h.ss hr.ss hsz hs).2, (rows_far h.os hr.os hsz hs).2, (rows_far h.rs hr.rs hsz hs).2⟩⟩
theorem RowNew.from {base base' : Nat} {W : World} {a : Option Addr} {l : List Item} (h : RowNew base' W a l) (hb : base ≤ base') : RowNew base W a l := by
  rcases h with h | ⟨b, off, rfl, h1, h2⟩
  · exact .inl h
  · exact .inr ⟨b, off, rfl, Nat.le_trans hb h1, h2⟩
theorem BookNew.from {base base' : Nat} {W : World} {v : Slots} {b : BookT} (h : BookNew base' W v b) (hb : base ≤ base') : BookNew base W v b := ⟨h.hs.from hb, h.ss.from hb, h.os.from hb, h.rs.from hb⟩
theorem lt_blkQ {W : World} {g : Nat} {o : Obj} (h : W.heap[g]? = some o) : g < W.heap.size := (Array.getElem?_eq_some_iff.1 h).1
/-- While a set goes on: where the copy's box lies. -/
structure StA (n : Nat) (y : World) (W0 : World) (v : Slots) (b : BookT) (W : World) : Prop where
  lo : Below (n + 3) W0 W
  nm : n + 3 ≤ y.heap.size
  box : BoxB W y.heap.size v b
  old : Below y.heap.size y W
theorem StA.sz {n : Nat} {y W0 W : World} {v : Slots} {b : BookT} (h : StA n y W0 v b W) : y.heap.size < W.heap.size := lt_blkQ h.box
theorem StA.sz3 {n : Nat} {y W0 W : World} {v : Slots} {b : BookT} (h : StA n y W0 v b W) : n + 3 ≤ W.heap.size := by have := h.sz; have := h.nm; omega
theorem StA.below {n : Nat} {y W0 W W' : World} {v : Slots} {b : BookT} (h : StA n y W0 v b W) (hb : Below W.heap.size W W') : StA n y W0 v b W' :=
  ⟨h.lo.trans (hb.mono h.sz3), h.nm, (hb.block _ h.sz).trans h.box, h.old.trans (hb.mono (Nat.le_of_lt h.sz))⟩
/-- And behind it. -/
structure StB (n m : Nat) (W0 : World) (v : Slots) (b : BookT) (W : World) : Prop where
  lo : Below (n + 3) W0 W
  sz : n + 3 ≤ W.heap.size
  box : BoxB W m v b
  bin : BookIn W v b
  new : BookNew (n + 3) W v b

theorem putsetHolder (a : Option Addr) (c : Nat) (L : List Item) (p0 q0 r0 s0 : Int) (ta : Option Addr) (tc : Nat) (d : Bool) (w : World) (hr : RowsOf 4 w a L) (hk : ItemsOk 4 1000 L) (hs : riseL lt1 L = true) (hcap : L.length ≤ c) (hm : RowsOf 4 w ta (if d then [] else [[p0, q0, r0, s0]])) :
    Calls Try.prog 51 #[.slice a L.length c, .int .i64 p0, .func (.func 44) #[] #[], .slice ta (if d then [] else [[p0, q0, r0, s0]] : List Item).length tc] w fun e w' => (∃ a' c', e = .returned (.slice a' (setL (ge1 [p0, q0, r0, s0]) (eq1 [p0, q0, r0, s0]) [p0, q0, r0, s0] d L).length c') ∧ RowsOf 4 w' a' (setL (ge1 [p0, q0, r0, s0]) (eq1 [p0, q0, r0, s0]) [p0, q0, r0, s0] d L) ∧ RowNew w.heap.size w' a' (setL (ge1 [p0, q0, r0, s0]) (eq1 [p0, q0, r0, s0]) [p0, q0, r0, s0] d L) ∧ (setL (ge1 [p0, q0, r0, s0]) (eq1 [p0, q0, r0, s0]) [p0, q0, r0, s0] d L).length ≤ c') ∧ Below w.heap.size w w' := by
  have e := setL_pos (mono1 p0) (fun y => ge1_c [p0, q0, r0, s0] y) (fun y => eq1_c [p0, q0, r0, s0] y) (x := [p0, q0, r0, s0]) d hs
  have hx : (setL (ge1 [p0, q0, r0, s0]) (eq1 [p0, q0, r0, s0]) [p0, q0, r0, s0] d L) = _ := e
  rw [hx]
  have hok : ∀ x ∈ (setL (ge1 [p0, q0, r0, s0]) (eq1 [p0, q0, r0, s0]) [p0, q0, r0, s0] d L), x.length = 4 := fun x h => by
    rcases (setL_len (ge1 [p0, q0, r0, s0]) (eq1 [p0, q0, r0, s0]) [p0, q0, r0, s0] d L).2 x h with rfl | h
    · rfl
    · exact (hk.2 x h).1
  rw [hx] at hok
  refine (putHolder a c L p0 ta tc (if d then [] else [[p0, q0, r0, s0]]) w hr hk hs hcap hm (by cases d <;> simp) (by cases d <;> simp)).mono ?_
  rintro e w' ⟨v, rfl, hown, hb⟩
  obtain ⟨a', c', rfl, q1, q2, q3⟩ := rows_new (by decide) hok hown
  exact ⟨⟨a', c', rfl, q1, q2, q3⟩, hb⟩

theorem StB_Holder {n : Nat} {y W0 W : World} {a0 a1 a2 a3 : Option Addr} {d0 d1 d2 d3 : Nat} {b : BookT} {NL : List Item} {a' : Option Addr} {c' base : Nat} (h : StA n y W0 ⟨a0, a1, a2, a3, d0, d1, d2, d3⟩ b W) (hin : BookIn y ⟨a0, a1, a2, a3, d0, d1, d2, d3⟩ b) (hnw : BookNew (n + 3) y ⟨a0, a1, a2, a3, d0, d1, d2, d3⟩ b)
    (hr : RowsOf 4 W a' NL) (hn : RowNew base W a' NL) (hbs : y.heap.size < base) : StB n y.heap.size W0 ⟨a', a1, a2, a3, c', d1, d2, d3⟩ { b with hs := NL } (W.setCell ⟨y.heap.size, 0, none⟩ (.slice a' NL.length c')) := by
  have hne : ∀ i, base ≤ i → (W.setCell ⟨y.heap.size, 0, none⟩ (.slice a' NL.length c')).heap[i]? = W.heap[i]? := fun i hi => Below.heap_setCell W ⟨y.heap.size, 0, none⟩ _ i (by dsimp only; omega)
  have hold : Below y.heap.size y (W.setCell ⟨y.heap.size, 0, none⟩ (.slice a' NL.length c')) := h.old.setCell (p := ⟨y.heap.size, 0, none⟩) (Nat.le_refl _) _
  obtain ⟨q1, q2⟩ := rows_far hn hr (W' := W.setCell ⟨y.heap.size, 0, none⟩ (.slice a' NL.length c')) (by simp) hne
  have hi2 := hin.below hold
  have hn2 := hnw.below hin hold
  exact ⟨h.lo.setCell (p := ⟨y.heap.size, 0, none⟩) h.nm _, by have := h.sz3; simpa using this, set_blkN h.box 0 _, ⟨q1, hi2.ss, hi2.os, hi2.rs⟩, ⟨q2.from (by have := h.nm; omega), hn2.ss, hn2.os, hn2.rs⟩⟩

set_option maxRecDepth 100000 in
set_option maxHeartbeats 8000000 in
theorem psetHolder (v : Slots) (b : BookT) (p0 q0 r0 s0 : Int) (w : World) (hb : BookIn w v b) (hcp : CapOk v b) (hk : BookOk 1000 b) (hs : riseL lt1 b.hs = true) :
    Calls Try.prog 23 #[.agg (cellsB v b), .agg #[.int .i64 p0, .int .i64 q0, .int .i64 r0, .int .i64 s0]] w (BookOut w (setHolderT b [p0, q0, r0, s0])) := by
  obtain ⟨W0, hW0⟩ : ∃ W, ((w.alloc (.cells (cellsB v b) 27)).alloc (.cells #[.int .i64 p0, .int .i64 q0, .int .i64 r0, .int .i64 s0] 33)).alloc (.cells #[.slice none 0 0, .slice none 0 0, .slice none 0 0, .slice none 0 0, .int .i64 0] 27) = W := ⟨_, rfl⟩
  have hlo : Below w.heap.size w W0 := by rw [← hW0]; exact (((Below.refl _ w).alloc (Nat.le_refl _) _).alloc (by simp) _).alloc (by simp; omega) _
  have hsz : W0.heap.size = w.heap.size + 3 := by rw [← hW0]; simp
  have h3 := three_alloc (w := w) (A := .cells (cellsB v b) 27) (B := .cells #[.int .i64 p0, .int .i64 q0, .int .i64 r0, .int .i64 s0] 33) (C := .cells #[.slice none 0 0, .slice none 0 0, .slice none 0 0, .slice none 0 0, .int .i64 0] 27)
  rw [hW0] at h3
  obtain ⟨hx0, hx1, hx2, _⟩ := h3
  have HCB := Lib.hid (show ∀ W, Below (w.heap.size + 3) W0 W → BoxB W w.heap.size v b from fun W h => (h.block _ (by omega)).trans hx0)
  have HCX := Lib.hid (show ∀ W, Below (w.heap.size + 3) W0 W → ∀ i, W.cell? ⟨w.heap.size + 1, i, none⟩ = (#[.int .i64 p0, .int .i64 q0, .int .i64 r0, .int .i64 s0] : Array Value)[i]? from fun W h i => cell_of_row _ _ _ _ 33 (0, 0) ((h.block _ (by omega)).trans hx1))
  have HX2 := Lib.hid (show ∀ W, Below (w.heap.size + 3) W0 W → W.heap[w.heap.size + 1 + 1]? = some (.cells #[.slice none 0 0, .slice none 0 0, .slice none 0 0, .slice none 0 0, .int .i64 0] 27 (0, 0)) from fun W h => (h.block _ (by omega)).trans hx2)
  have HLO := Lib.hid (show ∀ W, Below (w.heap.size + 3) W0 W → Below w.heap.size w W from fun W h => hlo.trans (h.mono (by omega)))
  have HSZ := Lib.hid hsz
  have HBI := Lib.hid (fun W (h : Below (w.heap.size + 3) W0 W) => hb.below (HLO.out W h))
  have HCO := Lib.hid (fun W (h : Below (w.heap.size + 3) W0 W) => copy13 v b W (HBI.out W h) hk)
  have HX0 := Lib.hid (show ∀ W, Below (w.heap.size + 3) W0 W → W.heap[w.heap.size]? = some (.cells (cellsB v b) 27 (0, 0)) from HCB.out)
  have HPU := Lib.hid (fun W (h : Below (w.heap.size + 3) W0 W) ta tc d hm => putsetHolder v.h v.ch b.hs p0 q0 r0 s0 ta tc d W (HBI.out W h).hs hk.hs hs hcp.hs hm)
  clear hx0 hx1 hx2 hlo hsz hb hs hk
  obtain ⟨POST, hP⟩ : ∃ P, BookOut w (setHolderT b [p0, q0, r0, s0]) = P := ⟨_, rfl⟩
  rw [hP]
  have HPO := Lib.hid hP
  have HRES := Lib.hid (show setHolderT b [p0, q0, r0, s0] = { b with hs := setL (ge1 [p0, q0, r0, s0]) (eq1 [p0, q0, r0, s0]) [p0, q0, r0, s0] false b.hs } from rfl)
  obtain ⟨NL, hNL⟩ : ∃ x, setL (ge1 [p0, q0, r0, s0]) (eq1 [p0, q0, r0, s0]) [p0, q0, r0, s0] false b.hs = x := ⟨_, rfl⟩
  rw [hNL] at HRES
  have HNL := Lib.hid hNL
  clear hNL
  obtain ⟨CB, hCB⟩ : ∃ C, cellsB v b = C := ⟨_, rfl⟩
  have hcz : CB.size = 5 := by rw [← hCB]; rfl
  rw [hCB] at hW0 HX0 HCO ⊢
  have HZ5 := Lib.hid (show (Try.prog.info? 27).map (·.size) = some CB.size by rw [hcz]; exact info27)
  clear hP hCB hcz
  have HW0 := Lib.hid hW0
  go_enter Try.func23, Try.ntmps23
  go_upto_region 2 with (first
    | ((with_reducible refine atStore (ty := 27) (x := .tmp 5) (y := .tmp 7) rfl ?_); refine wpList_store_row rfl 27 (.tmp 5) (.tmp 7) rfl y1.heap.size (cellsB v1 b) rfl rfl 27 #[.slice none 0 0, .slice none 0 0, .slice none 0 0, .slice none 0 0, .int .i64 0] (heap_alloc_new y1 _) info27 rfl (by simp [cellsB, Value.oneCell']) ?_)
    | ((with_reducible refine atLoad (ty := 27) (x := .tmp 2) rfl ?_); refine wpList_load_row rfl 27 (.tmp 2) rfl w.heap.size rfl 27 CB (0, 0) _ (HX0.out W0 (Below.refl _ _)) Try.underlying27 rfl HZ5.out ?_)
    | (go_at_call 13; refine (HCO.out W0 (Below.refl _ _)).mono ?_; rintro e y1 ⟨⟨v1, rfl, hin1, hnew1, hcap1⟩, hb1⟩))
  have hbA : Below y1.heap.size y1 ((y1.alloc (.cells #[.slice none 0 0, .slice none 0 0, .slice none 0 0, .slice none 0 0, .int .i64 0] 27)).setRow y1.heap.size (cellsB v1 b)) := below_rowB ((Below.refl _ _).alloc (Nat.le_refl _) _) (Nat.le_refl _)
  rw [HSZ.out] at hb1 hnew1
  refine at_world (Φ := fun W => StA w.heap.size y1 W0 v1 b W) ⟨hb1.trans (hbA.mono (by have := hb1.size; rw [HSZ.out] at this; exact this)), by have := hb1.size; rw [HSZ.out] at this; exact this, setRow_heap _ _ _ _ _ _ (heap_alloc_new y1 _), hbA⟩ ?_
  have HIN1 := Lib.hid hin1
  have HNW1 := Lib.hid hnew1
  clear hbA hb1 hnew1 hin1 hW0 HCO HX0 HZ5
  rintro W2 hs2
  have HS2 := Lib.hid hs2
  clear hs2
  obtain ⟨a0, a1, a2, a3, d0, d1, d2, d3⟩ := v1
  have HC1 := Lib.hid hcap1
  clear hcap1
  obtain ⟨c0, c1, c2, c3, c4⟩ := (HCB.out _ HS2.out.lo).cells
  have x0 : W2.cell? ⟨w.heap.size + 1, 0, none⟩ = some (.int .i64 p0) := HCX.out _ HS2.out.lo 0
  have x1 : W2.cell? ⟨w.heap.size + 1, 1, none⟩ = some (.int .i64 q0) := HCX.out _ HS2.out.lo 1
  have x2 : W2.cell? ⟨w.heap.size + 1, 2, none⟩ = some (.int .i64 r0) := HCX.out _ HS2.out.lo 2
  have x3 : W2.cell? ⟨w.heap.size + 1, 3, none⟩ = some (.int .i64 s0) := HCX.out _ HS2.out.lo 3
  go_upto_region 3 with (go_at_call 51; refine (HPU.out _ (HS2.out.lo.alloc HS2.out.sz3 _) (some ⟨W2.heap.size, 0, none⟩) 1 false (row_one W2 [p0, q0, r0, s0] 33)).mono ?_; rw [HNL.out]; rintro e y3 ⟨⟨a', c', rfl, hr3, hn3, hc3⟩, hb3⟩; have HS3 := Lib.hid (HS2.out.below (((Below.refl _ _).alloc (Nat.le_refl _) _).trans (hb3.mono (by simp)))); have hfz := free_of_blkN HS3.out.box 0; have hcc := HS3.out.box.c 0; have hy3 : y1.heap.size < _ := Nat.lt_succ_of_lt HS2.out.sz)
  have hsb := StB_Holder (c' := c') HS3.out HIN1.out HNW1.out hr3 hn3 (by rw [World.size_alloc]; exact hy3)
  have HC3 := Lib.hid (show CapOk ⟨a', a1, a2, a3, c', d1, d2, d3⟩ { b with hs := NL } from ⟨hc3, HC1.out.ss, HC1.out.os, HC1.out.rs⟩)
  refine at_world (Φ := fun W => StB w.heap.size y1.heap.size W0 ⟨a', a1, a2, a3, c', d1, d2, d3⟩ { b with hs := NL } W) hsb ?_
  clear hsb hr3 hn3 hy3 hfz hcc x0 x1 x2 x3 c0 c1 c2 c3 c4
  have HNM := Lib.hid HS3.out.nm
  clear HS3 HS2 HIN1 HNW1 HC1
  rintro W4 hs4
  have HS4 := Lib.hid hs4
  have HG4 := Lib.hid (show W4.heap[y1.heap.size]? = some (.cells (cellsB ⟨a', a1, a2, a3, c', d1, d2, d3⟩ { b with hs := NL }) 27 (0, 0)) from HS4.out.box)
  have HG5 := Lib.hid (HX2.out _ HS4.out.lo)
  have HI4 := Lib.hid (show (Try.prog.info? 27).map (·.size) = some (cellsB ⟨a', a1, a2, a3, c', d1, d2, d3⟩ { b with hs := NL }).size from info27)
  clear hs4 HX2 HCX HCB
  have HO1 : (cellsB ⟨a', a1, a2, a3, c', d1, d2, d3⟩ { b with hs := NL }).all (·.oneCell') = true := by simp [cellsB, Value.oneCell']
  obtain ⟨KS, hKS⟩ : ∃ k, cellsB ⟨a', a1, a2, a3, c', d1, d2, d3⟩ { b with hs := NL } = k := ⟨_, rfl⟩
  rw [hKS] at HG4 HI4 HO1
  have HKS := Lib.hid hKS
  clear hKS
  go_wp2_with (first | ((with_reducible refine atStore (ty := 27) (x := .tmp 4) (y := .tmp 16) rfl ?_); refine wpList_store_row rfl 27 (.tmp 4) (.tmp 16) rfl (w.heap.size + 1 + 1) KS rfl rfl 27 #[.slice none 0 0, .slice none 0 0, .slice none 0 0, .slice none 0 0, .int .i64 0] HG5.out HI4.out (by have h := HI4.out; rw [info27] at h; simpa using h) HO1 ?_) | ((with_reducible refine atLoad (ty := 27) (x := .tmp 5) rfl ?_); refine wpList_load_row rfl 27 (.tmp 5) rfl y1.heap.size rfl 27 KS (0, 0) _ HG4.out Try.underlying27 rfl HI4.out ?_))
  refine ret_cell rfl rfl rfl (setRow_heap _ _ _ _ _ _ HG5.out) Try.underlying27 rfl HI4.out ?_
  rw [← HPO.out, HRES.out]
  obtain ⟨hf1, hf2⟩ := book_far HS4.out.new HS4.out.bin (W' := W4.setRow (w.heap.size + 1 + 1) KS) (by simp) (fun i hi => setRow_ne KS (by omega))
  exact ⟨⟨⟨a', a1, a2, a3, c', d1, d2, d3⟩, by rw [HKS.out], hf1, hf2.from (by omega), HC3.out⟩, below_row1 (HLO.out _ HS4.out.lo) (by omega)⟩

theorem putsetStake (a : Option Addr) (c : Nat) (L : List Item) (p0 q0 r0 : Int) (ta : Option Addr) (tc : Nat) (d : Bool) (w : World) (hr : RowsOf 3 w a L) (hk : ItemsOk 3 1000 L) (hs : riseL lt2 L = true) (hcap : L.length ≤ c) (hm : RowsOf 3 w ta (if d then [] else [[p0, q0, r0]])) :
    Calls Try.prog 52 #[.slice a L.length c, .agg #[.int .i64 p0, .int .i64 q0], .func (.func 50) #[] #[], .slice ta (if d then [] else [[p0, q0, r0]] : List Item).length tc] w fun e w' => (∃ a' c', e = .returned (.slice a' (setL (ge2 [p0, q0, r0]) (eq2 [p0, q0, r0]) [p0, q0, r0] d L).length c') ∧ RowsOf 3 w' a' (setL (ge2 [p0, q0, r0]) (eq2 [p0, q0, r0]) [p0, q0, r0] d L) ∧ RowNew w.heap.size w' a' (setL (ge2 [p0, q0, r0]) (eq2 [p0, q0, r0]) [p0, q0, r0] d L) ∧ (setL (ge2 [p0, q0, r0]) (eq2 [p0, q0, r0]) [p0, q0, r0] d L).length ≤ c') ∧ Below w.heap.size w w' := by
  have e := setL_pos (mono2 p0 q0) (fun y => ge2_c [p0, q0, r0] y) (fun y => eq2_c [p0, q0, r0] y) (x := [p0, q0, r0]) d hs
  have hx : (setL (ge2 [p0, q0, r0]) (eq2 [p0, q0, r0]) [p0, q0, r0] d L) = _ := e
  rw [hx]
  have hok : ∀ x ∈ (setL (ge2 [p0, q0, r0]) (eq2 [p0, q0, r0]) [p0, q0, r0] d L), x.length = 3 := fun x h => by
    rcases (setL_len (ge2 [p0, q0, r0]) (eq2 [p0, q0, r0]) [p0, q0, r0] d L).2 x h with rfl | h
    · rfl
    · exact (hk.2 x h).1
  rw [hx] at hok
  refine (putStake a c L p0 q0 ta tc (if d then [] else [[p0, q0, r0]]) w hr hk hs hcap hm (by cases d <;> simp) (by cases d <;> simp)).mono ?_
  rintro e w' ⟨v, rfl, hown, hb⟩
  obtain ⟨a', c', rfl, q1, q2, q3⟩ := rows_new (by decide) hok hown
  exact ⟨⟨a', c', rfl, q1, q2, q3⟩, hb⟩

theorem StB_Stake {n : Nat} {y W0 W : World} {a0 a1 a2 a3 : Option Addr} {d0 d1 d2 d3 : Nat} {b : BookT} {NL : List Item} {a' : Option Addr} {c' base : Nat} (h : StA n y W0 ⟨a0, a1, a2, a3, d0, d1, d2, d3⟩ b W) (hin : BookIn y ⟨a0, a1, a2, a3, d0, d1, d2, d3⟩ b) (hnw : BookNew (n + 3) y ⟨a0, a1, a2, a3, d0, d1, d2, d3⟩ b)
    (hr : RowsOf 3 W a' NL) (hn : RowNew base W a' NL) (hbs : y.heap.size < base) : StB n y.heap.size W0 ⟨a0, a', a2, a3, d0, c', d2, d3⟩ { b with ss := NL } (W.setCell ⟨y.heap.size, 1, none⟩ (.slice a' NL.length c')) := by
  have hne : ∀ i, base ≤ i → (W.setCell ⟨y.heap.size, 1, none⟩ (.slice a' NL.length c')).heap[i]? = W.heap[i]? := fun i hi => Below.heap_setCell W ⟨y.heap.size, 1, none⟩ _ i (by dsimp only; omega)
  have hold : Below y.heap.size y (W.setCell ⟨y.heap.size, 1, none⟩ (.slice a' NL.length c')) := h.old.setCell (p := ⟨y.heap.size, 1, none⟩) (Nat.le_refl _) _
  obtain ⟨q1, q2⟩ := rows_far hn hr (W' := W.setCell ⟨y.heap.size, 1, none⟩ (.slice a' NL.length c')) (by simp) hne
  have hi2 := hin.below hold
  have hn2 := hnw.below hin hold
  exact ⟨h.lo.setCell (p := ⟨y.heap.size, 1, none⟩) h.nm _, by have := h.sz3; simpa using this, set_blkN h.box 1 _, ⟨hi2.hs, q1, hi2.os, hi2.rs⟩, ⟨hn2.hs, q2.from (by have := h.nm; omega), hn2.os, hn2.rs⟩⟩

set_option maxRecDepth 100000 in
set_option maxHeartbeats 8000000 in
theorem psetStake (v : Slots) (b : BookT) (p0 q0 r0 : Int) (w : World) (hb : BookIn w v b) (hcp : CapOk v b) (hk : BookOk 1000 b) (hs : riseL lt2 b.ss = true) :
    Calls Try.prog 24 #[.agg (cellsB v b), .agg #[.int .i64 p0, .int .i64 q0, .int .i64 r0]] w (BookOut w (setStakeT b [p0, q0, r0])) := by
  obtain ⟨W0, hW0⟩ : ∃ W, ((w.alloc (.cells (cellsB v b) 27)).alloc (.cells #[.int .i64 p0, .int .i64 q0, .int .i64 r0] 45)).alloc (.cells #[.slice none 0 0, .slice none 0 0, .slice none 0 0, .slice none 0 0, .int .i64 0] 27) = W := ⟨_, rfl⟩
  have hlo : Below w.heap.size w W0 := by rw [← hW0]; exact (((Below.refl _ w).alloc (Nat.le_refl _) _).alloc (by simp) _).alloc (by simp; omega) _
  have hsz : W0.heap.size = w.heap.size + 3 := by rw [← hW0]; simp
  have h3 := three_alloc (w := w) (A := .cells (cellsB v b) 27) (B := .cells #[.int .i64 p0, .int .i64 q0, .int .i64 r0] 45) (C := .cells #[.slice none 0 0, .slice none 0 0, .slice none 0 0, .slice none 0 0, .int .i64 0] 27)
  rw [hW0] at h3
  obtain ⟨hx0, hx1, hx2, _⟩ := h3
  have HCB := Lib.hid (show ∀ W, Below (w.heap.size + 3) W0 W → BoxB W w.heap.size v b from fun W h => (h.block _ (by omega)).trans hx0)
  have HCX := Lib.hid (show ∀ W, Below (w.heap.size + 3) W0 W → ∀ i, W.cell? ⟨w.heap.size + 1, i, none⟩ = (#[.int .i64 p0, .int .i64 q0, .int .i64 r0] : Array Value)[i]? from fun W h i => cell_of_row _ _ _ _ 45 (0, 0) ((h.block _ (by omega)).trans hx1))
  have HX2 := Lib.hid (show ∀ W, Below (w.heap.size + 3) W0 W → W.heap[w.heap.size + 1 + 1]? = some (.cells #[.slice none 0 0, .slice none 0 0, .slice none 0 0, .slice none 0 0, .int .i64 0] 27 (0, 0)) from fun W h => (h.block _ (by omega)).trans hx2)
  have HLO := Lib.hid (show ∀ W, Below (w.heap.size + 3) W0 W → Below w.heap.size w W from fun W h => hlo.trans (h.mono (by omega)))
  have HSZ := Lib.hid hsz
  have HBI := Lib.hid (fun W (h : Below (w.heap.size + 3) W0 W) => hb.below (HLO.out W h))
  have HCO := Lib.hid (fun W (h : Below (w.heap.size + 3) W0 W) => copy13 v b W (HBI.out W h) hk)
  have HX0 := Lib.hid (show ∀ W, Below (w.heap.size + 3) W0 W → W.heap[w.heap.size]? = some (.cells (cellsB v b) 27 (0, 0)) from HCB.out)
  have HPU := Lib.hid (fun W (h : Below (w.heap.size + 3) W0 W) ta tc d hm => putsetStake v.s v.cs b.ss p0 q0 r0 ta tc d W (HBI.out W h).ss hk.ss hs hcp.ss hm)
  clear hx0 hx1 hx2 hlo hsz hb hs hk
  obtain ⟨POST, hP⟩ : ∃ P, BookOut w (setStakeT b [p0, q0, r0]) = P := ⟨_, rfl⟩
  rw [hP]
  have HPO := Lib.hid hP
  have HRES := Lib.hid (show setStakeT b [p0, q0, r0] = { b with ss := setL (ge2 [p0, q0, r0]) (eq2 [p0, q0, r0]) [p0, q0, r0] (r0 == 0) b.ss } from rfl)
  obtain ⟨NL, hNL⟩ : ∃ x, setL (ge2 [p0, q0, r0]) (eq2 [p0, q0, r0]) [p0, q0, r0] (r0 == 0) b.ss = x := ⟨_, rfl⟩
  rw [hNL] at HRES
  have HNL := Lib.hid hNL
  clear hNL
  obtain ⟨CB, hCB⟩ : ∃ C, cellsB v b = C := ⟨_, rfl⟩
  have hcz : CB.size = 5 := by rw [← hCB]; rfl
  rw [hCB] at hW0 HX0 HCO ⊢
  have HZ5 := Lib.hid (show (Try.prog.info? 27).map (·.size) = some CB.size by rw [hcz]; exact info27)
  clear hP hCB hcz
  have HW0 := Lib.hid hW0
  go_enter Try.func24, Try.ntmps24
  go_upto_region 2 with (first
    | ((with_reducible refine atStore (ty := 27) (x := .tmp 5) (y := .tmp 7) rfl ?_); refine wpList_store_row rfl 27 (.tmp 5) (.tmp 7) rfl y1.heap.size (cellsB v1 b) rfl rfl 27 #[.slice none 0 0, .slice none 0 0, .slice none 0 0, .slice none 0 0, .int .i64 0] (heap_alloc_new y1 _) info27 rfl (by simp [cellsB, Value.oneCell']) ?_)
    | ((with_reducible refine atLoad (ty := 27) (x := .tmp 2) rfl ?_); refine wpList_load_row rfl 27 (.tmp 2) rfl w.heap.size rfl 27 CB (0, 0) _ (HX0.out W0 (Below.refl _ _)) Try.underlying27 rfl HZ5.out ?_)
    | (go_at_call 13; refine (HCO.out W0 (Below.refl _ _)).mono ?_; rintro e y1 ⟨⟨v1, rfl, hin1, hnew1, hcap1⟩, hb1⟩))
  have hbA : Below y1.heap.size y1 ((y1.alloc (.cells #[.slice none 0 0, .slice none 0 0, .slice none 0 0, .slice none 0 0, .int .i64 0] 27)).setRow y1.heap.size (cellsB v1 b)) := below_rowB ((Below.refl _ _).alloc (Nat.le_refl _) _) (Nat.le_refl _)
  rw [HSZ.out] at hb1 hnew1
  refine at_world (Φ := fun W => StA w.heap.size y1 W0 v1 b W) ⟨hb1.trans (hbA.mono (by have := hb1.size; rw [HSZ.out] at this; exact this)), by have := hb1.size; rw [HSZ.out] at this; exact this, setRow_heap _ _ _ _ _ _ (heap_alloc_new y1 _), hbA⟩ ?_
  have HIN1 := Lib.hid hin1
  have HNW1 := Lib.hid hnew1
  clear hbA hb1 hnew1 hin1 hW0 HCO HX0 HZ5
  rintro W2 hs2
  have HS2 := Lib.hid hs2
  clear hs2
  obtain ⟨a0, a1, a2, a3, d0, d1, d2, d3⟩ := v1
  have HC1 := Lib.hid hcap1
  clear hcap1
  obtain ⟨c0, c1, c2, c3, c4⟩ := (HCB.out _ HS2.out.lo).cells
  have x0 : W2.cell? ⟨w.heap.size + 1, 0, none⟩ = some (.int .i64 p0) := HCX.out _ HS2.out.lo 0
  have x1 : W2.cell? ⟨w.heap.size + 1, 1, none⟩ = some (.int .i64 q0) := HCX.out _ HS2.out.lo 1
  have x2 : W2.cell? ⟨w.heap.size + 1, 2, none⟩ = some (.int .i64 r0) := HCX.out _ HS2.out.lo 2
  obtain ⟨ML, hML⟩ : ∃ x : List Item, (if (r0 == 0) then [] else [[p0, q0, r0]]) = x := ⟨_, rfl⟩
  have HLF := Lib.hid (fun W => leftStake p0 q0 r0 r0 W)
  have HPV := Lib.hid (fun W h ta tc => HPU.out W h ta tc (r0 == 0))
  rw [hML] at HLF HPV
  clear hML HPU
  have HSd := Lib.hid (HS2.out.below (below_drewN' (Below.refl _ _) 1))
  refine wp_region_held_drew (S := fun W => Below (w.heap.size + 3) W0 W) (by kernel_rfl) (HSd.out.lo) (fun hS => ?_)
  refine wpAnyH_take (i := 0) (v := .pointer (some ⟨w.heap.size, 1, none⟩)) rfl (by kernel_rfl) (by kernel_rfl) (by kernel_rfl) (fun _ _ _ h => h) (Or.inl ⟨by simp [Region.wanted], fun W _ => by go_simp⟩) hS ?_
  simp only [List.getElem_toArray, List.getElem_cons_zero, Act.put, List.setIfInBounds_toArray, List.set_cons_zero, List.set_cons_succ]
  refine wpAnyH_take (i := 1) (v := .slice v.s b.ss.length v.cs) rfl (by kernel_rfl) (by kernel_rfl) (by kernel_rfl) (fun _ _ _ h => h) (Or.inl ⟨by simp [Region.wanted], fun W hW => by obtain ⟨c0, c1, c2, c3, c4⟩ := (HCB.out W hW).cells; go_simp⟩) hS ?_
  simp only [List.getElem_toArray, List.getElem_cons_zero, List.getElem_cons_succ, Act.put, List.setIfInBounds_toArray, List.set_cons_zero, List.set_cons_succ]
  refine wpAnyH_take (i := 2) (v := .pointer (some ⟨w.heap.size + 1, 0, none⟩)) rfl (by kernel_rfl) (by kernel_rfl) (by kernel_rfl) (fun _ _ _ h => h) (Or.inl ⟨by simp [Region.wanted], fun W _ => by go_simp⟩) hS ?_
  simp only [List.getElem_toArray, List.getElem_cons_zero, List.getElem_cons_succ, Act.put, List.setIfInBounds_toArray, List.set_cons_zero, List.set_cons_succ]
  refine wpAnyH_take (i := 3) (v := .int .i64 p0) rfl (by kernel_rfl) (by kernel_rfl) (by kernel_rfl) (fun _ _ _ h => h) (Or.inl ⟨by simp [Region.wanted], fun W hW => by have x0 : W.cell? ⟨w.heap.size + 1, 0, none⟩ = some (.int .i64 p0) := HCX.out W hW 0; have x1 : W.cell? ⟨w.heap.size + 1, 1, none⟩ = some (.int .i64 q0) := HCX.out W hW 1; have x2 : W.cell? ⟨w.heap.size + 1, 2, none⟩ = some (.int .i64 r0) := HCX.out W hW 2; go_simp⟩) hS ?_
  simp only [List.getElem_toArray, List.getElem_cons_zero, List.getElem_cons_succ, Act.put, List.setIfInBounds_toArray, List.set_cons_zero, List.set_cons_succ]
  refine wpAnyH_take (i := 4) (v := .pointer (some ⟨w.heap.size + 1, 1, none⟩)) rfl (by kernel_rfl) (by kernel_rfl) (by kernel_rfl) (fun _ _ _ h => h) (Or.inl ⟨by simp [Region.wanted], fun W _ => by go_simp⟩) hS ?_
  simp only [List.getElem_toArray, List.getElem_cons_zero, List.getElem_cons_succ, Act.put, List.setIfInBounds_toArray, List.set_cons_zero, List.set_cons_succ]
  refine wpAnyH_take (i := 5) (v := .int .i64 q0) rfl (by kernel_rfl) (by kernel_rfl) (by kernel_rfl) (fun _ _ _ h => h) (Or.inl ⟨by simp [Region.wanted], fun W hW => by have x0 : W.cell? ⟨w.heap.size + 1, 0, none⟩ = some (.int .i64 p0) := HCX.out W hW 0; have x1 : W.cell? ⟨w.heap.size + 1, 1, none⟩ = some (.int .i64 q0) := HCX.out W hW 1; have x2 : W.cell? ⟨w.heap.size + 1, 2, none⟩ = some (.int .i64 r0) := HCX.out W hW 2; go_simp⟩) hS ?_
  simp only [List.getElem_toArray, List.getElem_cons_zero, List.getElem_cons_succ, Act.put, List.setIfInBounds_toArray, List.set_cons_zero, List.set_cons_succ]
  refine wpAnyH_take (i := 6) (v := .agg #[.int .i64 p0, .int .i64 q0]) rfl (by kernel_rfl) (by kernel_rfl) (by kernel_rfl) (fun _ _ _ h => h) (Or.inl ⟨by simp [Region.wanted], fun W _ => by go_simp⟩) hS ?_
  simp only [List.getElem_toArray, List.getElem_cons_zero, List.getElem_cons_succ, Act.put, List.setIfInBounds_toArray, List.set_cons_zero, List.set_cons_succ]
  refine wpAnyH_take (i := 7) (v := .agg #[.int .i64 p0, .int .i64 q0, .int .i64 r0]) rfl (by kernel_rfl) (by kernel_rfl) (by kernel_rfl) (fun _ _ _ h => h) (Or.inl ⟨by simp [Region.wanted], fun W hW => by have x0 : W.cell? ⟨w.heap.size + 1, 0, none⟩ = some (.int .i64 p0) := HCX.out W hW 0; have x1 : W.cell? ⟨w.heap.size + 1, 1, none⟩ = some (.int .i64 q0) := HCX.out W hW 1; have x2 : W.cell? ⟨w.heap.size + 1, 2, none⟩ = some (.int .i64 r0) := HCX.out W hW 2; go_simp⟩) hS ?_
  simp only [List.getElem_toArray, List.getElem_cons_zero, List.getElem_cons_succ, Act.put, List.setIfInBounds_toArray, List.set_cons_zero, List.set_cons_succ]
  refine wpAnyH_take (i := 8) (v := .pointer (some ⟨w.heap.size + 1, 2, none⟩)) rfl (by kernel_rfl) (by kernel_rfl) (by kernel_rfl) (fun _ _ _ h => h) (Or.inl ⟨by simp [Region.wanted], fun W _ => by go_simp⟩) hS ?_
  simp only [List.getElem_toArray, List.getElem_cons_zero, List.getElem_cons_succ, Act.put, List.setIfInBounds_toArray, List.set_cons_zero, List.set_cons_succ]
  refine wpAnyH_take (i := 9) (v := .int .i64 r0) rfl (by kernel_rfl) (by kernel_rfl) (by kernel_rfl) (fun _ _ _ h => h) (Or.inl ⟨by simp [Region.wanted], fun W hW => by have x0 : W.cell? ⟨w.heap.size + 1, 0, none⟩ = some (.int .i64 p0) := HCX.out W hW 0; have x1 : W.cell? ⟨w.heap.size + 1, 1, none⟩ = some (.int .i64 q0) := HCX.out W hW 1; have x2 : W.cell? ⟨w.heap.size + 1, 2, none⟩ = some (.int .i64 r0) := HCX.out W hW 2; go_simp⟩) hS ?_
  simp only [List.getElem_toArray, List.getElem_cons_zero, List.getElem_cons_succ, Act.put, List.setIfInBounds_toArray, List.set_cons_zero, List.set_cons_succ]
  refine wpAnyH_ready (rs := [10]) (by kernel_rfl) (by simp) ?_
  refine AllReadyH.cons rfl (fun K1 hK1 => ?_) AllReadyH.nil
  refine wanted_go rfl ?_
  simp only [List.getElem_toArray, List.getElem_cons_zero, List.getElem_cons_succ]
  go_wp2_with (go_at_call 53; refine (HLF.out _).mono ?_; rintro e y2 ⟨⟨ta, tc, rfl, hta⟩, hb2⟩); have HSy := Lib.hid (HSd.out.below hb2)
  refine hK1.out _ _ (hS.trans (hb2.mono HSd.out.sz3)) (fun hS1 => ?_)
  refine wpAnyH_ready (rs := [11]) (by kernel_rfl) (by simp) ?_
  refine AllReadyH.cons rfl (fun K2 hK2 => ?_) AllReadyH.nil
  refine wanted_go rfl ?_
  simp only [List.getElem_toArray, List.getElem_cons_zero, List.getElem_cons_succ]
  go_wp2_with (go_at_call 52; refine (HPV.out _ hS1 ta tc hta).mono ?_; rw [HNL.out]; rintro e y3 ⟨⟨a', c', rfl, hr3, hn3, hc3⟩, hb3⟩); have HS3 := Lib.hid (HSy.out.below hb3); have hfz := free_of_blkN HS3.out.box 1; have hcc := HS3.out.box.c 1; have hy3 := HSy.out.sz
  refine hK2.out _ _ (HS3.out.lo) (fun hS2 => ?_)
  refine wpAnyH_take (i := 12) (v := .pointer (some ⟨y1.heap.size, 1, none⟩)) rfl (by kernel_rfl) (by kernel_rfl) (by kernel_rfl) (fun _ _ _ h => h) (Or.inl ⟨by simp [Region.wanted], fun W _ => by go_simp⟩) hS2 ?_
  simp only [List.getElem_toArray, List.getElem_cons_zero, List.getElem_cons_succ, Act.put, List.setIfInBounds_toArray, List.set_cons_zero, List.set_cons_succ]
  refine wpAnyH_ready (rs := [13]) (by kernel_rfl) (by simp) ?_
  refine AllReadyH.cons rfl (fun K3 hK3 => ?_) AllReadyH.nil
  refine wanted_go rfl ?_
  simp only [List.getElem_toArray, List.getElem_cons_zero, List.getElem_cons_succ]
  go_wp2
  refine hK3.out _ _ (HS3.out.lo.setCell (p := ⟨y1.heap.size, 1, none⟩) HS3.out.nm _) (fun hS3 => ?_)
  refine wpAnyH_done (by kernel_rfl) ?_ _
  go_upto_region 3 with (fail)
  have hsb := StB_Stake (c' := c') HS3.out HIN1.out HNW1.out hr3 hn3 hy3
  have HC3 := Lib.hid (show CapOk ⟨a0, a', a2, a3, d0, c', d2, d3⟩ { b with ss := NL } from ⟨HC1.out.hs, hc3, HC1.out.os, HC1.out.rs⟩)
  refine at_world (Φ := fun W => StB w.heap.size y1.heap.size W0 ⟨a0, a', a2, a3, d0, c', d2, d3⟩ { b with ss := NL } W) hsb ?_
  clear hsb hr3 hn3 hy3 hfz hcc x0 x1 x2 c0 c1 c2 c3 c4
  have HNM := Lib.hid HS3.out.nm
  clear HS3 HS2 HIN1 HNW1 HC1
  rintro W4 hs4
  have HS4 := Lib.hid hs4
  have HG4 := Lib.hid (show W4.heap[y1.heap.size]? = some (.cells (cellsB ⟨a0, a', a2, a3, d0, c', d2, d3⟩ { b with ss := NL }) 27 (0, 0)) from HS4.out.box)
  have HG5 := Lib.hid (HX2.out _ HS4.out.lo)
  have HI4 := Lib.hid (show (Try.prog.info? 27).map (·.size) = some (cellsB ⟨a0, a', a2, a3, d0, c', d2, d3⟩ { b with ss := NL }).size from info27)
  clear hs4 HX2 HCX HCB
  have HO1 : (cellsB ⟨a0, a', a2, a3, d0, c', d2, d3⟩ { b with ss := NL }).all (·.oneCell') = true := by simp [cellsB, Value.oneCell']
  obtain ⟨KS, hKS⟩ : ∃ k, cellsB ⟨a0, a', a2, a3, d0, c', d2, d3⟩ { b with ss := NL } = k := ⟨_, rfl⟩
  rw [hKS] at HG4 HI4 HO1
  have HKS := Lib.hid hKS
  clear hKS
  go_wp2_with (first | ((with_reducible refine atStore (ty := 27) (x := .tmp 4) (y := .tmp 21) rfl ?_); refine wpList_store_row rfl 27 (.tmp 4) (.tmp 21) rfl (w.heap.size + 1 + 1) KS rfl rfl 27 #[.slice none 0 0, .slice none 0 0, .slice none 0 0, .slice none 0 0, .int .i64 0] HG5.out HI4.out (by have h := HI4.out; rw [info27] at h; simpa using h) HO1 ?_) | ((with_reducible refine atLoad (ty := 27) (x := .tmp 5) rfl ?_); refine wpList_load_row rfl 27 (.tmp 5) rfl y1.heap.size rfl 27 KS (0, 0) _ HG4.out Try.underlying27 rfl HI4.out ?_))
  refine ret_cell rfl rfl rfl (setRow_heap _ _ _ _ _ _ HG5.out) Try.underlying27 rfl HI4.out ?_
  rw [← HPO.out, HRES.out]
  obtain ⟨hf1, hf2⟩ := book_far HS4.out.new HS4.out.bin (W' := W4.setRow (w.heap.size + 1 + 1) KS) (by simp) (fun i hi => setRow_ne KS (by omega))
  exact ⟨⟨⟨a0, a', a2, a3, d0, c', d2, d3⟩, by rw [HKS.out], hf1, hf2.from (by omega), HC3.out⟩, below_row1 (HLO.out _ HS4.out.lo) (by omega)⟩

theorem putsetOpen (a : Option Addr) (c : Nat) (L : List Item) (p0 q0 r0 s0 t0 z0 : Int) (ta : Option Addr) (tc : Nat) (d : Bool) (w : World) (hr : RowsOf 6 w a L) (hk : ItemsOk 6 1000 L) (hs : riseL lt1 L = true) (hcap : L.length ≤ c) (hm : RowsOf 6 w ta (if d then [] else [[p0, q0, r0, s0, t0, z0]])) :
    Calls Try.prog 54 #[.slice a L.length c, .int .i64 p0, .func (.func 46) #[] #[], .slice ta (if d then [] else [[p0, q0, r0, s0, t0, z0]] : List Item).length tc] w fun e w' => (∃ a' c', e = .returned (.slice a' (setL (ge1 [p0, q0, r0, s0, t0, z0]) (eq1 [p0, q0, r0, s0, t0, z0]) [p0, q0, r0, s0, t0, z0] d L).length c') ∧ RowsOf 6 w' a' (setL (ge1 [p0, q0, r0, s0, t0, z0]) (eq1 [p0, q0, r0, s0, t0, z0]) [p0, q0, r0, s0, t0, z0] d L) ∧ RowNew w.heap.size w' a' (setL (ge1 [p0, q0, r0, s0, t0, z0]) (eq1 [p0, q0, r0, s0, t0, z0]) [p0, q0, r0, s0, t0, z0] d L) ∧ (setL (ge1 [p0, q0, r0, s0, t0, z0]) (eq1 [p0, q0, r0, s0, t0, z0]) [p0, q0, r0, s0, t0, z0] d L).length ≤ c') ∧ Below w.heap.size w w' := by
  have e := setL_pos (mono1 p0) (fun y => ge1_c [p0, q0, r0, s0, t0, z0] y) (fun y => eq1_c [p0, q0, r0, s0, t0, z0] y) (x := [p0, q0, r0, s0, t0, z0]) d hs
  have hx : (setL (ge1 [p0, q0, r0, s0, t0, z0]) (eq1 [p0, q0, r0, s0, t0, z0]) [p0, q0, r0, s0, t0, z0] d L) = _ := e
  rw [hx]
  have hok : ∀ x ∈ (setL (ge1 [p0, q0, r0, s0, t0, z0]) (eq1 [p0, q0, r0, s0, t0, z0]) [p0, q0, r0, s0, t0, z0] d L), x.length = 6 := fun x h => by
    rcases (setL_len (ge1 [p0, q0, r0, s0, t0, z0]) (eq1 [p0, q0, r0, s0, t0, z0]) [p0, q0, r0, s0, t0, z0] d L).2 x h with rfl | h
    · rfl
    · exact (hk.2 x h).1
  rw [hx] at hok
  refine (putOpen a c L p0 ta tc (if d then [] else [[p0, q0, r0, s0, t0, z0]]) w hr hk hs hcap hm (by cases d <;> simp) (by cases d <;> simp)).mono ?_
  rintro e w' ⟨v, rfl, hown, hb⟩
  obtain ⟨a', c', rfl, q1, q2, q3⟩ := rows_new (by decide) hok hown
  exact ⟨⟨a', c', rfl, q1, q2, q3⟩, hb⟩

theorem StB_Open {n : Nat} {y W0 W : World} {a0 a1 a2 a3 : Option Addr} {d0 d1 d2 d3 : Nat} {b : BookT} {NL : List Item} {a' : Option Addr} {c' base : Nat} (h : StA n y W0 ⟨a0, a1, a2, a3, d0, d1, d2, d3⟩ b W) (hin : BookIn y ⟨a0, a1, a2, a3, d0, d1, d2, d3⟩ b) (hnw : BookNew (n + 3) y ⟨a0, a1, a2, a3, d0, d1, d2, d3⟩ b)
    (hr : RowsOf 6 W a' NL) (hn : RowNew base W a' NL) (hbs : y.heap.size < base) : StB n y.heap.size W0 ⟨a0, a1, a', a3, d0, d1, c', d3⟩ { b with os := NL } (W.setCell ⟨y.heap.size, 2, none⟩ (.slice a' NL.length c')) := by
  have hne : ∀ i, base ≤ i → (W.setCell ⟨y.heap.size, 2, none⟩ (.slice a' NL.length c')).heap[i]? = W.heap[i]? := fun i hi => Below.heap_setCell W ⟨y.heap.size, 2, none⟩ _ i (by dsimp only; omega)
  have hold : Below y.heap.size y (W.setCell ⟨y.heap.size, 2, none⟩ (.slice a' NL.length c')) := h.old.setCell (p := ⟨y.heap.size, 2, none⟩) (Nat.le_refl _) _
  obtain ⟨q1, q2⟩ := rows_far hn hr (W' := W.setCell ⟨y.heap.size, 2, none⟩ (.slice a' NL.length c')) (by simp) hne
  have hi2 := hin.below hold
  have hn2 := hnw.below hin hold
  exact ⟨h.lo.setCell (p := ⟨y.heap.size, 2, none⟩) h.nm _, by have := h.sz3; simpa using this, set_blkN h.box 2 _, ⟨hi2.hs, hi2.ss, q1, hi2.rs⟩, ⟨hn2.hs, hn2.ss, q2.from (by have := h.nm; omega), hn2.rs⟩⟩

set_option maxRecDepth 100000 in
set_option maxHeartbeats 8000000 in
theorem psetOpen (v : Slots) (b : BookT) (p0 q0 r0 s0 t0 z0 : Int) (w : World) (hb : BookIn w v b) (hcp : CapOk v b) (hk : BookOk 1000 b) (hs : riseL lt1 b.os = true) :
    Calls Try.prog 25 #[.agg (cellsB v b), .agg #[.int .i64 p0, .int .i64 q0, .int .i64 r0, .int .i64 s0, .int .i64 t0, .int .i64 z0]] w (BookOut w (setOpenT b [p0, q0, r0, s0, t0, z0])) := by
  obtain ⟨W0, hW0⟩ : ∃ W, ((w.alloc (.cells (cellsB v b) 27)).alloc (.cells #[.int .i64 p0, .int .i64 q0, .int .i64 r0, .int .i64 s0, .int .i64 t0, .int .i64 z0] 37)).alloc (.cells #[.slice none 0 0, .slice none 0 0, .slice none 0 0, .slice none 0 0, .int .i64 0] 27) = W := ⟨_, rfl⟩
  have hlo : Below w.heap.size w W0 := by rw [← hW0]; exact (((Below.refl _ w).alloc (Nat.le_refl _) _).alloc (by simp) _).alloc (by simp; omega) _
  have hsz : W0.heap.size = w.heap.size + 3 := by rw [← hW0]; simp
  have h3 := three_alloc (w := w) (A := .cells (cellsB v b) 27) (B := .cells #[.int .i64 p0, .int .i64 q0, .int .i64 r0, .int .i64 s0, .int .i64 t0, .int .i64 z0] 37) (C := .cells #[.slice none 0 0, .slice none 0 0, .slice none 0 0, .slice none 0 0, .int .i64 0] 27)
  rw [hW0] at h3
  obtain ⟨hx0, hx1, hx2, _⟩ := h3
  have HCB := Lib.hid (show ∀ W, Below (w.heap.size + 3) W0 W → BoxB W w.heap.size v b from fun W h => (h.block _ (by omega)).trans hx0)
  have HCX := Lib.hid (show ∀ W, Below (w.heap.size + 3) W0 W → ∀ i, W.cell? ⟨w.heap.size + 1, i, none⟩ = (#[.int .i64 p0, .int .i64 q0, .int .i64 r0, .int .i64 s0, .int .i64 t0, .int .i64 z0] : Array Value)[i]? from fun W h i => cell_of_row _ _ _ _ 37 (0, 0) ((h.block _ (by omega)).trans hx1))
  have HX2 := Lib.hid (show ∀ W, Below (w.heap.size + 3) W0 W → W.heap[w.heap.size + 1 + 1]? = some (.cells #[.slice none 0 0, .slice none 0 0, .slice none 0 0, .slice none 0 0, .int .i64 0] 27 (0, 0)) from fun W h => (h.block _ (by omega)).trans hx2)
  have HLO := Lib.hid (show ∀ W, Below (w.heap.size + 3) W0 W → Below w.heap.size w W from fun W h => hlo.trans (h.mono (by omega)))
  have HSZ := Lib.hid hsz
  have HBI := Lib.hid (fun W (h : Below (w.heap.size + 3) W0 W) => hb.below (HLO.out W h))
  have HCO := Lib.hid (fun W (h : Below (w.heap.size + 3) W0 W) => copy13 v b W (HBI.out W h) hk)
  have HX0 := Lib.hid (show ∀ W, Below (w.heap.size + 3) W0 W → W.heap[w.heap.size]? = some (.cells (cellsB v b) 27 (0, 0)) from HCB.out)
  have HPU := Lib.hid (fun W (h : Below (w.heap.size + 3) W0 W) ta tc d hm => putsetOpen v.o v.co b.os p0 q0 r0 s0 t0 z0 ta tc d W (HBI.out W h).os hk.os hs hcp.os hm)
  clear hx0 hx1 hx2 hlo hsz hb hs hk
  obtain ⟨POST, hP⟩ : ∃ P, BookOut w (setOpenT b [p0, q0, r0, s0, t0, z0]) = P := ⟨_, rfl⟩
  rw [hP]
  have HPO := Lib.hid hP
  have HRES := Lib.hid (show setOpenT b [p0, q0, r0, s0, t0, z0] = { b with os := setL (ge1 [p0, q0, r0, s0, t0, z0]) (eq1 [p0, q0, r0, s0, t0, z0]) [p0, q0, r0, s0, t0, z0] (t0 == 0) b.os } from rfl)
  obtain ⟨NL, hNL⟩ : ∃ x, setL (ge1 [p0, q0, r0, s0, t0, z0]) (eq1 [p0, q0, r0, s0, t0, z0]) [p0, q0, r0, s0, t0, z0] (t0 == 0) b.os = x := ⟨_, rfl⟩
  rw [hNL] at HRES
  have HNL := Lib.hid hNL
  clear hNL
  obtain ⟨CB, hCB⟩ : ∃ C, cellsB v b = C := ⟨_, rfl⟩
  have hcz : CB.size = 5 := by rw [← hCB]; rfl
  rw [hCB] at hW0 HX0 HCO ⊢
  have HZ5 := Lib.hid (show (Try.prog.info? 27).map (·.size) = some CB.size by rw [hcz]; exact info27)
  clear hP hCB hcz
  have HW0 := Lib.hid hW0
  go_enter Try.func25, Try.ntmps25
  go_upto_region 2 with (first
    | ((with_reducible refine atStore (ty := 27) (x := .tmp 5) (y := .tmp 7) rfl ?_); refine wpList_store_row rfl 27 (.tmp 5) (.tmp 7) rfl y1.heap.size (cellsB v1 b) rfl rfl 27 #[.slice none 0 0, .slice none 0 0, .slice none 0 0, .slice none 0 0, .int .i64 0] (heap_alloc_new y1 _) info27 rfl (by simp [cellsB, Value.oneCell']) ?_)
    | ((with_reducible refine atLoad (ty := 27) (x := .tmp 2) rfl ?_); refine wpList_load_row rfl 27 (.tmp 2) rfl w.heap.size rfl 27 CB (0, 0) _ (HX0.out W0 (Below.refl _ _)) Try.underlying27 rfl HZ5.out ?_)
    | (go_at_call 13; refine (HCO.out W0 (Below.refl _ _)).mono ?_; rintro e y1 ⟨⟨v1, rfl, hin1, hnew1, hcap1⟩, hb1⟩))
  have hbA : Below y1.heap.size y1 ((y1.alloc (.cells #[.slice none 0 0, .slice none 0 0, .slice none 0 0, .slice none 0 0, .int .i64 0] 27)).setRow y1.heap.size (cellsB v1 b)) := below_rowB ((Below.refl _ _).alloc (Nat.le_refl _) _) (Nat.le_refl _)
  rw [HSZ.out] at hb1 hnew1
  refine at_world (Φ := fun W => StA w.heap.size y1 W0 v1 b W) ⟨hb1.trans (hbA.mono (by have := hb1.size; rw [HSZ.out] at this; exact this)), by have := hb1.size; rw [HSZ.out] at this; exact this, setRow_heap _ _ _ _ _ _ (heap_alloc_new y1 _), hbA⟩ ?_
  have HIN1 := Lib.hid hin1
  have HNW1 := Lib.hid hnew1
  clear hbA hb1 hnew1 hin1 hW0 HCO HX0 HZ5
  rintro W2 hs2
  have HS2 := Lib.hid hs2
  clear hs2
  obtain ⟨a0, a1, a2, a3, d0, d1, d2, d3⟩ := v1
  have HC1 := Lib.hid hcap1
  clear hcap1
  obtain ⟨c0, c1, c2, c3, c4⟩ := (HCB.out _ HS2.out.lo).cells
  have x0 : W2.cell? ⟨w.heap.size + 1, 0, none⟩ = some (.int .i64 p0) := HCX.out _ HS2.out.lo 0
  have x1 : W2.cell? ⟨w.heap.size + 1, 1, none⟩ = some (.int .i64 q0) := HCX.out _ HS2.out.lo 1
  have x2 : W2.cell? ⟨w.heap.size + 1, 2, none⟩ = some (.int .i64 r0) := HCX.out _ HS2.out.lo 2
  have x3 : W2.cell? ⟨w.heap.size + 1, 3, none⟩ = some (.int .i64 s0) := HCX.out _ HS2.out.lo 3
  have x4 : W2.cell? ⟨w.heap.size + 1, 4, none⟩ = some (.int .i64 t0) := HCX.out _ HS2.out.lo 4
  have x5 : W2.cell? ⟨w.heap.size + 1, 5, none⟩ = some (.int .i64 z0) := HCX.out _ HS2.out.lo 5
  obtain ⟨ML, hML⟩ : ∃ x : List Item, (if (t0 == 0) then [] else [[p0, q0, r0, s0, t0, z0]]) = x := ⟨_, rfl⟩
  have HLF := Lib.hid (fun W => leftOpen p0 q0 r0 s0 t0 z0 t0 W)
  have HPV := Lib.hid (fun W h ta tc => HPU.out W h ta tc (t0 == 0))
  rw [hML] at HLF HPV
  clear hML HPU
  have HSd := Lib.hid (HS2.out.below (below_drewN' (Below.refl _ _) 1))
  refine wp_region_held_drew (S := fun W => Below (w.heap.size + 3) W0 W) (by kernel_rfl) (HSd.out.lo) (fun hS => ?_)
  refine wpAnyH_take (i := 0) (v := .pointer (some ⟨w.heap.size, 2, none⟩)) rfl (by kernel_rfl) (by kernel_rfl) (by kernel_rfl) (fun _ _ _ h => h) (Or.inl ⟨by simp [Region.wanted], fun W _ => by go_simp⟩) hS ?_
  simp only [List.getElem_toArray, List.getElem_cons_zero, Act.put, List.setIfInBounds_toArray, List.set_cons_zero, List.set_cons_succ]
  refine wpAnyH_take (i := 1) (v := .slice v.o b.os.length v.co) rfl (by kernel_rfl) (by kernel_rfl) (by kernel_rfl) (fun _ _ _ h => h) (Or.inl ⟨by simp [Region.wanted], fun W hW => by obtain ⟨c0, c1, c2, c3, c4⟩ := (HCB.out W hW).cells; go_simp⟩) hS ?_
  simp only [List.getElem_toArray, List.getElem_cons_zero, List.getElem_cons_succ, Act.put, List.setIfInBounds_toArray, List.set_cons_zero, List.set_cons_succ]
  refine wpAnyH_take (i := 2) (v := .pointer (some ⟨w.heap.size + 1, 0, none⟩)) rfl (by kernel_rfl) (by kernel_rfl) (by kernel_rfl) (fun _ _ _ h => h) (Or.inl ⟨by simp [Region.wanted], fun W _ => by go_simp⟩) hS ?_
  simp only [List.getElem_toArray, List.getElem_cons_zero, List.getElem_cons_succ, Act.put, List.setIfInBounds_toArray, List.set_cons_zero, List.set_cons_succ]
  refine wpAnyH_take (i := 3) (v := .int .i64 p0) rfl (by kernel_rfl) (by kernel_rfl) (by kernel_rfl) (fun _ _ _ h => h) (Or.inl ⟨by simp [Region.wanted], fun W hW => by have x0 : W.cell? ⟨w.heap.size + 1, 0, none⟩ = some (.int .i64 p0) := HCX.out W hW 0; have x1 : W.cell? ⟨w.heap.size + 1, 1, none⟩ = some (.int .i64 q0) := HCX.out W hW 1; have x2 : W.cell? ⟨w.heap.size + 1, 2, none⟩ = some (.int .i64 r0) := HCX.out W hW 2; have x3 : W.cell? ⟨w.heap.size + 1, 3, none⟩ = some (.int .i64 s0) := HCX.out W hW 3; have x4 : W.cell? ⟨w.heap.size + 1, 4, none⟩ = some (.int .i64 t0) := HCX.out W hW 4; have x5 : W.cell? ⟨w.heap.size + 1, 5, none⟩ = some (.int .i64 z0) := HCX.out W hW 5; go_simp⟩) hS ?_
  simp only [List.getElem_toArray, List.getElem_cons_zero, List.getElem_cons_succ, Act.put, List.setIfInBounds_toArray, List.set_cons_zero, List.set_cons_succ]
  refine wpAnyH_take (i := 4) (v := .agg #[.int .i64 p0, .int .i64 q0, .int .i64 r0, .int .i64 s0, .int .i64 t0, .int .i64 z0]) rfl (by kernel_rfl) (by kernel_rfl) (by kernel_rfl) (fun _ _ _ h => h) (Or.inl ⟨by simp [Region.wanted], fun W hW => by have x0 : W.cell? ⟨w.heap.size + 1, 0, none⟩ = some (.int .i64 p0) := HCX.out W hW 0; have x1 : W.cell? ⟨w.heap.size + 1, 1, none⟩ = some (.int .i64 q0) := HCX.out W hW 1; have x2 : W.cell? ⟨w.heap.size + 1, 2, none⟩ = some (.int .i64 r0) := HCX.out W hW 2; have x3 : W.cell? ⟨w.heap.size + 1, 3, none⟩ = some (.int .i64 s0) := HCX.out W hW 3; have x4 : W.cell? ⟨w.heap.size + 1, 4, none⟩ = some (.int .i64 t0) := HCX.out W hW 4; have x5 : W.cell? ⟨w.heap.size + 1, 5, none⟩ = some (.int .i64 z0) := HCX.out W hW 5; go_simp⟩) hS ?_
  simp only [List.getElem_toArray, List.getElem_cons_zero, List.getElem_cons_succ, Act.put, List.setIfInBounds_toArray, List.set_cons_zero, List.set_cons_succ]
  refine wpAnyH_take (i := 5) (v := .pointer (some ⟨w.heap.size + 1, 4, none⟩)) rfl (by kernel_rfl) (by kernel_rfl) (by kernel_rfl) (fun _ _ _ h => h) (Or.inl ⟨by simp [Region.wanted], fun W _ => by go_simp⟩) hS ?_
  simp only [List.getElem_toArray, List.getElem_cons_zero, List.getElem_cons_succ, Act.put, List.setIfInBounds_toArray, List.set_cons_zero, List.set_cons_succ]
  refine wpAnyH_take (i := 6) (v := .int .i64 t0) rfl (by kernel_rfl) (by kernel_rfl) (by kernel_rfl) (fun _ _ _ h => h) (Or.inl ⟨by simp [Region.wanted], fun W hW => by have x0 : W.cell? ⟨w.heap.size + 1, 0, none⟩ = some (.int .i64 p0) := HCX.out W hW 0; have x1 : W.cell? ⟨w.heap.size + 1, 1, none⟩ = some (.int .i64 q0) := HCX.out W hW 1; have x2 : W.cell? ⟨w.heap.size + 1, 2, none⟩ = some (.int .i64 r0) := HCX.out W hW 2; have x3 : W.cell? ⟨w.heap.size + 1, 3, none⟩ = some (.int .i64 s0) := HCX.out W hW 3; have x4 : W.cell? ⟨w.heap.size + 1, 4, none⟩ = some (.int .i64 t0) := HCX.out W hW 4; have x5 : W.cell? ⟨w.heap.size + 1, 5, none⟩ = some (.int .i64 z0) := HCX.out W hW 5; go_simp⟩) hS ?_
  simp only [List.getElem_toArray, List.getElem_cons_zero, List.getElem_cons_succ, Act.put, List.setIfInBounds_toArray, List.set_cons_zero, List.set_cons_succ]
  refine wpAnyH_ready (rs := [7]) (by kernel_rfl) (by simp) ?_
  refine AllReadyH.cons rfl (fun K1 hK1 => ?_) AllReadyH.nil
  refine wanted_go rfl ?_
  simp only [List.getElem_toArray, List.getElem_cons_zero, List.getElem_cons_succ]
  go_wp2_with (go_at_call 55; refine (HLF.out _).mono ?_; rintro e y2 ⟨⟨ta, tc, rfl, hta⟩, hb2⟩); have HSy := Lib.hid (HSd.out.below hb2)
  refine hK1.out _ _ (hS.trans (hb2.mono HSd.out.sz3)) (fun hS1 => ?_)
  refine wpAnyH_ready (rs := [8]) (by kernel_rfl) (by simp) ?_
  refine AllReadyH.cons rfl (fun K2 hK2 => ?_) AllReadyH.nil
  refine wanted_go rfl ?_
  simp only [List.getElem_toArray, List.getElem_cons_zero, List.getElem_cons_succ]
  go_wp2_with (go_at_call 54; refine (HPV.out _ hS1 ta tc hta).mono ?_; rw [HNL.out]; rintro e y3 ⟨⟨a', c', rfl, hr3, hn3, hc3⟩, hb3⟩); have HS3 := Lib.hid (HSy.out.below hb3); have hfz := free_of_blkN HS3.out.box 2; have hcc := HS3.out.box.c 2; have hy3 := HSy.out.sz
  refine hK2.out _ _ (HS3.out.lo) (fun hS2 => ?_)
  refine wpAnyH_take (i := 9) (v := .pointer (some ⟨y1.heap.size, 2, none⟩)) rfl (by kernel_rfl) (by kernel_rfl) (by kernel_rfl) (fun _ _ _ h => h) (Or.inl ⟨by simp [Region.wanted], fun W _ => by go_simp⟩) hS2 ?_
  simp only [List.getElem_toArray, List.getElem_cons_zero, List.getElem_cons_succ, Act.put, List.setIfInBounds_toArray, List.set_cons_zero, List.set_cons_succ]
  refine wpAnyH_ready (rs := [10]) (by kernel_rfl) (by simp) ?_
  refine AllReadyH.cons rfl (fun K3 hK3 => ?_) AllReadyH.nil
  refine wanted_go rfl ?_
  simp only [List.getElem_toArray, List.getElem_cons_zero, List.getElem_cons_succ]
  go_wp2
  refine hK3.out _ _ (HS3.out.lo.setCell (p := ⟨y1.heap.size, 2, none⟩) HS3.out.nm _) (fun hS3 => ?_)
  refine wpAnyH_done (by kernel_rfl) ?_ _
  go_upto_region 3 with (fail)
  have hsb := StB_Open (c' := c') HS3.out HIN1.out HNW1.out hr3 hn3 hy3
  have HC3 := Lib.hid (show CapOk ⟨a0, a1, a', a3, d0, d1, c', d3⟩ { b with os := NL } from ⟨HC1.out.hs, HC1.out.ss, hc3, HC1.out.rs⟩)
  refine at_world (Φ := fun W => StB w.heap.size y1.heap.size W0 ⟨a0, a1, a', a3, d0, d1, c', d3⟩ { b with os := NL } W) hsb ?_
  clear hsb hr3 hn3 hy3 hfz hcc x0 x1 x2 x3 x4 x5 c0 c1 c2 c3 c4
  have HNM := Lib.hid HS3.out.nm
  clear HS3 HS2 HIN1 HNW1 HC1
  rintro W4 hs4
  have HS4 := Lib.hid hs4
  have HG4 := Lib.hid (show W4.heap[y1.heap.size]? = some (.cells (cellsB ⟨a0, a1, a', a3, d0, d1, c', d3⟩ { b with os := NL }) 27 (0, 0)) from HS4.out.box)
  have HG5 := Lib.hid (HX2.out _ HS4.out.lo)
  have HI4 := Lib.hid (show (Try.prog.info? 27).map (·.size) = some (cellsB ⟨a0, a1, a', a3, d0, d1, c', d3⟩ { b with os := NL }).size from info27)
  clear hs4 HX2 HCX HCB
  have HO1 : (cellsB ⟨a0, a1, a', a3, d0, d1, c', d3⟩ { b with os := NL }).all (·.oneCell') = true := by simp [cellsB, Value.oneCell']
  obtain ⟨KS, hKS⟩ : ∃ k, cellsB ⟨a0, a1, a', a3, d0, d1, c', d3⟩ { b with os := NL } = k := ⟨_, rfl⟩
  rw [hKS] at HG4 HI4 HO1
  have HKS := Lib.hid hKS
  clear hKS
  go_wp2_with (first | ((with_reducible refine atStore (ty := 27) (x := .tmp 4) (y := .tmp 18) rfl ?_); refine wpList_store_row rfl 27 (.tmp 4) (.tmp 18) rfl (w.heap.size + 1 + 1) KS rfl rfl 27 #[.slice none 0 0, .slice none 0 0, .slice none 0 0, .slice none 0 0, .int .i64 0] HG5.out HI4.out (by have h := HI4.out; rw [info27] at h; simpa using h) HO1 ?_) | ((with_reducible refine atLoad (ty := 27) (x := .tmp 5) rfl ?_); refine wpList_load_row rfl 27 (.tmp 5) rfl y1.heap.size rfl 27 KS (0, 0) _ HG4.out Try.underlying27 rfl HI4.out ?_))
  refine ret_cell rfl rfl rfl (setRow_heap _ _ _ _ _ _ HG5.out) Try.underlying27 rfl HI4.out ?_
  rw [← HPO.out, HRES.out]
  obtain ⟨hf1, hf2⟩ := book_far HS4.out.new HS4.out.bin (W' := W4.setRow (w.heap.size + 1 + 1) KS) (by simp) (fun i hi => setRow_ne KS (by omega))
  exact ⟨⟨⟨a0, a1, a', a3, d0, d1, c', d3⟩, by rw [HKS.out], hf1, hf2.from (by omega), HC3.out⟩, below_row1 (HLO.out _ HS4.out.lo) (by omega)⟩

theorem putsetRate (a : Option Addr) (c : Nat) (L : List Item) (p0 q0 : Int) (ta : Option Addr) (tc : Nat) (d : Bool) (w : World) (hr : RowsOf 2 w a L) (hk : ItemsOk 2 1000 L) (hs : riseL lt1 L = true) (hcap : L.length ≤ c) (hm : RowsOf 2 w ta (if d then [] else [[p0, q0]])) :
    Calls Try.prog 56 #[.slice a L.length c, .int .i64 p0, .func (.func 48) #[] #[], .slice ta (if d then [] else [[p0, q0]] : List Item).length tc] w fun e w' => (∃ a' c', e = .returned (.slice a' (setL (ge1 [p0, q0]) (eq1 [p0, q0]) [p0, q0] d L).length c') ∧ RowsOf 2 w' a' (setL (ge1 [p0, q0]) (eq1 [p0, q0]) [p0, q0] d L) ∧ RowNew w.heap.size w' a' (setL (ge1 [p0, q0]) (eq1 [p0, q0]) [p0, q0] d L) ∧ (setL (ge1 [p0, q0]) (eq1 [p0, q0]) [p0, q0] d L).length ≤ c') ∧ Below w.heap.size w w' := by
  have e := setL_pos (mono1 p0) (fun y => ge1_c [p0, q0] y) (fun y => eq1_c [p0, q0] y) (x := [p0, q0]) d hs
  have hx : (setL (ge1 [p0, q0]) (eq1 [p0, q0]) [p0, q0] d L) = _ := e
  rw [hx]
  have hok : ∀ x ∈ (setL (ge1 [p0, q0]) (eq1 [p0, q0]) [p0, q0] d L), x.length = 2 := fun x h => by
    rcases (setL_len (ge1 [p0, q0]) (eq1 [p0, q0]) [p0, q0] d L).2 x h with rfl | h
    · rfl
    · exact (hk.2 x h).1
  rw [hx] at hok
  refine (putRate a c L p0 ta tc (if d then [] else [[p0, q0]]) w hr hk hs hcap hm (by cases d <;> simp) (by cases d <;> simp)).mono ?_
  rintro e w' ⟨v, rfl, hown, hb⟩
  obtain ⟨a', c', rfl, q1, q2, q3⟩ := rows_new (by decide) hok hown
  exact ⟨⟨a', c', rfl, q1, q2, q3⟩, hb⟩

theorem StB_Rate {n : Nat} {y W0 W : World} {a0 a1 a2 a3 : Option Addr} {d0 d1 d2 d3 : Nat} {b : BookT} {NL : List Item} {a' : Option Addr} {c' base : Nat} (h : StA n y W0 ⟨a0, a1, a2, a3, d0, d1, d2, d3⟩ b W) (hin : BookIn y ⟨a0, a1, a2, a3, d0, d1, d2, d3⟩ b) (hnw : BookNew (n + 3) y ⟨a0, a1, a2, a3, d0, d1, d2, d3⟩ b)
    (hr : RowsOf 2 W a' NL) (hn : RowNew base W a' NL) (hbs : y.heap.size < base) : StB n y.heap.size W0 ⟨a0, a1, a2, a', d0, d1, d2, c'⟩ { b with rs := NL } (W.setCell ⟨y.heap.size, 3, none⟩ (.slice a' NL.length c')) := by
  have hne : ∀ i, base ≤ i → (W.setCell ⟨y.heap.size, 3, none⟩ (.slice a' NL.length c')).heap[i]? = W.heap[i]? := fun i hi => Below.heap_setCell W ⟨y.heap.size, 3, none⟩ _ i (by dsimp only; omega)
  have hold : Below y.heap.size y (W.setCell ⟨y.heap.size, 3, none⟩ (.slice a' NL.length c')) := h.old.setCell (p := ⟨y.heap.size, 3, none⟩) (Nat.le_refl _) _
  obtain ⟨q1, q2⟩ := rows_far hn hr (W' := W.setCell ⟨y.heap.size, 3, none⟩ (.slice a' NL.length c')) (by simp) hne
  have hi2 := hin.below hold
  have hn2 := hnw.below hin hold
  exact ⟨h.lo.setCell (p := ⟨y.heap.size, 3, none⟩) h.nm _, by have := h.sz3; simpa using this, set_blkN h.box 3 _, ⟨hi2.hs, hi2.ss, hi2.os, q1⟩, ⟨hn2.hs, hn2.ss, hn2.os, q2.from (by have := h.nm; omega)⟩⟩

set_option maxRecDepth 100000 in
set_option maxHeartbeats 8000000 in
theorem psetRate (v : Slots) (b : BookT) (p0 q0 : Int) (w : World) (hb : BookIn w v b) (hcp : CapOk v b) (hk : BookOk 1000 b) (hs : riseL lt1 b.rs = true) :
    Calls Try.prog 26 #[.agg (cellsB v b), .agg #[.int .i64 p0, .int .i64 q0]] w (BookOut w (setRateT b [p0, q0])) := by
  obtain ⟨W0, hW0⟩ : ∃ W, ((w.alloc (.cells (cellsB v b) 27)).alloc (.cells #[.int .i64 p0, .int .i64 q0] 47)).alloc (.cells #[.slice none 0 0, .slice none 0 0, .slice none 0 0, .slice none 0 0, .int .i64 0] 27) = W := ⟨_, rfl⟩
  have hlo : Below w.heap.size w W0 := by rw [← hW0]; exact (((Below.refl _ w).alloc (Nat.le_refl _) _).alloc (by simp) _).alloc (by simp; omega) _
  have hsz : W0.heap.size = w.heap.size + 3 := by rw [← hW0]; simp
  have h3 := three_alloc (w := w) (A := .cells (cellsB v b) 27) (B := .cells #[.int .i64 p0, .int .i64 q0] 47) (C := .cells #[.slice none 0 0, .slice none 0 0, .slice none 0 0, .slice none 0 0, .int .i64 0] 27)
  rw [hW0] at h3
  obtain ⟨hx0, hx1, hx2, _⟩ := h3
  have HCB := Lib.hid (show ∀ W, Below (w.heap.size + 3) W0 W → BoxB W w.heap.size v b from fun W h => (h.block _ (by omega)).trans hx0)
  have HCX := Lib.hid (show ∀ W, Below (w.heap.size + 3) W0 W → ∀ i, W.cell? ⟨w.heap.size + 1, i, none⟩ = (#[.int .i64 p0, .int .i64 q0] : Array Value)[i]? from fun W h i => cell_of_row _ _ _ _ 47 (0, 0) ((h.block _ (by omega)).trans hx1))
  have HX2 := Lib.hid (show ∀ W, Below (w.heap.size + 3) W0 W → W.heap[w.heap.size + 1 + 1]? = some (.cells #[.slice none 0 0, .slice none 0 0, .slice none 0 0, .slice none 0 0, .int .i64 0] 27 (0, 0)) from fun W h => (h.block _ (by omega)).trans hx2)
  have HLO := Lib.hid (show ∀ W, Below (w.heap.size + 3) W0 W → Below w.heap.size w W from fun W h => hlo.trans (h.mono (by omega)))
  have HSZ := Lib.hid hsz
  have HBI := Lib.hid (fun W (h : Below (w.heap.size + 3) W0 W) => hb.below (HLO.out W h))
  have HCO := Lib.hid (fun W (h : Below (w.heap.size + 3) W0 W) => copy13 v b W (HBI.out W h) hk)
  have HX0 := Lib.hid (show ∀ W, Below (w.heap.size + 3) W0 W → W.heap[w.heap.size]? = some (.cells (cellsB v b) 27 (0, 0)) from HCB.out)
  have HPU := Lib.hid (fun W (h : Below (w.heap.size + 3) W0 W) ta tc d hm => putsetRate v.r v.cr b.rs p0 q0 ta tc d W (HBI.out W h).rs hk.rs hs hcp.rs hm)
  clear hx0 hx1 hx2 hlo hsz hb hs hk
  obtain ⟨POST, hP⟩ : ∃ P, BookOut w (setRateT b [p0, q0]) = P := ⟨_, rfl⟩
  rw [hP]
  have HPO := Lib.hid hP
  have HRES := Lib.hid (show setRateT b [p0, q0] = { b with rs := setL (ge1 [p0, q0]) (eq1 [p0, q0]) [p0, q0] false b.rs } from rfl)
  obtain ⟨NL, hNL⟩ : ∃ x, setL (ge1 [p0, q0]) (eq1 [p0, q0]) [p0, q0] false b.rs = x := ⟨_, rfl⟩
  rw [hNL] at HRES
  have HNL := Lib.hid hNL
  clear hNL
  obtain ⟨CB, hCB⟩ : ∃ C, cellsB v b = C := ⟨_, rfl⟩
  have hcz : CB.size = 5 := by rw [← hCB]; rfl
  rw [hCB] at hW0 HX0 HCO ⊢
  have HZ5 := Lib.hid (show (Try.prog.info? 27).map (·.size) = some CB.size by rw [hcz]; exact info27)
  clear hP hCB hcz
  have HW0 := Lib.hid hW0
  go_enter Try.func26, Try.ntmps26
  go_upto_region 2 with (first
    | ((with_reducible refine atStore (ty := 27) (x := .tmp 5) (y := .tmp 7) rfl ?_); refine wpList_store_row rfl 27 (.tmp 5) (.tmp 7) rfl y1.heap.size (cellsB v1 b) rfl rfl 27 #[.slice none 0 0, .slice none 0 0, .slice none 0 0, .slice none 0 0, .int .i64 0] (heap_alloc_new y1 _) info27 rfl (by simp [cellsB, Value.oneCell']) ?_)
    | ((with_reducible refine atLoad (ty := 27) (x := .tmp 2) rfl ?_); refine wpList_load_row rfl 27 (.tmp 2) rfl w.heap.size rfl 27 CB (0, 0) _ (HX0.out W0 (Below.refl _ _)) Try.underlying27 rfl HZ5.out ?_)
    | (go_at_call 13; refine (HCO.out W0 (Below.refl _ _)).mono ?_; rintro e y1 ⟨⟨v1, rfl, hin1, hnew1, hcap1⟩, hb1⟩))
  have hbA : Below y1.heap.size y1 ((y1.alloc (.cells #[.slice none 0 0, .slice none 0 0, .slice none 0 0, .slice none 0 0, .int .i64 0] 27)).setRow y1.heap.size (cellsB v1 b)) := below_rowB ((Below.refl _ _).alloc (Nat.le_refl _) _) (Nat.le_refl _)
  rw [HSZ.out] at hb1 hnew1
  refine at_world (Φ := fun W => StA w.heap.size y1 W0 v1 b W) ⟨hb1.trans (hbA.mono (by have := hb1.size; rw [HSZ.out] at this; exact this)), by have := hb1.size; rw [HSZ.out] at this; exact this, setRow_heap _ _ _ _ _ _ (heap_alloc_new y1 _), hbA⟩ ?_
  have HIN1 := Lib.hid hin1
  have HNW1 := Lib.hid hnew1
  clear hbA hb1 hnew1 hin1 hW0 HCO HX0 HZ5
  rintro W2 hs2
  have HS2 := Lib.hid hs2
  clear hs2
  obtain ⟨a0, a1, a2, a3, d0, d1, d2, d3⟩ := v1
  have HC1 := Lib.hid hcap1
  clear hcap1
  obtain ⟨c0, c1, c2, c3, c4⟩ := (HCB.out _ HS2.out.lo).cells
  have x0 : W2.cell? ⟨w.heap.size + 1, 0, none⟩ = some (.int .i64 p0) := HCX.out _ HS2.out.lo 0
  have x1 : W2.cell? ⟨w.heap.size + 1, 1, none⟩ = some (.int .i64 q0) := HCX.out _ HS2.out.lo 1
  go_upto_region 3 with (go_at_call 56; refine (HPU.out _ (HS2.out.lo.alloc HS2.out.sz3 _) (some ⟨W2.heap.size, 0, none⟩) 1 false (row_one W2 [p0, q0] 47)).mono ?_; rw [HNL.out]; rintro e y3 ⟨⟨a', c', rfl, hr3, hn3, hc3⟩, hb3⟩; have HS3 := Lib.hid (HS2.out.below (((Below.refl _ _).alloc (Nat.le_refl _) _).trans (hb3.mono (by simp)))); have hfz := free_of_blkN HS3.out.box 3; have hcc := HS3.out.box.c 3; have hy3 : y1.heap.size < _ := Nat.lt_succ_of_lt HS2.out.sz)
  have hsb := StB_Rate (c' := c') HS3.out HIN1.out HNW1.out hr3 hn3 (by rw [World.size_alloc]; exact hy3)
  have HC3 := Lib.hid (show CapOk ⟨a0, a1, a2, a', d0, d1, d2, c'⟩ { b with rs := NL } from ⟨HC1.out.hs, HC1.out.ss, HC1.out.os, hc3⟩)
  refine at_world (Φ := fun W => StB w.heap.size y1.heap.size W0 ⟨a0, a1, a2, a', d0, d1, d2, c'⟩ { b with rs := NL } W) hsb ?_
  clear hsb hr3 hn3 hy3 hfz hcc x0 x1 c0 c1 c2 c3 c4
  have HNM := Lib.hid HS3.out.nm
  clear HS3 HS2 HIN1 HNW1 HC1
  rintro W4 hs4
  have HS4 := Lib.hid hs4
  have HG4 := Lib.hid (show W4.heap[y1.heap.size]? = some (.cells (cellsB ⟨a0, a1, a2, a', d0, d1, d2, c'⟩ { b with rs := NL }) 27 (0, 0)) from HS4.out.box)
  have HG5 := Lib.hid (HX2.out _ HS4.out.lo)
  have HI4 := Lib.hid (show (Try.prog.info? 27).map (·.size) = some (cellsB ⟨a0, a1, a2, a', d0, d1, d2, c'⟩ { b with rs := NL }).size from info27)
  clear hs4 HX2 HCX HCB
  have HO1 : (cellsB ⟨a0, a1, a2, a', d0, d1, d2, c'⟩ { b with rs := NL }).all (·.oneCell') = true := by simp [cellsB, Value.oneCell']
  obtain ⟨KS, hKS⟩ : ∃ k, cellsB ⟨a0, a1, a2, a', d0, d1, d2, c'⟩ { b with rs := NL } = k := ⟨_, rfl⟩
  rw [hKS] at HG4 HI4 HO1
  have HKS := Lib.hid hKS
  clear hKS
  go_wp2_with (first | ((with_reducible refine atStore (ty := 27) (x := .tmp 4) (y := .tmp 16) rfl ?_); refine wpList_store_row rfl 27 (.tmp 4) (.tmp 16) rfl (w.heap.size + 1 + 1) KS rfl rfl 27 #[.slice none 0 0, .slice none 0 0, .slice none 0 0, .slice none 0 0, .int .i64 0] HG5.out HI4.out (by have h := HI4.out; rw [info27] at h; simpa using h) HO1 ?_) | ((with_reducible refine atLoad (ty := 27) (x := .tmp 5) rfl ?_); refine wpList_load_row rfl 27 (.tmp 5) rfl y1.heap.size rfl 27 KS (0, 0) _ HG4.out Try.underlying27 rfl HI4.out ?_))
  refine ret_cell rfl rfl rfl (setRow_heap _ _ _ _ _ _ HG5.out) Try.underlying27 rfl HI4.out ?_
  rw [← HPO.out, HRES.out]
  obtain ⟨hf1, hf2⟩ := book_far HS4.out.new HS4.out.bin (W' := W4.setRow (w.heap.size + 1 + 1) KS) (by simp) (fun i hi => setRow_ne KS (by omega))
  exact ⟨⟨⟨a0, a1, a2, a', d0, d1, d2, c'⟩, by rw [HKS.out], hf1, hf2.from (by omega), HC3.out⟩, below_row1 (HLO.out _ HS4.out.lo) (by omega)⟩
end Go.Proofs.Ytofmkbijhmbbcaa
