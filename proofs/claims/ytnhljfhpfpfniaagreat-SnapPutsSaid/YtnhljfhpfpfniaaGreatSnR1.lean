/- The document's Get of a book: what lies while it goes on. -/
import Derived.Test.YtnhljfhpfpfniaaGreatMPG
namespace Go.Proofs.YtnhljfhpfpfniaaGreat
open Go.RowKit Base Base2

/-- Columns in an array that lies in a block. -/
structure RgC (B gc : Nat) (cs : List (List Int)) (V : Nat → Value) (W : World) : Prop where
  box : W.heap[gc]? = some (.cells ((List.range 15).map V).toArray 77 (0, 0))
  own : ∀ (j : Nat) (c : List Int), cs[j]? = some c → W.ownsRow B 2 1 (V j) c.length (c.map (Value.int .i64))
theorem RgC.cell {B gc : Nat} {cs : List (List Int)} {V : Nat → Value} {W : World} (h : RgC B gc cs V W) {j : Nat} (hj : j < 15) : W.cell? ⟨gc, j, none⟩ = some (V j) := by
  rw [cell_of_row W gc j _ _ (0, 0) h.box]
  simp [hj]
theorem RgC.below {B gc : Nat} {cs : List (List Int)} {V : Nat → Value} {W W' : World} (h : RgC B gc cs V W) (hb : Below W.heap.size W W') : RgC B gc cs V W' :=
  ⟨(hb.block gc (lt_of_blk h.box)).trans h.box, fun j c hc => own_below' (h.own j c hc) hb⟩
theorem RgC.put {B gc : Nat} {cs : List (List Int)} {V : Nat → Value} {W : World} {v : Value} {l : List Int} {q : Nat} (h : RgC B gc cs V W) (hq : cs.length = q) (ho : W.ownsRow B 2 1 v l.length (l.map (Value.int .i64))) : RgC B gc (cs ++ [l]) (upd V q v) (W.setCell ⟨gc, q, none⟩ v) := by
  refine ⟨by rw [set_blkN h.box, range_upd], fun j c hc => ?_⟩
  by_cases hj : j < q
  · rw [List.getElem?_append_left (by omega)] at hc
    rw [upd_ne V v (by omega)]
    exact own_set' (h.own j c hc) h.box (by decide)
  · have hl := (List.getElem?_eq_some_iff.1 hc).1
    rw [List.length_append, List.length_singleton] at hl
    obtain rfl : j = q := by omega
    rw [List.getElem?_append_right (by omega), hq, Nat.sub_self] at hc
    obtain rfl : l = c := by simpa using hc
    rw [upd_at]
    exact own_set' ho h.box (by decide)
theorem RgC.keep {B gc : Nat} {cs : List (List Int)} {V : Nat → Value} {W W' : World} (h : RgC B gc cs V W) (hk : KeepT W W') : RgC B gc cs V W' := by
  refine ⟨hk.same _ _ h.box rfl, fun j c hc => ?_⟩
  obtain ⟨e, h0⟩ := h.own j c hc
  refine ⟨e, ?_⟩
  rcases h0 with h0 | ⟨g, cap, cur, hv, a1, a2, a3⟩
  · exact .inl h0
  · exact .inr ⟨g, cap, cur, hv, a1, hk.same _ _ a2 rfl, a3⟩
theorem RgC.form {B gc : Nat} {cs : List (List Int)} {V : Nat → Value} {W : World} (h : RgC B gc cs V W) {j : Nat} {c : List Int} (hc : cs[j]? = some c) : ∃ a cap, V j = .slice a c.length cap := own_formS (h.own j c hc)
theorem RgC.at {B gc : Nat} {cs : List (List Int)} {V : Nat → Value} {W : World} (h : RgC B gc cs V W) {j i : Nat} {c : List Int} {z : Int} {g cap n : Nat} (hc : cs[j]? = some c) (hz : c[i]? = some z) (hv : V j = .slice (some ⟨g, 0, none⟩) n cap) : W.cell? ⟨g, i, none⟩ = some (.int .i64 z) := by
  have ho := h.own j c hc
  obtain ⟨a, cap2, hf⟩ := own_formS ho
  rw [hv] at hf
  simp only [Value.slice.injEq] at hf
  obtain ⟨_, rfl, _⟩ := hf
  rw [hv] at ho
  have hi := (List.getElem?_eq_some_iff.1 hz).1
  rw [ho.cellAt i (by omega), List.getElem?_map, hz]; rfl
theorem RgC.ptr {B gc : Nat} {cs : List (List Int)} {V : Nat → Value} {W : World} (h : RgC B gc cs V W) {j : Nat} {c : List Int} (hc : cs[j]? = some c) (hn : 0 < c.length) : ∃ g cap, V j = .slice (some ⟨g, 0, none⟩) c.length cap := own_shape' (h.own j c hc) hn
/-- The first column of a column's list. -/
def firstT (q : Nat) : Nat := if q < 4 then 0 else if q < 7 then 4 else if q < 13 then 7 else 13
def lenQ (cs : List (List Int)) (q : Nat) : Nat := (cs.getD q []).length
theorem lens_iff {cs : List (List Int)} (h15 : cs.length = 15) : lensT cs = true ↔ ∀ q, q < 15 → lenQ cs q = lenQ cs (firstT q) := by
  match cs, h15 with
  | [c0, c1, c2, c3, c4, c5, c6, c7, c8, c9, c10, c11, c12, c13, c14], _ =>
    constructor
    · intro h q hq
      simp [lensT, lenAs] at h
      match q, hq with
      | 0, _ => simp [lenQ, firstT]; try omega
      | 1, _ => simp [lenQ, firstT]; try omega
      | 2, _ => simp [lenQ, firstT]; try omega
      | 3, _ => simp [lenQ, firstT]; try omega
      | 4, _ => simp [lenQ, firstT]; try omega
      | 5, _ => simp [lenQ, firstT]; try omega
      | 6, _ => simp [lenQ, firstT]; try omega
      | 7, _ => simp [lenQ, firstT]; try omega
      | 8, _ => simp [lenQ, firstT]; try omega
      | 9, _ => simp [lenQ, firstT]; try omega
      | 10, _ => simp [lenQ, firstT]; try omega
      | 11, _ => simp [lenQ, firstT]; try omega
      | 12, _ => simp [lenQ, firstT]; try omega
      | 13, _ => simp [lenQ, firstT]; try omega
      | 14, _ => simp [lenQ, firstT]; try omega
      | q + 15, hq => omega
    · intro h
      have h0 := h 0 (by omega)
      have h1 := h 1 (by omega)
      have h2 := h 2 (by omega)
      have h3 := h 3 (by omega)
      have h4 := h 4 (by omega)
      have h5 := h 5 (by omega)
      have h6 := h 6 (by omega)
      have h7 := h 7 (by omega)
      have h8 := h 8 (by omega)
      have h9 := h 9 (by omega)
      have h10 := h 10 (by omega)
      have h11 := h 11 (by omega)
      have h12 := h 12 (by omega)
      have h13 := h 13 (by omega)
      have h14 := h 14 (by omega)
      simp [lenQ, firstT] at h1 h2 h3 h5 h6 h8 h9 h10 h11 h12 h14
      simp [lensT, lenAs]
      omega
theorem col_get {cs : List (List Int)} (h15 : cs.length = 15) {q : Nat} (hq : q < 15) : ∃ c, cs[q]? = some c ∧ c.length = lenQ cs q := by
  obtain ⟨c, hc⟩ : ∃ c, cs[q]? = some c := ⟨cs[q]'(by omega), by simp [h15, hq]⟩
  exact ⟨c, hc, by unfold lenQ; rw [List.getD_eq_getElem?_getD, hc]; rfl⟩
/-- One thing of columns. -/
theorem rowsT_at {cs : List (List Int)} {i : Nat} (hi : i < (cs.getD 0 []).length) : (rowsT cs)[i]? = some (cs.map (fun c => c.getD i 0)) := by
  unfold rowsT
  rw [List.getElem?_map, List.getElem?_range hi]; rfl
theorem rowsT_len (cs : List (List Int)) : (rowsT cs).length = (cs.getD 0 []).length := by simp [rowsT]
theorem BkS.appHolder {B gb : Nat} {W w2 : World} {v : Slots} {b : BookT} {x : Item} {a : Option Addr} {cp : Nat} (h : BkS B gb W v b) (hr : w2.ownsRow B 62 4 (.slice a (b.hs.length + 1) cp) (b.hs.length + 1) (flatI b.hs ++ x.map (Value.int .i64))) (hg : W.grownBy w2 (Value.slice v.h b.hs.length v.ch).ownBlock) (hB : B ≤ W.heap.size) :
    BkS B gb (w2.setCell ⟨gb, 0, none⟩ (.slice a (b.hs.length + 1) cp)) { v with h := a, ch := cp } { b with hs := b.hs ++ [x] } ∧ KeepT W (w2.setCell ⟨gb, 0, none⟩ (.slice a (b.hs.length + 1) cp)) ∧ Below B W (w2.setCell ⟨gb, 0, none⟩ (.slice a (b.hs.length + 1) cp)) ∧ w2.heap[gb]? = some (.cells (cellsB v b) 27 (0, 0)) ∧ KeepT W w2 := by
  have hK : KeepT W w2 := KeepT.row h.h (fun _ => rfl) hg
  have hne : some gb ≠ (Value.slice v.h b.hs.length v.ch).ownBlock := own_ne' h.h h.box (by decide)
  have hgb : w2.heap[gb]? = some (.cells (cellsB v b) 27 (0, 0)) := (hg.block gb (lt_of_blk h.box) hne).trans h.box
  have hoth : ∀ {T : TypeId} {k : Nat} {u : Value} {m : Nat} {xs : List Value}, T ≠ 62 → T ≠ 27 → W.ownsRow B T k u m xs → (w2.setCell ⟨gb, 0, none⟩ (.slice a (b.hs.length + 1) cp)).ownsRow B T k u m xs := fun hT hT2 h2 => by
    have h3 := h2.kept hg (by
      rcases h2.2 with ⟨rfl, _⟩ | ⟨g, cap, cur, rfl, _, hgq, _⟩
      · exact .inl rfl
      · exact .inr (own_ne' h.h hgq hT))
    exact own_set' h3 hgb (fun e => hT2 e.symm)
  have hl2 : Below B W w2 := (Below.refl _ W).grown hg hB (own_block_ge h.h)
  refine ⟨⟨?_, ?_, hoth (by decide) (by decide) h.s, hoth (by decide) (by decide) h.o, hoth (by decide) (by decide) h.r, h.lo⟩, hK.trans (KeepT.set hgb rfl _), hl2.setCell h.lo _, hgb, hK⟩
  · unfold BoxB
    rw [set_blkN hgb]
    simp [cellsB]
  · have h3 := own_set' (i := 0) (u := .slice a (b.hs.length + 1) cp) hr hgb (by decide)
    rw [List.length_append, flatI_app, flatI_one]
    exact h3
theorem BkS.appStake {B gb : Nat} {W w2 : World} {v : Slots} {b : BookT} {x : Item} {a : Option Addr} {cp : Nat} (h : BkS B gb W v b) (hr : w2.ownsRow B 66 3 (.slice a (b.ss.length + 1) cp) (b.ss.length + 1) (flatI b.ss ++ x.map (Value.int .i64))) (hg : W.grownBy w2 (Value.slice v.s b.ss.length v.cs).ownBlock) (hB : B ≤ W.heap.size) :
    BkS B gb (w2.setCell ⟨gb, 1, none⟩ (.slice a (b.ss.length + 1) cp)) { v with s := a, cs := cp } { b with ss := b.ss ++ [x] } ∧ KeepT W (w2.setCell ⟨gb, 1, none⟩ (.slice a (b.ss.length + 1) cp)) ∧ Below B W (w2.setCell ⟨gb, 1, none⟩ (.slice a (b.ss.length + 1) cp)) ∧ w2.heap[gb]? = some (.cells (cellsB v b) 27 (0, 0)) ∧ KeepT W w2 := by
  have hK : KeepT W w2 := KeepT.row h.s (fun _ => rfl) hg
  have hne : some gb ≠ (Value.slice v.s b.ss.length v.cs).ownBlock := own_ne' h.s h.box (by decide)
  have hgb : w2.heap[gb]? = some (.cells (cellsB v b) 27 (0, 0)) := (hg.block gb (lt_of_blk h.box) hne).trans h.box
  have hoth : ∀ {T : TypeId} {k : Nat} {u : Value} {m : Nat} {xs : List Value}, T ≠ 66 → T ≠ 27 → W.ownsRow B T k u m xs → (w2.setCell ⟨gb, 1, none⟩ (.slice a (b.ss.length + 1) cp)).ownsRow B T k u m xs := fun hT hT2 h2 => by
    have h3 := h2.kept hg (by
      rcases h2.2 with ⟨rfl, _⟩ | ⟨g, cap, cur, rfl, _, hgq, _⟩
      · exact .inl rfl
      · exact .inr (own_ne' h.s hgq hT))
    exact own_set' h3 hgb (fun e => hT2 e.symm)
  have hl2 : Below B W w2 := (Below.refl _ W).grown hg hB (own_block_ge h.s)
  refine ⟨⟨?_, hoth (by decide) (by decide) h.h, ?_, hoth (by decide) (by decide) h.o, hoth (by decide) (by decide) h.r, h.lo⟩, hK.trans (KeepT.set hgb rfl _), hl2.setCell h.lo _, hgb, hK⟩
  · unfold BoxB
    rw [set_blkN hgb]
    simp [cellsB]
  · have h3 := own_set' (i := 1) (u := .slice a (b.ss.length + 1) cp) hr hgb (by decide)
    rw [List.length_append, flatI_app, flatI_one]
    exact h3
theorem BkS.appOpen {B gb : Nat} {W w2 : World} {v : Slots} {b : BookT} {x : Item} {a : Option Addr} {cp : Nat} (h : BkS B gb W v b) (hr : w2.ownsRow B 69 6 (.slice a (b.os.length + 1) cp) (b.os.length + 1) (flatI b.os ++ x.map (Value.int .i64))) (hg : W.grownBy w2 (Value.slice v.o b.os.length v.co).ownBlock) (hB : B ≤ W.heap.size) :
    BkS B gb (w2.setCell ⟨gb, 2, none⟩ (.slice a (b.os.length + 1) cp)) { v with o := a, co := cp } { b with os := b.os ++ [x] } ∧ KeepT W (w2.setCell ⟨gb, 2, none⟩ (.slice a (b.os.length + 1) cp)) ∧ Below B W (w2.setCell ⟨gb, 2, none⟩ (.slice a (b.os.length + 1) cp)) ∧ w2.heap[gb]? = some (.cells (cellsB v b) 27 (0, 0)) ∧ KeepT W w2 := by
  have hK : KeepT W w2 := KeepT.row h.o (fun _ => rfl) hg
  have hne : some gb ≠ (Value.slice v.o b.os.length v.co).ownBlock := own_ne' h.o h.box (by decide)
  have hgb : w2.heap[gb]? = some (.cells (cellsB v b) 27 (0, 0)) := (hg.block gb (lt_of_blk h.box) hne).trans h.box
  have hoth : ∀ {T : TypeId} {k : Nat} {u : Value} {m : Nat} {xs : List Value}, T ≠ 69 → T ≠ 27 → W.ownsRow B T k u m xs → (w2.setCell ⟨gb, 2, none⟩ (.slice a (b.os.length + 1) cp)).ownsRow B T k u m xs := fun hT hT2 h2 => by
    have h3 := h2.kept hg (by
      rcases h2.2 with ⟨rfl, _⟩ | ⟨g, cap, cur, rfl, _, hgq, _⟩
      · exact .inl rfl
      · exact .inr (own_ne' h.o hgq hT))
    exact own_set' h3 hgb (fun e => hT2 e.symm)
  have hl2 : Below B W w2 := (Below.refl _ W).grown hg hB (own_block_ge h.o)
  refine ⟨⟨?_, hoth (by decide) (by decide) h.h, hoth (by decide) (by decide) h.s, ?_, hoth (by decide) (by decide) h.r, h.lo⟩, hK.trans (KeepT.set hgb rfl _), hl2.setCell h.lo _, hgb, hK⟩
  · unfold BoxB
    rw [set_blkN hgb]
    simp [cellsB]
  · have h3 := own_set' (i := 2) (u := .slice a (b.os.length + 1) cp) hr hgb (by decide)
    rw [List.length_append, flatI_app, flatI_one]
    exact h3
theorem BkS.appRate {B gb : Nat} {W w2 : World} {v : Slots} {b : BookT} {x : Item} {a : Option Addr} {cp : Nat} (h : BkS B gb W v b) (hr : w2.ownsRow B 64 2 (.slice a (b.rs.length + 1) cp) (b.rs.length + 1) (flatI b.rs ++ x.map (Value.int .i64))) (hg : W.grownBy w2 (Value.slice v.r b.rs.length v.cr).ownBlock) (hB : B ≤ W.heap.size) :
    BkS B gb (w2.setCell ⟨gb, 3, none⟩ (.slice a (b.rs.length + 1) cp)) { v with r := a, cr := cp } { b with rs := b.rs ++ [x] } ∧ KeepT W (w2.setCell ⟨gb, 3, none⟩ (.slice a (b.rs.length + 1) cp)) ∧ Below B W (w2.setCell ⟨gb, 3, none⟩ (.slice a (b.rs.length + 1) cp)) ∧ w2.heap[gb]? = some (.cells (cellsB v b) 27 (0, 0)) ∧ KeepT W w2 := by
  have hK : KeepT W w2 := KeepT.row h.r (fun _ => rfl) hg
  have hne : some gb ≠ (Value.slice v.r b.rs.length v.cr).ownBlock := own_ne' h.r h.box (by decide)
  have hgb : w2.heap[gb]? = some (.cells (cellsB v b) 27 (0, 0)) := (hg.block gb (lt_of_blk h.box) hne).trans h.box
  have hoth : ∀ {T : TypeId} {k : Nat} {u : Value} {m : Nat} {xs : List Value}, T ≠ 64 → T ≠ 27 → W.ownsRow B T k u m xs → (w2.setCell ⟨gb, 3, none⟩ (.slice a (b.rs.length + 1) cp)).ownsRow B T k u m xs := fun hT hT2 h2 => by
    have h3 := h2.kept hg (by
      rcases h2.2 with ⟨rfl, _⟩ | ⟨g, cap, cur, rfl, _, hgq, _⟩
      · exact .inl rfl
      · exact .inr (own_ne' h.r hgq hT))
    exact own_set' h3 hgb (fun e => hT2 e.symm)
  have hl2 : Below B W w2 := (Below.refl _ W).grown hg hB (own_block_ge h.r)
  refine ⟨⟨?_, hoth (by decide) (by decide) h.h, hoth (by decide) (by decide) h.s, hoth (by decide) (by decide) h.o, ?_, h.lo⟩, hK.trans (KeepT.set hgb rfl _), hl2.setCell h.lo _, hgb, hK⟩
  · unfold BoxB
    rw [set_blkN hgb]
    simp [cellsB]
  · have h3 := own_set' (i := 3) (u := .slice a (b.rs.length + 1) cp) hr hgb (by decide)
    rw [List.length_append, flatI_app, flatI_one]
    exact h3
end Go.Proofs.YtnhljfhpfpfniaaGreat
