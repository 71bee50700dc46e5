/- A book that is being made: its box, its rows; a thing more at the end of a row. -/
import Derived.Test.YtellifcjamedkaaGreatMRe
import Derived.Test.YtellifcjamedkaaGreatMNums
namespace Go.Proofs.YtellifcjamedkaaGreat
open Go.RowKit Base Base2
/-- A book's box, or a row of its things. -/
def isBk : Obj → Bool
  | .cells _ t _ => t == 27 || t == 71 || t == 73 || t == 76 || t == 50
  | _ => false
/-- Blocks below it are nobody's to turn. -/
class LowB where
  n : Nat
/-- Whatever is none of a book, or lies low, lies as it lay. -/
structure KeepT [LowB] (W W' : World) : Prop where
  size : W.heap.size ≤ W'.heap.size
  same : ∀ (k : Nat) (o : Obj), W.heap[k]? = some o → isBk o = false → W'.heap[k]? = some o
  low : ∀ (k : Nat) (o : Obj), k < LowB.n → W.heap[k]? = some o → W'.heap[k]? = some o
theorem KeepT.refl [LowB] (W : World) : KeepT W W := ⟨Nat.le_refl _, fun _ _ h _ => h, fun _ _ _ h => h⟩
theorem KeepT.trans [LowB] {A B C : World} (h : KeepT A B) (k : KeepT B C) : KeepT A C := ⟨Nat.le_trans h.size k.size, fun i o h1 h2 => k.same i o (h.same i o h1 h2) h2, fun i o h1 h2 => k.low i o h1 (h.low i o h1 h2)⟩
theorem KeepT.below [LowB] {W W' : World} (h : Below W.heap.size W W') : KeepT W W' := ⟨h.size, fun k _ h1 _ => (h.block k (lt_of_blk h1)).trans h1, fun k _ _ h1 => (h.block k (lt_of_blk h1)).trans h1⟩
theorem KeepT.grown [LowB] {W W' : World} {row : Option Nat} (h : W.grownBy W' row) (hr : ∀ j, row = some j → ∃ o, W.heap[j]? = some o ∧ isBk o = true) (hl : ∀ j, row = some j → LowB.n ≤ j) : KeepT W W' :=
  ⟨h.size, fun k o h1 h2 => (h.block k (lt_of_blk h1) (fun e => by obtain ⟨o', h3, h4⟩ := hr k e.symm; rw [h1] at h3; cases h3; rw [h2] at h4; cases h4)).trans h1, fun k o h1 h2 => (h.block k (lt_of_blk h2) (fun e => by have := hl k e.symm; omega)).trans h2⟩
theorem KeepT.set [LowB] {W : World} {b i : Nat} {o : Obj} (h : W.heap[b]? = some o) (ho : isBk o = true) (v : Value) (hl : LowB.n ≤ b) : KeepT W (W.setCell ⟨b, i, none⟩ v) :=
  ⟨by simp [World.setCell], fun k o' h1 h2 => (Below.heap_setCell _ _ _ k (by rintro rfl; rw [h] at h1; cases h1; rw [h2] at ho; cases ho)).trans h1, fun k o' h1 h2 => (Below.heap_setCell _ _ _ k (by show k ≠ b; omega)).trans h2⟩
theorem KeepT.row [LowB] {W W' : World} {B n k : Nat} {T : TypeId} {v : Value} {xs : List Value} (h : W.ownsRow B T k v n xs) (hT : ∀ cur, isBk (.cells cur T (0, 0)) = true) (hg : W.grownBy W' v.ownBlock) (hl : LowB.n ≤ B) : KeepT W W' := by
  refine KeepT.grown hg (fun j hj => ?_) (fun j hj => Nat.le_trans hl (own_block_ge h j hj))
  rcases h.2 with ⟨rfl, _⟩ | ⟨g, cap, cur, rfl, _, hgb, _⟩
  · simp [Value.ownBlock] at hj
  · obtain rfl : g = j := by simpa [Value.ownBlock] using hj
    exact ⟨_, hgb, hT _⟩
/-- A book that is being made, from a block on. -/
structure BkS [LowB] (B gb : Nat) (W : World) (v : Slots) (b : BookT) : Prop where
  box : BoxB W gb v b
  h : W.ownsRow B 71 4 (.slice v.h b.hs.length v.ch) b.hs.length (flatI b.hs)
  s : W.ownsRow B 73 3 (.slice v.s b.ss.length v.cs) b.ss.length (flatI b.ss)
  o : W.ownsRow B 76 6 (.slice v.o b.os.length v.co) b.os.length (flatI b.os)
  r : W.ownsRow B 50 2 (.slice v.r b.rs.length v.cr) b.rs.length (flatI b.rs)
  lo : B ≤ gb
  hl : LowB.n ≤ B
theorem BkS.zero [LowB] {B gb : Nat} {W : World} {n : Int} (h : W.heap[gb]? = some (.cells #[.slice none 0 0, .slice none 0 0, .slice none 0 0, .slice none 0 0, .int .i64 n] 27 (0, 0))) (hB : B ≤ gb) (hl : LowB.n ≤ B) : BkS B gb W ⟨none, none, none, none, 0, 0, 0, 0⟩ ⟨[], [], [], [], n⟩ :=
  ⟨h, ⟨rfl, .inl ⟨rfl, rfl⟩⟩, ⟨rfl, .inl ⟨rfl, rfl⟩⟩, ⟨rfl, .inl ⟨rfl, rfl⟩⟩, ⟨rfl, .inl ⟨rfl, rfl⟩⟩, hB, hl⟩
theorem rows_ownS {k : Nat} {W : World} {base : Nat} {T : TypeId} {a : Option Addr} {c : Nat} {l : List Item} (hk : ∀ x ∈ l, x.length = k) (h : W.ownsRow base T k (.slice a l.length c) l.length (flatI l)) : RowsOf k W a l := by
  rcases h.2 with ⟨hv, hn⟩ | ⟨g, cap, cur, hv, a1, a2, a3, a4, a5, a6⟩
  · exact .inl (List.eq_nil_of_length_eq_zero hn)
  · obtain ⟨rfl, rfl⟩ : a = some ⟨g, 0, none⟩ ∧ c = cap := by simpa using hv
    refine .inr ⟨g, 0, rfl, (Array.getElem?_eq_some_iff.1 a2).1, fun i x hi j z hz => ?_⟩
    have hat := flatI_at l hk i x hi j z hz
    have := h.cells (g := g) rfl (i * k + j) _ hat
    rw [Addr.add_mid] at this
    rw [show 0 + i * k + j = 0 + (i * k + j) by omega]
    exact this
theorem BkS.isIn [LowB] {B gb m : Nat} {W : World} {v : Slots} {b : BookT} (h : BkS B gb W v b) (hk : BookOk m b) : BookIn W v b :=
  ⟨rows_ownS (fun x hx => (hk.hs.2 x hx).1) h.h, rows_ownS (fun x hx => (hk.ss.2 x hx).1) h.s, rows_ownS (fun x hx => (hk.os.2 x hx).1) h.o, rows_ownS (fun x hx => (hk.rs.2 x hx).1) h.r⟩
theorem BkS.below [LowB] {B gb : Nat} {W W' : World} {v : Slots} {b : BookT} (h : BkS B gb W v b) (hb : Below W.heap.size W W') : BkS B gb W' v b :=
  ⟨(hb.block gb (lt_of_blk h.box)).trans h.box, own_below' h.h hb, own_below' h.s hb, own_below' h.o hb, own_below' h.r hb, h.lo, h.hl⟩
/-- What turns no book and no row of things keeps the book. -/
theorem own_no {W W' : World} {B n k p : Nat} {T : TypeId} {v : Value} {xs : List Value} {o : Obj} (h : W.ownsRow B T k v n xs) (hg : W.grownBy W' (some p)) (hp : W.heap[p]? = some o) (hT : ∀ cur, o ≠ .cells cur T (0, 0)) : W'.ownsRow B T k v n xs := by
  refine h.kept hg ?_
  rcases h.2 with ⟨rfl, _⟩ | ⟨g, cap, cur, rfl, _, hgb, _⟩
  · exact .inl rfl
  · refine .inr (fun e => ?_)
    obtain rfl : g = p := by simpa [Value.ownBlock] using e
    rw [hgb] at hp
    exact hT cur (Option.some.inj hp).symm
theorem BkS.grown [LowB] {B gb p : Nat} {W W' : World} {v : Slots} {b : BookT} {o : Obj} (h : BkS B gb W v b) (hg : W.grownBy W' (some p)) (hp : W.heap[p]? = some o) (ho : isBk o = false) : BkS B gb W' v b := by
  have hne : gb ≠ p := by rintro rfl; have e := h.box; unfold BoxB at e; rw [hp] at e; cases e; simp [isBk] at ho
  have hT : ∀ T, (∀ cur, isBk (.cells cur T (0, 0)) = true) → ∀ cur, o ≠ .cells cur T (0, 0) := fun T h1 cur e => by subst e; rw [h1 cur] at ho; cases ho
  exact ⟨(hg.block gb (lt_of_blk h.box) (fun e => hne (Option.some.inj e))).trans h.box, own_no h.h hg hp (hT _ (fun _ => rfl)), own_no h.s hg hp (hT _ (fun _ => rfl)), own_no h.o hg hp (hT _ (fun _ => rfl)), own_no h.r hg hp (hT _ (fun _ => rfl)), h.lo, h.hl⟩
theorem BkS.appHolder [LowB] {B gb : Nat} {W w2 : World} {v : Slots} {b : BookT} {x : Item} {a : Option Addr} {cp : Nat} (h : BkS B gb W v b) (hr : w2.ownsRow B 71 4 (.slice a (b.hs.length + 1) cp) (b.hs.length + 1) (flatI b.hs ++ x.map (Value.int .i64))) (hg : W.grownBy w2 (Value.slice v.h b.hs.length v.ch).ownBlock) (hB : B ≤ W.heap.size) :
    BkS B gb (w2.setCell ⟨gb, 0, none⟩ (.slice a (b.hs.length + 1) cp)) { v with h := a, ch := cp } { b with hs := b.hs ++ [x] } ∧ KeepT W (w2.setCell ⟨gb, 0, none⟩ (.slice a (b.hs.length + 1) cp)) ∧ Below B W (w2.setCell ⟨gb, 0, none⟩ (.slice a (b.hs.length + 1) cp)) ∧ w2.heap[gb]? = some (.cells (cellsB v b) 27 (0, 0)) ∧ KeepT W w2 := by
  have hK : KeepT W w2 := KeepT.row h.h (fun _ => rfl) hg h.hl
  have hne : some gb ≠ (Value.slice v.h b.hs.length v.ch).ownBlock := own_ne' h.h h.box (by decide)
  have hgb : w2.heap[gb]? = some (.cells (cellsB v b) 27 (0, 0)) := (hg.block gb (lt_of_blk h.box) hne).trans h.box
  have hoth : ∀ {T : TypeId} {k : Nat} {u : Value} {m : Nat} {xs : List Value}, T ≠ 71 → T ≠ 27 → W.ownsRow B T k u m xs → (w2.setCell ⟨gb, 0, none⟩ (.slice a (b.hs.length + 1) cp)).ownsRow B T k u m xs := fun hT hT2 h2 => by
    have h3 := h2.kept hg (by
      rcases h2.2 with ⟨rfl, _⟩ | ⟨g, cap, cur, rfl, _, hgq, _⟩
      · exact .inl rfl
      · exact .inr (own_ne' h.h hgq hT))
    exact own_set' h3 hgb (fun e => hT2 e.symm)
  have hl2 : Below B W w2 := (Below.refl _ W).grown hg hB (own_block_ge h.h)
  refine ⟨⟨?_, ?_, hoth (by decide) (by decide) h.s, hoth (by decide) (by decide) h.o, hoth (by decide) (by decide) h.r, h.lo, h.hl⟩, hK.trans (KeepT.set hgb rfl _ (Nat.le_trans h.hl h.lo)), hl2.setCell h.lo _, hgb, hK⟩
  · unfold BoxB
    rw [set_blkN hgb]
    simp [cellsB]
  · have h3 := own_set' (i := 0) (u := .slice a (b.hs.length + 1) cp) hr hgb (by decide)
    rw [List.length_append, flatI_app, flatI_one]
    exact h3
theorem BkS.appStake [LowB] {B gb : Nat} {W w2 : World} {v : Slots} {b : BookT} {x : Item} {a : Option Addr} {cp : Nat} (h : BkS B gb W v b) (hr : w2.ownsRow B 73 3 (.slice a (b.ss.length + 1) cp) (b.ss.length + 1) (flatI b.ss ++ x.map (Value.int .i64))) (hg : W.grownBy w2 (Value.slice v.s b.ss.length v.cs).ownBlock) (hB : B ≤ W.heap.size) :
    BkS B gb (w2.setCell ⟨gb, 1, none⟩ (.slice a (b.ss.length + 1) cp)) { v with s := a, cs := cp } { b with ss := b.ss ++ [x] } ∧ KeepT W (w2.setCell ⟨gb, 1, none⟩ (.slice a (b.ss.length + 1) cp)) ∧ Below B W (w2.setCell ⟨gb, 1, none⟩ (.slice a (b.ss.length + 1) cp)) ∧ w2.heap[gb]? = some (.cells (cellsB v b) 27 (0, 0)) ∧ KeepT W w2 := by
  have hK : KeepT W w2 := KeepT.row h.s (fun _ => rfl) hg h.hl
  have hne : some gb ≠ (Value.slice v.s b.ss.length v.cs).ownBlock := own_ne' h.s h.box (by decide)
  have hgb : w2.heap[gb]? = some (.cells (cellsB v b) 27 (0, 0)) := (hg.block gb (lt_of_blk h.box) hne).trans h.box
  have hoth : ∀ {T : TypeId} {k : Nat} {u : Value} {m : Nat} {xs : List Value}, T ≠ 73 → T ≠ 27 → W.ownsRow B T k u m xs → (w2.setCell ⟨gb, 1, none⟩ (.slice a (b.ss.length + 1) cp)).ownsRow B T k u m xs := fun hT hT2 h2 => by
    have h3 := h2.kept hg (by
      rcases h2.2 with ⟨rfl, _⟩ | ⟨g, cap, cur, rfl, _, hgq, _⟩
      · exact .inl rfl
      · exact .inr (own_ne' h.s hgq hT))
    exact own_set' h3 hgb (fun e => hT2 e.symm)
  have hl2 : Below B W w2 := (Below.refl _ W).grown hg hB (own_block_ge h.s)
  refine ⟨⟨?_, hoth (by decide) (by decide) h.h, ?_, hoth (by decide) (by decide) h.o, hoth (by decide) (by decide) h.r, h.lo, h.hl⟩, hK.trans (KeepT.set hgb rfl _ (Nat.le_trans h.hl h.lo)), hl2.setCell h.lo _, hgb, hK⟩
  · unfold BoxB
    rw [set_blkN hgb]
    simp [cellsB]
  · have h3 := own_set' (i := 1) (u := .slice a (b.ss.length + 1) cp) hr hgb (by decide)
    rw [List.length_append, flatI_app, flatI_one]
    exact h3
theorem BkS.appOpen [LowB] {B gb : Nat} {W w2 : World} {v : Slots} {b : BookT} {x : Item} {a : Option Addr} {cp : Nat} (h : BkS B gb W v b) (hr : w2.ownsRow B 76 6 (.slice a (b.os.length + 1) cp) (b.os.length + 1) (flatI b.os ++ x.map (Value.int .i64))) (hg : W.grownBy w2 (Value.slice v.o b.os.length v.co).ownBlock) (hB : B ≤ W.heap.size) :
    BkS B gb (w2.setCell ⟨gb, 2, none⟩ (.slice a (b.os.length + 1) cp)) { v with o := a, co := cp } { b with os := b.os ++ [x] } ∧ KeepT W (w2.setCell ⟨gb, 2, none⟩ (.slice a (b.os.length + 1) cp)) ∧ Below B W (w2.setCell ⟨gb, 2, none⟩ (.slice a (b.os.length + 1) cp)) ∧ w2.heap[gb]? = some (.cells (cellsB v b) 27 (0, 0)) ∧ KeepT W w2 := by
  have hK : KeepT W w2 := KeepT.row h.o (fun _ => rfl) hg h.hl
  have hne : some gb ≠ (Value.slice v.o b.os.length v.co).ownBlock := own_ne' h.o h.box (by decide)
  have hgb : w2.heap[gb]? = some (.cells (cellsB v b) 27 (0, 0)) := (hg.block gb (lt_of_blk h.box) hne).trans h.box
  have hoth : ∀ {T : TypeId} {k : Nat} {u : Value} {m : Nat} {xs : List Value}, T ≠ 76 → T ≠ 27 → W.ownsRow B T k u m xs → (w2.setCell ⟨gb, 2, none⟩ (.slice a (b.os.length + 1) cp)).ownsRow B T k u m xs := fun hT hT2 h2 => by
    have h3 := h2.kept hg (by
      rcases h2.2 with ⟨rfl, _⟩ | ⟨g, cap, cur, rfl, _, hgq, _⟩
      · exact .inl rfl
      · exact .inr (own_ne' h.o hgq hT))
    exact own_set' h3 hgb (fun e => hT2 e.symm)
  have hl2 : Below B W w2 := (Below.refl _ W).grown hg hB (own_block_ge h.o)
  refine ⟨⟨?_, hoth (by decide) (by decide) h.h, hoth (by decide) (by decide) h.s, ?_, hoth (by decide) (by decide) h.r, h.lo, h.hl⟩, hK.trans (KeepT.set hgb rfl _ (Nat.le_trans h.hl h.lo)), hl2.setCell h.lo _, hgb, hK⟩
  · unfold BoxB
    rw [set_blkN hgb]
    simp [cellsB]
  · have h3 := own_set' (i := 2) (u := .slice a (b.os.length + 1) cp) hr hgb (by decide)
    rw [List.length_append, flatI_app, flatI_one]
    exact h3
theorem BkS.appRate [LowB] {B gb : Nat} {W w2 : World} {v : Slots} {b : BookT} {x : Item} {a : Option Addr} {cp : Nat} (h : BkS B gb W v b) (hr : w2.ownsRow B 50 2 (.slice a (b.rs.length + 1) cp) (b.rs.length + 1) (flatI b.rs ++ x.map (Value.int .i64))) (hg : W.grownBy w2 (Value.slice v.r b.rs.length v.cr).ownBlock) (hB : B ≤ W.heap.size) :
    BkS B gb (w2.setCell ⟨gb, 3, none⟩ (.slice a (b.rs.length + 1) cp)) { v with r := a, cr := cp } { b with rs := b.rs ++ [x] } ∧ KeepT W (w2.setCell ⟨gb, 3, none⟩ (.slice a (b.rs.length + 1) cp)) ∧ Below B W (w2.setCell ⟨gb, 3, none⟩ (.slice a (b.rs.length + 1) cp)) ∧ w2.heap[gb]? = some (.cells (cellsB v b) 27 (0, 0)) ∧ KeepT W w2 := by
  have hK : KeepT W w2 := KeepT.row h.r (fun _ => rfl) hg h.hl
  have hne : some gb ≠ (Value.slice v.r b.rs.length v.cr).ownBlock := own_ne' h.r h.box (by decide)
  have hgb : w2.heap[gb]? = some (.cells (cellsB v b) 27 (0, 0)) := (hg.block gb (lt_of_blk h.box) hne).trans h.box
  have hoth : ∀ {T : TypeId} {k : Nat} {u : Value} {m : Nat} {xs : List Value}, T ≠ 50 → T ≠ 27 → W.ownsRow B T k u m xs → (w2.setCell ⟨gb, 3, none⟩ (.slice a (b.rs.length + 1) cp)).ownsRow B T k u m xs := fun hT hT2 h2 => by
    have h3 := h2.kept hg (by
      rcases h2.2 with ⟨rfl, _⟩ | ⟨g, cap, cur, rfl, _, hgq, _⟩
      · exact .inl rfl
      · exact .inr (own_ne' h.r hgq hT))
    exact own_set' h3 hgb (fun e => hT2 e.symm)
  have hl2 : Below B W w2 := (Below.refl _ W).grown hg hB (own_block_ge h.r)
  refine ⟨⟨?_, hoth (by decide) (by decide) h.h, hoth (by decide) (by decide) h.s, hoth (by decide) (by decide) h.o, ?_, h.lo, h.hl⟩, hK.trans (KeepT.set hgb rfl _ (Nat.le_trans h.hl h.lo)), hl2.setCell h.lo _, hgb, hK⟩
  · unfold BoxB
    rw [set_blkN hgb]
    simp [cellsB]
  · have h3 := own_set' (i := 3) (u := .slice a (b.rs.length + 1) cp) hr hgb (by decide)
    rw [List.length_append, flatI_app, flatI_one]
    exact h3
end Go.Proofs.YtellifcjamedkaaGreat
