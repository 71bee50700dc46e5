/- A book that is being made: its box, its rows; a thing more at the end of a row. A row laid onto a book: the program's contract. What the walk of Patch wants: stores, results, what its rounds turn. Patch: the program's contract. Patch: the program's contract. -/
import Derived.Test.YtellifcjamedkaaBkSet
import Derived.Test.YtellifcjamedkaaBkRef4
import Derived.Test.YtellifcjamedkaaMNums
import Derived.Test.YtellifcjamedkaaMBackA
import Derived.Test.YtellifcjamedkaaDpDiff
import Derived.Lib.AppendZeros
import Derived.Test.YtellifcjamedkaaDpAlive
import Derived.Test.YtellifcjamedkaaBkQ12
namespace Go.Proofs.Ytellifcjamedkaa
open Go.RowKit Base Base2

/-- A book's box, or a row of its things. -/
def isBk : Obj → Bool
  | .cells _ t _ => t == 27 || t == 64 || t == 66 || t == 69 || t == 44
  | _ => false
/-- Whatever is none of a book lies as it lay. -/
structure KeepT (W W' : World) : Prop where
  size : W.heap.size ≤ W'.heap.size
  same : ∀ (k : Nat) (o : Obj), W.heap[k]? = some o → isBk o = false → W'.heap[k]? = some o
theorem KeepT.refl (W : World) : KeepT W W := ⟨Nat.le_refl _, fun _ _ h _ => h⟩
theorem KeepT.trans {A B C : World} (h : KeepT A B) (k : KeepT B C) : KeepT A C := ⟨Nat.le_trans h.size k.size, fun i o h1 h2 => k.same i o (h.same i o h1 h2) h2⟩
theorem KeepT.below {W W' : World} (h : Below W.heap.size W W') : KeepT W W' := ⟨h.size, fun k _ h1 _ => (h.block k (lt_of_blk h1)).trans h1⟩
theorem KeepT.grown {W W' : World} {row : Option Nat} (h : W.grownBy W' row) (hr : ∀ j, row = some j → ∃ o, W.heap[j]? = some o ∧ isBk o = true) : KeepT W W' :=
  ⟨h.size, fun k o h1 h2 => (h.block k (lt_of_blk h1) (fun e => by obtain ⟨o', h3, h4⟩ := hr k e.symm; rw [h1] at h3; cases h3; rw [h2] at h4; cases h4)).trans h1⟩
theorem KeepT.set {W : World} {b i : Nat} {o : Obj} (h : W.heap[b]? = some o) (ho : isBk o = true) (v : Value) : KeepT W (W.setCell ⟨b, i, none⟩ v) :=
  ⟨by simp [World.setCell], fun k o' h1 h2 => (Below.heap_setCell _ _ _ k (by rintro rfl; rw [h] at h1; cases h1; rw [h2] at ho; cases ho)).trans h1⟩
theorem KeepT.row {W W' : World} {B n k : Nat} {T : TypeId} {v : Value} {xs : List Value} (h : W.ownsRow B T k v n xs) (hT : ∀ cur, isBk (.cells cur T (0, 0)) = true) (hg : W.grownBy W' v.ownBlock) : KeepT W W' := by
  refine KeepT.grown hg fun j hj => ?_
  rcases h.2 with ⟨rfl, _⟩ | ⟨g, cap, cur, rfl, _, hgb, _⟩
  · simp [Value.ownBlock] at hj
  · obtain rfl : g = j := by simpa [Value.ownBlock] using hj
    exact ⟨_, hgb, hT _⟩
/-- A book that is being made, from a block on. -/
structure BkS (B gb : Nat) (W : World) (v : Slots) (b : BookT) : Prop where
  box : BoxB W gb v b
  h : W.ownsRow B 64 4 (.slice v.h b.hs.length v.ch) b.hs.length (flatI b.hs)
  s : W.ownsRow B 66 3 (.slice v.s b.ss.length v.cs) b.ss.length (flatI b.ss)
  o : W.ownsRow B 69 6 (.slice v.o b.os.length v.co) b.os.length (flatI b.os)
  r : W.ownsRow B 44 2 (.slice v.r b.rs.length v.cr) b.rs.length (flatI b.rs)
  lo : B ≤ gb
theorem BkS.zero {B gb : Nat} {W : World} {n : Int} (h : W.heap[gb]? = some (.cells #[.slice none 0 0, .slice none 0 0, .slice none 0 0, .slice none 0 0, .int .i64 n] 27 (0, 0))) (hB : B ≤ gb) : BkS B gb W ⟨none, none, none, none, 0, 0, 0, 0⟩ ⟨[], [], [], [], n⟩ :=
  ⟨h, ⟨rfl, .inl ⟨rfl, rfl⟩⟩, ⟨rfl, .inl ⟨rfl, rfl⟩⟩, ⟨rfl, .inl ⟨rfl, rfl⟩⟩, ⟨rfl, .inl ⟨rfl, rfl⟩⟩, hB⟩
theorem rows_ownS {k : Nat} {W : World} {base : Nat} {T : TypeId} {a : Option Addr} {c : Nat} {l : List Item} (hk : ∀ x ∈ l, x.length = k) (h : W.ownsRow base T k (.slice a l.length c) l.length (flatI l)) : RowsOf k W a l := by
  rcases h.2 with ⟨hv, hn⟩ | ⟨g, cap, cur, hv, a1, a2, a3, a4, a5, a6⟩
  · exact .inl (List.eq_nil_of_length_eq_zero hn)
  · obtain ⟨rfl, rfl⟩ : a = some ⟨g, 0, none⟩ ∧ c = cap := by simpa using hv
    refine .inr ⟨g, 0, rfl, (Array.getElem?_eq_some_iff.1 a2).1, fun i x hi j z hz => ?_⟩
    have hat := flatI_at l hk i x hi j z hz
    have := h.cells (g := g) rfl (i * k + j) _ hat
    rw [Addr.add_mid] at this
    rw [show 0 + i * k + j = 0 + (i * k + j) by omega]
    exact this
theorem BkS.isIn {B gb m : Nat} {W : World} {v : Slots} {b : BookT} (h : BkS B gb W v b) (hk : BookOk m b) : BookIn W v b :=
  ⟨rows_ownS (fun x hx => (hk.hs.2 x hx).1) h.h, rows_ownS (fun x hx => (hk.ss.2 x hx).1) h.s, rows_ownS (fun x hx => (hk.os.2 x hx).1) h.o, rows_ownS (fun x hx => (hk.rs.2 x hx).1) h.r⟩
theorem BkS.below {B gb : Nat} {W W' : World} {v : Slots} {b : BookT} (h : BkS B gb W v b) (hb : Below W.heap.size W W') : BkS B gb W' v b :=
  ⟨(hb.block gb (lt_of_blk h.box)).trans h.box, own_below' h.h hb, own_below' h.s hb, own_below' h.o hb, own_below' h.r hb, h.lo⟩
/-- What turns no book and no row of things keeps the book. -/
theorem own_no {W W' : World} {B n k p : Nat} {T : TypeId} {v : Value} {xs : List Value} {o : Obj} (h : W.ownsRow B T k v n xs) (hg : W.grownBy W' (some p)) (hp : W.heap[p]? = some o) (hT : ∀ cur, o ≠ .cells cur T (0, 0)) : W'.ownsRow B T k v n xs := by
  refine h.kept hg ?_
  rcases h.2 with ⟨rfl, _⟩ | ⟨g, cap, cur, rfl, _, hgb, _⟩
  · exact .inl rfl
  · refine .inr (fun e => ?_)
    obtain rfl : g = p := by simpa [Value.ownBlock] using e
    rw [hgb] at hp
    exact hT cur (Option.some.inj hp).symm
theorem BkS.grown {B gb p : Nat} {W W' : World} {v : Slots} {b : BookT} {o : Obj} (h : BkS B gb W v b) (hg : W.grownBy W' (some p)) (hp : W.heap[p]? = some o) (ho : isBk o = false) : BkS B gb W' v b := by
  have hne : gb ≠ p := by rintro rfl; have e := h.box; unfold BoxB at e; rw [hp] at e; cases e; simp [isBk] at ho
  have hT : ∀ T, (∀ cur, isBk (.cells cur T (0, 0)) = true) → ∀ cur, o ≠ .cells cur T (0, 0) := fun T h1 cur e => by subst e; rw [h1 cur] at ho; cases ho
  exact ⟨(hg.block gb (lt_of_blk h.box) (fun e => hne (Option.some.inj e))).trans h.box, own_no h.h hg hp (hT _ (fun _ => rfl)), own_no h.s hg hp (hT _ (fun _ => rfl)), own_no h.o hg hp (hT _ (fun _ => rfl)), own_no h.r hg hp (hT _ (fun _ => rfl)), h.lo⟩
theorem BkS.appHolder {B gb : Nat} {W w2 : World} {v : Slots} {b : BookT} {x : Item} {a : Option Addr} {cp : Nat} (h : BkS B gb W v b) (hr : w2.ownsRow B 64 4 (.slice a (b.hs.length + 1) cp) (b.hs.length + 1) (flatI b.hs ++ x.map (Value.int .i64))) (hg : W.grownBy w2 (Value.slice v.h b.hs.length v.ch).ownBlock) (hB : B ≤ W.heap.size) :
    BkS B gb (w2.setCell ⟨gb, 0, none⟩ (.slice a (b.hs.length + 1) cp)) { v with h := a, ch := cp } { b with hs := b.hs ++ [x] } ∧ KeepT W (w2.setCell ⟨gb, 0, none⟩ (.slice a (b.hs.length + 1) cp)) ∧ Below B W (w2.setCell ⟨gb, 0, none⟩ (.slice a (b.hs.length + 1) cp)) ∧ w2.heap[gb]? = some (.cells (cellsB v b) 27 (0, 0)) ∧ KeepT W w2 := by
  have hK : KeepT W w2 := KeepT.row h.h (fun _ => rfl) hg
  have hne : some gb ≠ (Value.slice v.h b.hs.length v.ch).ownBlock := own_ne' h.h h.box (by decide)
  have hgb : w2.heap[gb]? = some (.cells (cellsB v b) 27 (0, 0)) := (hg.block gb (lt_of_blk h.box) hne).trans h.box
  have hoth : ∀ {T : TypeId} {k : Nat} {u : Value} {m : Nat} {xs : List Value}, T ≠ 64 → T ≠ 27 → W.ownsRow B T k u m xs → (w2.setCell ⟨gb, 0, none⟩ (.slice a (b.hs.length + 1) cp)).ownsRow B T k u m xs := fun hT hT2 h2 => by
    have h3 := h2.kept hg (by
      rcases h2.2 with ⟨rfl, _⟩ | ⟨g, cap, cur, rfl, _, hgq, _⟩
      · exact .inl rfl
      · exact .inr (own_ne' h.h hgq hT))
    exact own_set' h3 hgb (fun e => hT2 e.symm)
  have hl2 : Below B W w2 := (Below.refl _ W).grown hg hB (own_block_ge h.h)
  refine ⟨⟨?_, ?_, hoth (by decide) (by decide) h.s, hoth (by decide) (by decide) h.o, hoth (by decide) (by decide) h.r, h.lo⟩, hK.trans (KeepT.set hgb rfl _), hl2.setCell h.lo _, hgb, hK⟩
  · unfold BoxB
    rw [set_blkN hgb]
    simp [cellsB]
  · have h3 := own_set' (i := 0) (u := .slice a (b.hs.length + 1) cp) hr hgb (by decide)
    rw [List.length_append, flatI_app, flatI_one]
    exact h3
theorem BkS.appStake {B gb : Nat} {W w2 : World} {v : Slots} {b : BookT} {x : Item} {a : Option Addr} {cp : Nat} (h : BkS B gb W v b) (hr : w2.ownsRow B 66 3 (.slice a (b.ss.length + 1) cp) (b.ss.length + 1) (flatI b.ss ++ x.map (Value.int .i64))) (hg : W.grownBy w2 (Value.slice v.s b.ss.length v.cs).ownBlock) (hB : B ≤ W.heap.size) :
    BkS B gb (w2.setCell ⟨gb, 1, none⟩ (.slice a (b.ss.length + 1) cp)) { v with s := a, cs := cp } { b with ss := b.ss ++ [x] } ∧ KeepT W (w2.setCell ⟨gb, 1, none⟩ (.slice a (b.ss.length + 1) cp)) ∧ Below B W (w2.setCell ⟨gb, 1, none⟩ (.slice a (b.ss.length + 1) cp)) ∧ w2.heap[gb]? = some (.cells (cellsB v b) 27 (0, 0)) ∧ KeepT W w2 := by
  have hK : KeepT W w2 := KeepT.row h.s (fun _ => rfl) hg
  have hne : some gb ≠ (Value.slice v.s b.ss.length v.cs).ownBlock := own_ne' h.s h.box (by decide)
  have hgb : w2.heap[gb]? = some (.cells (cellsB v b) 27 (0, 0)) := (hg.block gb (lt_of_blk h.box) hne).trans h.box
  have hoth : ∀ {T : TypeId} {k : Nat} {u : Value} {m : Nat} {xs : List Value}, T ≠ 66 → T ≠ 27 → W.ownsRow B T k u m xs → (w2.setCell ⟨gb, 1, none⟩ (.slice a (b.ss.length + 1) cp)).ownsRow B T k u m xs := fun hT hT2 h2 => by
    have h3 := h2.kept hg (by
      rcases h2.2 with ⟨rfl, _⟩ | ⟨g, cap, cur, rfl, _, hgq, _⟩
      · exact .inl rfl
      · exact .inr (own_ne' h.s hgq hT))
    exact own_set' h3 hgb (fun e => hT2 e.symm)
  have hl2 : Below B W w2 := (Below.refl _ W).grown hg hB (own_block_ge h.s)
  refine ⟨⟨?_, hoth (by decide) (by decide) h.h, ?_, hoth (by decide) (by decide) h.o, hoth (by decide) (by decide) h.r, h.lo⟩, hK.trans (KeepT.set hgb rfl _), hl2.setCell h.lo _, hgb, hK⟩
  · unfold BoxB
    rw [set_blkN hgb]
    simp [cellsB]
  · have h3 := own_set' (i := 1) (u := .slice a (b.ss.length + 1) cp) hr hgb (by decide)
    rw [List.length_append, flatI_app, flatI_one]
    exact h3
theorem BkS.appOpen {B gb : Nat} {W w2 : World} {v : Slots} {b : BookT} {x : Item} {a : Option Addr} {cp : Nat} (h : BkS B gb W v b) (hr : w2.ownsRow B 69 6 (.slice a (b.os.length + 1) cp) (b.os.length + 1) (flatI b.os ++ x.map (Value.int .i64))) (hg : W.grownBy w2 (Value.slice v.o b.os.length v.co).ownBlock) (hB : B ≤ W.heap.size) :
    BkS B gb (w2.setCell ⟨gb, 2, none⟩ (.slice a (b.os.length + 1) cp)) { v with o := a, co := cp } { b with os := b.os ++ [x] } ∧ KeepT W (w2.setCell ⟨gb, 2, none⟩ (.slice a (b.os.length + 1) cp)) ∧ Below B W (w2.setCell ⟨gb, 2, none⟩ (.slice a (b.os.length + 1) cp)) ∧ w2.heap[gb]? = some (.cells (cellsB v b) 27 (0, 0)) ∧ KeepT W w2 := by
  have hK : KeepT W w2 := KeepT.row h.o (fun _ => rfl) hg
  have hne : some gb ≠ (Value.slice v.o b.os.length v.co).ownBlock := own_ne' h.o h.box (by decide)
  have hgb : w2.heap[gb]? = some (.cells (cellsB v b) 27 (0, 0)) := (hg.block gb (lt_of_blk h.box) hne).trans h.box
  have hoth : ∀ {T : TypeId} {k : Nat} {u : Value} {m : Nat} {xs : List Value}, T ≠ 69 → T ≠ 27 → W.ownsRow B T k u m xs → (w2.setCell ⟨gb, 2, none⟩ (.slice a (b.os.length + 1) cp)).ownsRow B T k u m xs := fun hT hT2 h2 => by
    have h3 := h2.kept hg (by
      rcases h2.2 with ⟨rfl, _⟩ | ⟨g, cap, cur, rfl, _, hgq, _⟩
      · exact .inl rfl
      · exact .inr (own_ne' h.o hgq hT))
    exact own_set' h3 hgb (fun e => hT2 e.symm)
  have hl2 : Below B W w2 := (Below.refl _ W).grown hg hB (own_block_ge h.o)
  refine ⟨⟨?_, hoth (by decide) (by decide) h.h, hoth (by decide) (by decide) h.s, ?_, hoth (by decide) (by decide) h.r, h.lo⟩, hK.trans (KeepT.set hgb rfl _), hl2.setCell h.lo _, hgb, hK⟩
  · unfold BoxB
    rw [set_blkN hgb]
    simp [cellsB]
  · have h3 := own_set' (i := 2) (u := .slice a (b.os.length + 1) cp) hr hgb (by decide)
    rw [List.length_append, flatI_app, flatI_one]
    exact h3
theorem BkS.appRate {B gb : Nat} {W w2 : World} {v : Slots} {b : BookT} {x : Item} {a : Option Addr} {cp : Nat} (h : BkS B gb W v b) (hr : w2.ownsRow B 44 2 (.slice a (b.rs.length + 1) cp) (b.rs.length + 1) (flatI b.rs ++ x.map (Value.int .i64))) (hg : W.grownBy w2 (Value.slice v.r b.rs.length v.cr).ownBlock) (hB : B ≤ W.heap.size) :
    BkS B gb (w2.setCell ⟨gb, 3, none⟩ (.slice a (b.rs.length + 1) cp)) { v with r := a, cr := cp } { b with rs := b.rs ++ [x] } ∧ KeepT W (w2.setCell ⟨gb, 3, none⟩ (.slice a (b.rs.length + 1) cp)) ∧ Below B W (w2.setCell ⟨gb, 3, none⟩ (.slice a (b.rs.length + 1) cp)) ∧ w2.heap[gb]? = some (.cells (cellsB v b) 27 (0, 0)) ∧ KeepT W w2 := by
  have hK : KeepT W w2 := KeepT.row h.r (fun _ => rfl) hg
  have hne : some gb ≠ (Value.slice v.r b.rs.length v.cr).ownBlock := own_ne' h.r h.box (by decide)
  have hgb : w2.heap[gb]? = some (.cells (cellsB v b) 27 (0, 0)) := (hg.block gb (lt_of_blk h.box) hne).trans h.box
  have hoth : ∀ {T : TypeId} {k : Nat} {u : Value} {m : Nat} {xs : List Value}, T ≠ 44 → T ≠ 27 → W.ownsRow B T k u m xs → (w2.setCell ⟨gb, 3, none⟩ (.slice a (b.rs.length + 1) cp)).ownsRow B T k u m xs := fun hT hT2 h2 => by
    have h3 := h2.kept hg (by
      rcases h2.2 with ⟨rfl, _⟩ | ⟨g, cap, cur, rfl, _, hgq, _⟩
      · exact .inl rfl
      · exact .inr (own_ne' h.r hgq hT))
    exact own_set' h3 hgb (fun e => hT2 e.symm)
  have hl2 : Below B W w2 := (Below.refl _ W).grown hg hB (own_block_ge h.r)
  refine ⟨⟨?_, hoth (by decide) (by decide) h.h, hoth (by decide) (by decide) h.s, hoth (by decide) (by decide) h.o, ?_, h.lo⟩, hK.trans (KeepT.set hgb rfl _), hl2.setCell h.lo _, hgb, hK⟩
  · unfold BoxB
    rw [set_blkN hgb]
    simp [cellsB]
  · have h3 := own_set' (i := 3) (u := .slice a (b.rs.length + 1) cp) hr hgb (by decide)
    rw [List.length_append, flatI_app, flatI_one]
    exact h3
end Go.Proofs.Ytellifcjamedkaa

namespace Go.Proofs.Ytellifcjamedkaa
open Go.RowKit Base Base2
theorem infoZHolder : (Try.prog.info? 64).map (fun i => (i.zero, i.size, i.bytes)) = some (some (.agg #[.int .i64 0, .int .i64 0, .int .i64 0, .int .i64 0]), 4, 32) := by kernel_rfl
theorem infoZStake : (Try.prog.info? 66).map (fun i => (i.zero, i.size, i.bytes)) = some (some (.agg #[.int .i64 0, .int .i64 0, .int .i64 0]), 3, 24) := by kernel_rfl
theorem infoZOpen : (Try.prog.info? 69).map (fun i => (i.zero, i.size, i.bytes)) = some (some (.agg #[.int .i64 0, .int .i64 0, .int .i64 0, .int .i64 0, .int .i64 0, .int .i64 0]), 6, 48) := by kernel_rfl
theorem infoZRate : (Try.prog.info? 44).map (fun i => (i.zero, i.size, i.bytes)) = some (some (.agg #[.int .i64 0, .int .i64 0]), 2, 16) := by kernel_rfl

theorem isBk_no {cs : Array Value} {t : TypeId} {fz : Nat × Nat} (h : (t == 27 || t == 64 || t == 66 || t == 69 || t == 44) = false) : isBk (.cells cs t fz) = false := h
theorem BkS.setCo {B gb : Nat} {W : World} {v : Slots} {b : BookT} (h : BkS B gb W v b) (n : Int) : BkS B gb (W.setCell ⟨gb, 4, none⟩ (.int .i64 n)) v { b with co := n } ∧ KeepT W (W.setCell ⟨gb, 4, none⟩ (.int .i64 n)) ∧ Below B W (W.setCell ⟨gb, 4, none⟩ (.int .i64 n)) := by
  refine ⟨⟨?_, own_set' h.h h.box (by decide), own_set' h.s h.box (by decide), own_set' h.o h.box (by decide), own_set' h.r h.box (by decide), h.lo⟩, KeepT.set h.box rfl _, (Below.refl _ _).setCell h.lo _⟩
  unfold BoxB
  rw [set_blkN h.box]
  simp [cellsB]
theorem KeepT.val {W W' : World} {a : Option Addr} {v : List Int} (h : KeepT W W') (hv : ValAt W a v) : ValAt W' a v := hv.keep fun k _ hk => h.same k _ hk rfl
theorem val_cells {W : World} {a : Option Addr} {v : List Int} (h : ValAt W a v) (hne : v ≠ []) : ∃ k off, a = some ⟨k, off, none⟩ ∧ ∀ W', KeepT W W' → ∀ (i : Nat) (z : Int), v[i]? = some z → W'.cell? ⟨k, off + i, none⟩ = some (.int .i64 z) := by
  rcases h with h | ⟨k, off, cs, h1, h2, h3⟩
  · exact absurd h hne
  · exact ⟨k, off, h1, fun W' hk i z hz => by rw [cell_of_row _ _ _ _ _ _ (hk.same k _ h2 rfl)]; exact h3 i z hz⟩
/-- Whatever other book's box lies as it lay. -/
def KeepG (gb : Nat) (W W' : World) : Prop := ∀ (k : Nat) (cs : Array Value), W.heap[k]? = some (.cells cs 27 (0, 0)) → k ≠ gb → W'.heap[k]? = some (.cells cs 27 (0, 0))
theorem KeepG.below {gb : Nat} {W W' : World} (h : Below W.heap.size W W') : KeepG gb W W' := fun k _ hk _ => (h.block k (lt_of_blk hk)).trans hk
theorem KeepG.trans {gb : Nat} {A B C : World} (h : KeepG gb A B) (k : KeepG gb B C) : KeepG gb A C := fun i cs h1 h2 => k i cs (h i cs h1 h2) h2
theorem KeepG.grown {gb B n k : Nat} {W W' : World} {T : TypeId} {v : Value} {xs : List Value} (h : W.ownsRow B T k v n xs) (hg : W.grownBy W' v.ownBlock) (hT : 27 ≠ T) : KeepG gb W W' := fun i _ hi _ => (hg.block i (lt_of_blk hi) (own_ne' h hi hT)).trans hi
theorem KeepG.set {gb i : Nat} {W : World} (v : Value) : KeepG gb W (W.setCell ⟨gb, i, none⟩ v) := fun k _ h1 h2 => (Below.heap_setCell _ _ _ k h2).trans h1
/-- What lay does. -/
def LayOut (B gb : Nat) (w : World) (b : BookT) (e : Ending) (w' : World) : Prop := e = .returned (.tuple #[]) ∧ (∃ v', BkS B gb w' v' b) ∧ KeepT w w' ∧ Below B w w' ∧ KeepG gb w w'
set_option maxRecDepth 100000 in
set_option maxHeartbeats 8000000 in
theorem layHolder (B gb : Nat) (v : Slots) (b : BookT) (a kb : Int) (V : List Int) (A : Option Addr) (C : Nat) (w : World) (h : BkS B gb w v b) (hB : B ≤ w.heap.size) (hr : ValAt w A V) (hv : V.length = 3) (hm : b.hs.length ≤ 20000) :
    Calls Try.prog 29 #[.pointer (some ⟨gb, 0, none⟩), .agg #[.int .i64 1, .int .i64 a, .int .i64 kb, .slice A 3 C]] w (LayOut B gb w (layB b ⟨1, a, kb, V⟩)) := by
  obtain ⟨v0, v1, v2, rfl⟩ : ∃ v0 v1 v2, V = [v0, v1, v2] := by
    match V, hv with
    | [v0, v1, v2], _ => exact ⟨v0, v1, v2, rfl⟩
  obtain ⟨vg, vo, rfl, hvc⟩ := val_cells hr (by simp)
  have hA : Below w.heap.size w (w.alloc (.cells #[.int .i64 1, .int .i64 a, .int .i64 kb, .slice (some ⟨vg, vo, none⟩) 3 C] 54)) := (Below.refl _ w).alloc (Nat.le_refl _) _
  have HBK := Lib.hid (h.below hA)
  have HVC := Lib.hid hvc
  have HBB := Lib.hid hB
  have hkA := KeepT.below hA
  obtain ⟨W0, hW0⟩ : ∃ x, w.alloc (.cells #[.int .i64 1, .int .i64 a, .int .i64 kb, .slice (some ⟨vg, vo, none⟩) 3 C] 54) = x := ⟨_, rfl⟩
  have hbx : W0.heap[w.heap.size]? = some (.cells #[.int .i64 1, .int .i64 a, .int .i64 kb, .slice (some ⟨vg, vo, none⟩) 3 C] 54 (0, 0)) := by rw [← hW0]; exact heap_alloc_new w _
  rw [hW0] at HBK hA hkA
  have HW0 := Lib.hid hW0
  have HA := Lib.hid hA
  have HKA := Lib.hid hkA
  have HBX := Lib.hid (fun W (hk : KeepT W0 W) => hk.same _ _ hbx rfl)
  have x0 : W0.cell? ⟨w.heap.size, 0, none⟩ = some (.int .i64 1) := by rw [cell_of_row _ _ _ _ _ _ hbx]; rfl
  have x1 : W0.cell? ⟨w.heap.size, 1, none⟩ = some (.int .i64 a) := by rw [cell_of_row _ _ _ _ _ _ hbx]; rfl
  have x3 : W0.cell? ⟨w.heap.size, 3, none⟩ = some (.slice (some ⟨vg, vo, none⟩) 3 C) := by rw [cell_of_row _ _ _ _ _ _ hbx]; rfl
  obtain ⟨i0, hi0, hz0', hz1', hz2'⟩ := info_parts infoZHolder
  clear h hr hvc hB hA hkA hbx hv
  go_enter Try.func29, Try.ntmps29
  go_upto_region 1 with (fail)
  clear hW0
  go_quiet (fail)
  go_upto_region 2 with (fail)
  refine at_world (Φ := fun W => KeepT W0 W ∧ Below W0.heap.size W0 W ∧ W.cell? ⟨w.heap.size, 0, none⟩ = some (.int .i64 1)) ⟨KeepT.below (below_drews nq), below_drews nq, x0⟩ ?_
  clear x0 x1 x3
  rintro W1 ⟨hk1, hb1, x0⟩
  have HK1 := Lib.hid hk1
  have HB1 := Lib.hid hb1
  have HBK1 := Lib.hid (HBK.out.below hb1)
  have hown := HBK1.out.h
  have HOWN := Lib.hid hown
  have hec := HBK1.out.box.cells.1
  have HEC := Lib.hid hec
  have HSZ := Lib.hid (show B ≤ W1.heap.size from Nat.le_trans (Nat.le_trans HBB.out HA.out.size) hb1.size)
  have HGB := Lib.hid (lt_of_blk HBK1.out.box)
  have HVV := Lib.hid (fun W (hk : KeepT W1 W) => HVC.out W ((HKA.out.trans HK1.out).trans hk))
  have HXX := Lib.hid (fun W (hk : KeepT W1 W) => HBX.out W (HK1.out.trans hk))
  clear hk1 hb1 hown hec
  go_upto_region 4 with (fail)
  clear x0
  have HAL := Lib.hid (show Below W1.heap.size W1 (W1.alloc (.cells #[.int .i64 a, .int .i64 v0, .int .i64 v1, .int .i64 v2] 64)).drew from ((Below.refl _ _).alloc (Nat.le_refl _) _).drew)
  refine wp_region_held_drew (S := fun W => KeepT W1 W) (by kernel_rfl) (KeepT.below ((Below.refl _ _).drew)) (fun hS => ?_)
  refine wpAnyH_take (i := 0) (v := .pointer (some ⟨gb, 0, none⟩)) rfl (by kernel_rfl) (by kernel_rfl) (by kernel_rfl) (fun _ _ _ h => h) (Or.inl ⟨by simp [Region.wanted], fun W _ => by go_simp⟩) hS ?_
  simp only [List.getElem_toArray, List.getElem_cons_zero, Act.put, List.setIfInBounds_toArray, List.set_cons_zero, List.set_cons_succ]
  refine wpAnyH_take (i := 1) (v := .pointer (some ⟨gb, 0, none⟩)) rfl (by kernel_rfl) (by kernel_rfl) (by kernel_rfl) (fun _ _ _ h => h) (Or.inl ⟨by simp [Region.wanted], fun W _ => by go_simp⟩) hS ?_
  simp only [List.getElem_toArray, List.getElem_cons_zero, List.getElem_cons_succ, Act.put, List.setIfInBounds_toArray, List.set_cons_zero, List.set_cons_succ]
  refine wpAnyH_take (i := 2) (v := .pointer (some ⟨gb, 0, none⟩)) rfl (by kernel_rfl) (by kernel_rfl) (by kernel_rfl) (fun _ _ _ h => h) (Or.inl ⟨by simp [Region.wanted], fun W _ => by go_simp⟩) hS ?_
  simp only [List.getElem_toArray, List.getElem_cons_zero, List.getElem_cons_succ, Act.put, List.setIfInBounds_toArray, List.set_cons_zero, List.set_cons_succ]
  refine wpAnyH_take (i := 3) (v := .pointer (some ⟨gb, 0, none⟩)) rfl (by kernel_rfl) (by kernel_rfl) (by kernel_rfl) (fun _ _ _ h => h) (Or.inl ⟨by simp [Region.wanted], fun W _ => by go_simp⟩) hS ?_
  simp only [List.getElem_toArray, List.getElem_cons_zero, List.getElem_cons_succ, Act.put, List.setIfInBounds_toArray, List.set_cons_zero, List.set_cons_succ]
  refine wpAnyH_take (i := 5) (v := .int .i64 a) rfl (by kernel_rfl) (by kernel_rfl) (by kernel_rfl) (fun _ _ _ h => h) (Or.inl ⟨by simp [Region.wanted], fun W _ => by go_simp⟩) hS ?_
  simp only [List.getElem_toArray, List.getElem_cons_zero, List.getElem_cons_succ, Act.put, List.setIfInBounds_toArray, List.set_cons_zero, List.set_cons_succ]
  refine wpAnyH_take (i := 6) (v := .slice (some ⟨vg, vo, none⟩) 3 C) rfl (by kernel_rfl) (by kernel_rfl) (by kernel_rfl) (fun _ _ _ h => h) (Or.inl ⟨by simp [Region.wanted], fun W _ => by go_simp⟩) hS ?_
  simp only [List.getElem_toArray, List.getElem_cons_zero, List.getElem_cons_succ, Act.put, List.setIfInBounds_toArray, List.set_cons_zero, List.set_cons_succ]
  refine wpAnyH_take (i := 7) (v := .pointer (some ⟨vg, vo, none⟩)) rfl (by kernel_rfl) (by kernel_rfl) (by kernel_rfl) (fun _ _ _ h => h) (Or.inl ⟨by simp [Region.wanted], fun W _ => by go_simp⟩) hS ?_
  simp only [List.getElem_toArray, List.getElem_cons_zero, List.getElem_cons_succ, Act.put, List.setIfInBounds_toArray, List.set_cons_zero, List.set_cons_succ]
  refine wpAnyH_take (i := 8) (v := .int .i64 v0) rfl (by kernel_rfl) (by kernel_rfl) (by kernel_rfl) (fun _ _ _ h => h) (Or.inl ⟨by simp [Region.wanted], fun W hW => by have kz := HVV.out W hW 0 v0 rfl; rw [Nat.add_zero] at kz; go_simp⟩) hS ?_
  simp only [List.getElem_toArray, List.getElem_cons_zero, List.getElem_cons_succ, Act.put, List.setIfInBounds_toArray, List.set_cons_zero, List.set_cons_succ]
  refine wpAnyH_take (i := 9) (v := .slice (some ⟨vg, vo, none⟩) 3 C) rfl (by kernel_rfl) (by kernel_rfl) (by kernel_rfl) (fun _ _ _ h => h) (Or.inl ⟨by simp [Region.wanted], fun W _ => by go_simp⟩) hS ?_
  simp only [List.getElem_toArray, List.getElem_cons_zero, List.getElem_cons_succ, Act.put, List.setIfInBounds_toArray, List.set_cons_zero, List.set_cons_succ]
  refine wpAnyH_take (i := 10) (v := .pointer (some ⟨vg, vo + 1, none⟩)) rfl (by kernel_rfl) (by kernel_rfl) (by kernel_rfl) (fun _ _ _ h => h) (Or.inl ⟨by simp [Region.wanted], fun W _ => by go_simp⟩) hS ?_
  simp only [List.getElem_toArray, List.getElem_cons_zero, List.getElem_cons_succ, Act.put, List.setIfInBounds_toArray, List.set_cons_zero, List.set_cons_succ]
  refine wpAnyH_take (i := 11) (v := .int .i64 v1) rfl (by kernel_rfl) (by kernel_rfl) (by kernel_rfl) (fun _ _ _ h => h) (Or.inl ⟨by simp [Region.wanted], fun W hW => by have kz := HVV.out W hW 1 v1 rfl; go_simp⟩) hS ?_
  simp only [List.getElem_toArray, List.getElem_cons_zero, List.getElem_cons_succ, Act.put, List.setIfInBounds_toArray, List.set_cons_zero, List.set_cons_succ]
  refine wpAnyH_take (i := 12) (v := .slice (some ⟨vg, vo, none⟩) 3 C) rfl (by kernel_rfl) (by kernel_rfl) (by kernel_rfl) (fun _ _ _ h => h) (Or.inl ⟨by simp [Region.wanted], fun W _ => by go_simp⟩) hS ?_
  simp only [List.getElem_toArray, List.getElem_cons_zero, List.getElem_cons_succ, Act.put, List.setIfInBounds_toArray, List.set_cons_zero, List.set_cons_succ]
  refine wpAnyH_take (i := 13) (v := .pointer (some ⟨vg, vo + 2, none⟩)) rfl (by kernel_rfl) (by kernel_rfl) (by kernel_rfl) (fun _ _ _ h => h) (Or.inl ⟨by simp [Region.wanted], fun W _ => by go_simp⟩) hS ?_
  simp only [List.getElem_toArray, List.getElem_cons_zero, List.getElem_cons_succ, Act.put, List.setIfInBounds_toArray, List.set_cons_zero, List.set_cons_succ]
  refine wpAnyH_take (i := 14) (v := .int .i64 v2) rfl (by kernel_rfl) (by kernel_rfl) (by kernel_rfl) (fun _ _ _ h => h) (Or.inl ⟨by simp [Region.wanted], fun W hW => by have kz := HVV.out W hW 2 v2 rfl; go_simp⟩) hS ?_
  simp only [List.getElem_toArray, List.getElem_cons_zero, List.getElem_cons_succ, Act.put, List.setIfInBounds_toArray, List.set_cons_zero, List.set_cons_succ]
  refine wpAnyH_take (i := 15) (v := .agg #[.int .i64 a, .int .i64 v0, .int .i64 v1, .int .i64 v2]) rfl (by kernel_rfl) (by kernel_rfl) (by kernel_rfl) (fun _ _ _ h => h) (Or.inl ⟨by simp [Region.wanted], fun W _ => by go_simp⟩) hS ?_
  simp only [List.getElem_toArray, List.getElem_cons_zero, List.getElem_cons_succ, Act.put, List.setIfInBounds_toArray, List.set_cons_zero, List.set_cons_succ]
  refine wpAnyH_ready (rs := [4, 16]) (by kernel_rfl) (by simp) ?_
  refine AllReadyH.cons rfl (fun KA hKA => ?_) (AllReadyH.cons rfl (fun KA hKA => ?_) AllReadyH.nil)
  · refine wanted_go rfl ?_
    simp only [List.getElem_toArray, List.getElem_cons_zero, List.getElem_cons_succ]
    have ec := HEC.out
    go_wp2
    refine hKA.out _ _ (KeepT.below ((Below.refl _ _).drew)) (fun _ => ?_)
    clear ec
    refine wpAnyH_ready (rs := [16]) (by kernel_rfl) (by simp) ?_
    refine AllReadyH.cons rfl (fun KB hKB => ?_) AllReadyH.nil
    refine wanted_go rfl ?_
    simp only [List.getElem_toArray, List.getElem_cons_zero, List.getElem_cons_succ]
    go_wp2
    refine hKB.out _ _ (KeepT.below HAL.out) (fun _ => ?_)
    obtain ⟨v', w2, hr, hown, hgrow, _⟩ := run_append_own (P := Try.prog) (w := (W1.alloc (.cells #[.int .i64 a, .int .i64 v0, .int .i64 v1, .int .i64 v2] 64)).drew) B 22 22 64 i0 _ 4 32 Try.underlying22 hi0 hz0' hz1' hz2' rfl (by decide) _ _ _ (own_below' HOWN.out HAL.out) ⟨W1.heap.size, 0, none⟩ 1 1 [.int .i64 a, .int .i64 v0, .int .i64 v1, .int .i64 v2] rfl (fun j u hu => new_cells W1 [.int .i64 a, .int .i64 v0, .int .i64 v1, .int .i64 v2] 64 j u hu) (one_items [a, v0, v1, v2]) (by unfold maxLen; omega) (by omega) (Nat.le_trans HSZ.out HAL.out.size)
    obtain ⟨av, cv, hv⟩ := own_formK hown
    subst hv
    obtain ⟨hN1, hN2, hN3, hN4, hN5⟩ := (HBK1.out.below HAL.out).appHolder (x := [a, v0, v1, v2]) (a := av) (cp := cv) (w2 := w2) hown hgrow (Nat.le_trans HSZ.out HAL.out.size)
    have HKQ := Lib.hid (KeepT.below HAL.out)
    have hfz := free_of_blkN hN4 0
    obtain ⟨uo, hcc⟩ := cell_of_blkN hN4 0 (by simp [cellsB])
    refine wpAnyH_ready (rs := [17]) (by kernel_rfl) (by simp) ?_
    refine AllReadyH.cons rfl (fun KE hKE => ?_) AllReadyH.nil
    refine wanted_go rfl ?_
    simp only [List.getElem_toArray, List.getElem_cons_zero, List.getElem_cons_succ]
    refine Lib.wp_append_run _ _ _ _ _ rfl _ _ rfl rfl _ _ hr ?_
    refine hKE.out _ _ (HKQ.out.trans hN5) (fun hSE => ?_)
    refine wpAnyH_take (i := 18) (v := .pointer (some ⟨gb, 0, none⟩)) rfl (by kernel_rfl) (by kernel_rfl) (by kernel_rfl) (fun _ _ _ h => h) (Or.inl ⟨by simp [Region.wanted], fun W _ => by go_simp⟩) hSE ?_
    simp only [List.getElem_toArray, List.getElem_cons_zero, List.getElem_cons_succ, Act.put, List.setIfInBounds_toArray, List.set_cons_zero, List.set_cons_succ]
    refine wpAnyH_take (i := 19) (v := .pointer (some ⟨gb, 0, none⟩)) rfl (by kernel_rfl) (by kernel_rfl) (by kernel_rfl) (fun _ _ _ h => h) (Or.inl ⟨by simp [Region.wanted], fun W _ => by go_simp⟩) hSE ?_
    simp only [List.getElem_toArray, List.getElem_cons_zero, List.getElem_cons_succ, Act.put, List.setIfInBounds_toArray, List.set_cons_zero, List.set_cons_succ]
    refine wpAnyH_ready (rs := [20]) (by kernel_rfl) (by simp) ?_
    refine AllReadyH.cons rfl (fun KF hKF => ?_) AllReadyH.nil
    refine wanted_go rfl ?_
    simp only [List.getElem_toArray, List.getElem_cons_zero, List.getElem_cons_succ]
    go_wp2
    refine hKF.out _ _ (HKQ.out.trans hN2) (fun _ => ?_)
    refine wpAnyH_done (by kernel_rfl) ?_ _
    have HN1 := Lib.hid hN1
    have HN2 := Lib.hid (HKQ.out.trans hN2)
    have HN3 := Lib.hid ((HAL.out.mono HSZ.out).trans hN3)
    have HN6 := Lib.hid ((((KeepG.below HA.out).trans (KeepG.below HB1.out)).trans (KeepG.below (gb := gb) HAL.out)).trans ((KeepG.grown (own_below' HOWN.out HAL.out) hgrow (by decide)).trans (KeepG.set (i := 0) (.slice av (b.hs.length + 1) cv))))
    clear hN1 hN2 hN3 hN4 hN5 hown hgrow hr hfz hcc hSE
    go_wp2
    go_end0
    exact ⟨rfl, ⟨_, HN1.out⟩, (HKA.out.trans HK1.out).trans HN2.out, ((HA.out.mono HBB.out).trans (HB1.out.mono (Nat.le_trans HBB.out HA.out.size))).trans HN3.out, HN6.out⟩
  · refine wanted_go rfl ?_
    simp only [List.getElem_toArray, List.getElem_cons_zero, List.getElem_cons_succ]
    go_wp2
    refine hKA.out _ _ (KeepT.below HAL.out) (fun _ => ?_)
    refine wpAnyH_ready (rs := [4]) (by kernel_rfl) (by simp) ?_
    refine AllReadyH.cons rfl (fun KB hKB => ?_) AllReadyH.nil
    refine wanted_go rfl ?_
    simp only [List.getElem_toArray, List.getElem_cons_zero, List.getElem_cons_succ]
    have ec := (HAL.out.cell (p := ⟨gb, 0, none⟩) HGB.out).trans HEC.out
    go_wp2
    refine hKB.out _ _ (KeepT.below HAL.out) (fun _ => ?_)
    clear ec
    obtain ⟨v', w2, hr, hown, hgrow, _⟩ := run_append_own (P := Try.prog) (w := (W1.alloc (.cells #[.int .i64 a, .int .i64 v0, .int .i64 v1, .int .i64 v2] 64)).drew) B 22 22 64 i0 _ 4 32 Try.underlying22 hi0 hz0' hz1' hz2' rfl (by decide) _ _ _ (own_below' HOWN.out HAL.out) ⟨W1.heap.size, 0, none⟩ 1 1 [.int .i64 a, .int .i64 v0, .int .i64 v1, .int .i64 v2] rfl (fun j u hu => new_cells W1 [.int .i64 a, .int .i64 v0, .int .i64 v1, .int .i64 v2] 64 j u hu) (one_items [a, v0, v1, v2]) (by unfold maxLen; omega) (by omega) (Nat.le_trans HSZ.out HAL.out.size)
    obtain ⟨av, cv, hv⟩ := own_formK hown
    subst hv
    obtain ⟨hN1, hN2, hN3, hN4, hN5⟩ := (HBK1.out.below HAL.out).appHolder (x := [a, v0, v1, v2]) (a := av) (cp := cv) (w2 := w2) hown hgrow (Nat.le_trans HSZ.out HAL.out.size)
    have HKQ := Lib.hid (KeepT.below HAL.out)
    have hfz := free_of_blkN hN4 0
    obtain ⟨uo, hcc⟩ := cell_of_blkN hN4 0 (by simp [cellsB])
    refine wpAnyH_ready (rs := [17]) (by kernel_rfl) (by simp) ?_
    refine AllReadyH.cons rfl (fun KE hKE => ?_) AllReadyH.nil
    refine wanted_go rfl ?_
    simp only [List.getElem_toArray, List.getElem_cons_zero, List.getElem_cons_succ]
    refine Lib.wp_append_run _ _ _ _ _ rfl _ _ rfl rfl _ _ hr ?_
    refine hKE.out _ _ (HKQ.out.trans hN5) (fun hSE => ?_)
    refine wpAnyH_take (i := 18) (v := .pointer (some ⟨gb, 0, none⟩)) rfl (by kernel_rfl) (by kernel_rfl) (by kernel_rfl) (fun _ _ _ h => h) (Or.inl ⟨by simp [Region.wanted], fun W _ => by go_simp⟩) hSE ?_
    simp only [List.getElem_toArray, List.getElem_cons_zero, List.getElem_cons_succ, Act.put, List.setIfInBounds_toArray, List.set_cons_zero, List.set_cons_succ]
    refine wpAnyH_take (i := 19) (v := .pointer (some ⟨gb, 0, none⟩)) rfl (by kernel_rfl) (by kernel_rfl) (by kernel_rfl) (fun _ _ _ h => h) (Or.inl ⟨by simp [Region.wanted], fun W _ => by go_simp⟩) hSE ?_
    simp only [List.getElem_toArray, List.getElem_cons_zero, List.getElem_cons_succ, Act.put, List.setIfInBounds_toArray, List.set_cons_zero, List.set_cons_succ]
    refine wpAnyH_ready (rs := [20]) (by kernel_rfl) (by simp) ?_
    refine AllReadyH.cons rfl (fun KF hKF => ?_) AllReadyH.nil
    refine wanted_go rfl ?_
    simp only [List.getElem_toArray, List.getElem_cons_zero, List.getElem_cons_succ]
    go_wp2
    refine hKF.out _ _ (HKQ.out.trans hN2) (fun _ => ?_)
    refine wpAnyH_done (by kernel_rfl) ?_ _
    have HN1 := Lib.hid hN1
    have HN2 := Lib.hid (HKQ.out.trans hN2)
    have HN3 := Lib.hid ((HAL.out.mono HSZ.out).trans hN3)
    have HN6 := Lib.hid ((((KeepG.below HA.out).trans (KeepG.below HB1.out)).trans (KeepG.below (gb := gb) HAL.out)).trans ((KeepG.grown (own_below' HOWN.out HAL.out) hgrow (by decide)).trans (KeepG.set (i := 0) (.slice av (b.hs.length + 1) cv))))
    clear hN1 hN2 hN3 hN4 hN5 hown hgrow hr hfz hcc hSE
    go_wp2
    go_end0
    exact ⟨rfl, ⟨_, HN1.out⟩, (HKA.out.trans HK1.out).trans HN2.out, ((HA.out.mono HBB.out).trans (HB1.out.mono (Nat.le_trans HBB.out HA.out.size))).trans HN3.out, HN6.out⟩
set_option maxRecDepth 100000 in
set_option maxHeartbeats 8000000 in
theorem layStake (B gb : Nat) (v : Slots) (b : BookT) (a kb : Int) (V : List Int) (A : Option Addr) (C : Nat) (w : World) (h : BkS B gb w v b) (hB : B ≤ w.heap.size) (hr : ValAt w A V) (hv : V.length = 1) (hm : b.ss.length ≤ 20000) :
    Calls Try.prog 29 #[.pointer (some ⟨gb, 0, none⟩), .agg #[.int .i64 2, .int .i64 a, .int .i64 kb, .slice A 1 C]] w (LayOut B gb w (layB b ⟨2, a, kb, V⟩)) := by
  obtain ⟨v0, rfl⟩ : ∃ v0, V = [v0] := by
    match V, hv with
    | [v0], _ => exact ⟨v0, rfl⟩
  obtain ⟨vg, vo, rfl, hvc⟩ := val_cells hr (by simp)
  have hA : Below w.heap.size w (w.alloc (.cells #[.int .i64 2, .int .i64 a, .int .i64 kb, .slice (some ⟨vg, vo, none⟩) 1 C] 54)) := (Below.refl _ w).alloc (Nat.le_refl _) _
  have HBK := Lib.hid (h.below hA)
  have HVC := Lib.hid hvc
  have HBB := Lib.hid hB
  have hkA := KeepT.below hA
  obtain ⟨W0, hW0⟩ : ∃ x, w.alloc (.cells #[.int .i64 2, .int .i64 a, .int .i64 kb, .slice (some ⟨vg, vo, none⟩) 1 C] 54) = x := ⟨_, rfl⟩
  have hbx : W0.heap[w.heap.size]? = some (.cells #[.int .i64 2, .int .i64 a, .int .i64 kb, .slice (some ⟨vg, vo, none⟩) 1 C] 54 (0, 0)) := by rw [← hW0]; exact heap_alloc_new w _
  rw [hW0] at HBK hA hkA
  have HW0 := Lib.hid hW0
  have HA := Lib.hid hA
  have HKA := Lib.hid hkA
  have HBX := Lib.hid (fun W (hk : KeepT W0 W) => hk.same _ _ hbx rfl)
  have x0 : W0.cell? ⟨w.heap.size, 0, none⟩ = some (.int .i64 2) := by rw [cell_of_row _ _ _ _ _ _ hbx]; rfl
  have x1 : W0.cell? ⟨w.heap.size, 1, none⟩ = some (.int .i64 a) := by rw [cell_of_row _ _ _ _ _ _ hbx]; rfl
  have x3 : W0.cell? ⟨w.heap.size, 3, none⟩ = some (.slice (some ⟨vg, vo, none⟩) 1 C) := by rw [cell_of_row _ _ _ _ _ _ hbx]; rfl
  obtain ⟨i0, hi0, hz0', hz1', hz2'⟩ := info_parts infoZStake
  clear h hr hvc hB hA hkA hbx hv
  go_enter Try.func29, Try.ntmps29
  go_upto_region 1 with (fail)
  clear hW0
  go_quiet (fail)
  go_upto_region 2 with (fail)
  refine at_world (Φ := fun W => KeepT W0 W ∧ Below W0.heap.size W0 W ∧ W.cell? ⟨w.heap.size, 0, none⟩ = some (.int .i64 2)) ⟨KeepT.below (below_drews nq), below_drews nq, x0⟩ ?_
  clear x0 x1 x3
  rintro W1 ⟨hk1, hb1, x0⟩
  have HK1 := Lib.hid hk1
  have HB1 := Lib.hid hb1
  have HBK1 := Lib.hid (HBK.out.below hb1)
  have hown := HBK1.out.s
  have HOWN := Lib.hid hown
  have hec := HBK1.out.box.cells.2.1
  have HEC := Lib.hid hec
  have HSZ := Lib.hid (show B ≤ W1.heap.size from Nat.le_trans (Nat.le_trans HBB.out HA.out.size) hb1.size)
  have HGB := Lib.hid (lt_of_blk HBK1.out.box)
  have HVV := Lib.hid (fun W (hk : KeepT W1 W) => HVC.out W ((HKA.out.trans HK1.out).trans hk))
  have HXX := Lib.hid (fun W (hk : KeepT W1 W) => HBX.out W (HK1.out.trans hk))
  clear hk1 hb1 hown hec
  go_upto_region 6 with (fail)
  clear x0
  have HAL := Lib.hid (show Below W1.heap.size W1 (W1.alloc (.cells #[.int .i64 a, .int .i64 kb, .int .i64 v0] 66)).drew from ((Below.refl _ _).alloc (Nat.le_refl _) _).drew)
  refine wp_region_held_drew (S := fun W => KeepT W1 W) (by kernel_rfl) (KeepT.below ((Below.refl _ _).drew)) (fun hS => ?_)
  refine wpAnyH_take (i := 0) (v := .pointer (some ⟨gb, 0, none⟩)) rfl (by kernel_rfl) (by kernel_rfl) (by kernel_rfl) (fun _ _ _ h => h) (Or.inl ⟨by simp [Region.wanted], fun W _ => by go_simp⟩) hS ?_
  simp only [List.getElem_toArray, List.getElem_cons_zero, Act.put, List.setIfInBounds_toArray, List.set_cons_zero, List.set_cons_succ]
  refine wpAnyH_take (i := 1) (v := .pointer (some ⟨gb, 0, none⟩)) rfl (by kernel_rfl) (by kernel_rfl) (by kernel_rfl) (fun _ _ _ h => h) (Or.inl ⟨by simp [Region.wanted], fun W _ => by go_simp⟩) hS ?_
  simp only [List.getElem_toArray, List.getElem_cons_zero, List.getElem_cons_succ, Act.put, List.setIfInBounds_toArray, List.set_cons_zero, List.set_cons_succ]
  refine wpAnyH_take (i := 2) (v := .pointer (some ⟨gb, 0, none⟩)) rfl (by kernel_rfl) (by kernel_rfl) (by kernel_rfl) (fun _ _ _ h => h) (Or.inl ⟨by simp [Region.wanted], fun W _ => by go_simp⟩) hS ?_
  simp only [List.getElem_toArray, List.getElem_cons_zero, List.getElem_cons_succ, Act.put, List.setIfInBounds_toArray, List.set_cons_zero, List.set_cons_succ]
  refine wpAnyH_take (i := 3) (v := .pointer (some ⟨gb, 1, none⟩)) rfl (by kernel_rfl) (by kernel_rfl) (by kernel_rfl) (fun _ _ _ h => h) (Or.inl ⟨by simp [Region.wanted], fun W _ => by go_simp⟩) hS ?_
  simp only [List.getElem_toArray, List.getElem_cons_zero, List.getElem_cons_succ, Act.put, List.setIfInBounds_toArray, List.set_cons_zero, List.set_cons_succ]
  refine wpAnyH_take (i := 5) (v := .int .i64 a) rfl (by kernel_rfl) (by kernel_rfl) (by kernel_rfl) (fun _ _ _ h => h) (Or.inl ⟨by simp [Region.wanted], fun W _ => by go_simp⟩) hS ?_
  simp only [List.getElem_toArray, List.getElem_cons_zero, List.getElem_cons_succ, Act.put, List.setIfInBounds_toArray, List.set_cons_zero, List.set_cons_succ]
  refine wpAnyH_take (i := 6) (v := .pointer (some ⟨w.heap.size, 0, none⟩)) rfl (by kernel_rfl) (by kernel_rfl) (by kernel_rfl) (fun _ _ _ h => h) (Or.inl ⟨by simp [Region.wanted], fun W _ => by go_simp⟩) hS ?_
  simp only [List.getElem_toArray, List.getElem_cons_zero, List.getElem_cons_succ, Act.put, List.setIfInBounds_toArray, List.set_cons_zero, List.set_cons_succ]
  refine wpAnyH_take (i := 7) (v := .pointer (some ⟨w.heap.size, 2, none⟩)) rfl (by kernel_rfl) (by kernel_rfl) (by kernel_rfl) (fun _ _ _ h => h) (Or.inl ⟨by simp [Region.wanted], fun W _ => by go_simp⟩) hS ?_
  simp only [List.getElem_toArray, List.getElem_cons_zero, List.getElem_cons_succ, Act.put, List.setIfInBounds_toArray, List.set_cons_zero, List.set_cons_succ]
  refine wpAnyH_take (i := 8) (v := .int .i64 kb) rfl (by kernel_rfl) (by kernel_rfl) (by kernel_rfl) (fun _ _ _ h => h) (Or.inl ⟨by simp [Region.wanted], fun W hW => by have kc := cell_of_row _ _ 2 _ _ _ (HXX.out W hW); go_simp⟩) hS ?_
  simp only [List.getElem_toArray, List.getElem_cons_zero, List.getElem_cons_succ, Act.put, List.setIfInBounds_toArray, List.set_cons_zero, List.set_cons_succ]
  refine wpAnyH_take (i := 9) (v := .slice (some ⟨vg, vo, none⟩) 1 C) rfl (by kernel_rfl) (by kernel_rfl) (by kernel_rfl) (fun _ _ _ h => h) (Or.inl ⟨by simp [Region.wanted], fun W _ => by go_simp⟩) hS ?_
  simp only [List.getElem_toArray, List.getElem_cons_zero, List.getElem_cons_succ, Act.put, List.setIfInBounds_toArray, List.set_cons_zero, List.set_cons_succ]
  refine wpAnyH_take (i := 10) (v := .pointer (some ⟨vg, vo, none⟩)) rfl (by kernel_rfl) (by kernel_rfl) (by kernel_rfl) (fun _ _ _ h => h) (Or.inl ⟨by simp [Region.wanted], fun W _ => by go_simp⟩) hS ?_
  simp only [List.getElem_toArray, List.getElem_cons_zero, List.getElem_cons_succ, Act.put, List.setIfInBounds_toArray, List.set_cons_zero, List.set_cons_succ]
  refine wpAnyH_take (i := 11) (v := .int .i64 v0) rfl (by kernel_rfl) (by kernel_rfl) (by kernel_rfl) (fun _ _ _ h => h) (Or.inl ⟨by simp [Region.wanted], fun W hW => by have kz := HVV.out W hW 0 v0 rfl; rw [Nat.add_zero] at kz; go_simp⟩) hS ?_
  simp only [List.getElem_toArray, List.getElem_cons_zero, List.getElem_cons_succ, Act.put, List.setIfInBounds_toArray, List.set_cons_zero, List.set_cons_succ]
  refine wpAnyH_take (i := 12) (v := .agg #[.int .i64 a, .int .i64 kb, .int .i64 v0]) rfl (by kernel_rfl) (by kernel_rfl) (by kernel_rfl) (fun _ _ _ h => h) (Or.inl ⟨by simp [Region.wanted], fun W _ => by go_simp⟩) hS ?_
  simp only [List.getElem_toArray, List.getElem_cons_zero, List.getElem_cons_succ, Act.put, List.setIfInBounds_toArray, List.set_cons_zero, List.set_cons_succ]
  refine wpAnyH_ready (rs := [4, 13]) (by kernel_rfl) (by simp) ?_
  refine AllReadyH.cons rfl (fun KA hKA => ?_) (AllReadyH.cons rfl (fun KA hKA => ?_) AllReadyH.nil)
  · refine wanted_go rfl ?_
    simp only [List.getElem_toArray, List.getElem_cons_zero, List.getElem_cons_succ]
    have ec := HEC.out
    go_wp2
    refine hKA.out _ _ (KeepT.below ((Below.refl _ _).drew)) (fun _ => ?_)
    clear ec
    refine wpAnyH_ready (rs := [13]) (by kernel_rfl) (by simp) ?_
    refine AllReadyH.cons rfl (fun KB hKB => ?_) AllReadyH.nil
    refine wanted_go rfl ?_
    simp only [List.getElem_toArray, List.getElem_cons_zero, List.getElem_cons_succ]
    go_wp2
    refine hKB.out _ _ (KeepT.below HAL.out) (fun _ => ?_)
    obtain ⟨v', w2, hr, hown, hgrow, _⟩ := run_append_own (P := Try.prog) (w := (W1.alloc (.cells #[.int .i64 a, .int .i64 kb, .int .i64 v0] 66)).drew) B 23 23 66 i0 _ 3 24 Try.underlying23 hi0 hz0' hz1' hz2' rfl (by decide) _ _ _ (own_below' HOWN.out HAL.out) ⟨W1.heap.size, 0, none⟩ 1 1 [.int .i64 a, .int .i64 kb, .int .i64 v0] rfl (fun j u hu => new_cells W1 [.int .i64 a, .int .i64 kb, .int .i64 v0] 66 j u hu) (one_items [a, kb, v0]) (by unfold maxLen; omega) (by omega) (Nat.le_trans HSZ.out HAL.out.size)
    obtain ⟨av, cv, hv⟩ := own_formK hown
    subst hv
    obtain ⟨hN1, hN2, hN3, hN4, hN5⟩ := (HBK1.out.below HAL.out).appStake (x := [a, kb, v0]) (a := av) (cp := cv) (w2 := w2) hown hgrow (Nat.le_trans HSZ.out HAL.out.size)
    have HKQ := Lib.hid (KeepT.below HAL.out)
    have hfz := free_of_blkN hN4 1
    obtain ⟨uo, hcc⟩ := cell_of_blkN hN4 1 (by simp [cellsB])
    refine wpAnyH_ready (rs := [14]) (by kernel_rfl) (by simp) ?_
    refine AllReadyH.cons rfl (fun KE hKE => ?_) AllReadyH.nil
    refine wanted_go rfl ?_
    simp only [List.getElem_toArray, List.getElem_cons_zero, List.getElem_cons_succ]
    refine Lib.wp_append_run _ _ _ _ _ rfl _ _ rfl rfl _ _ hr ?_
    refine hKE.out _ _ (HKQ.out.trans hN5) (fun hSE => ?_)
    refine wpAnyH_take (i := 15) (v := .pointer (some ⟨gb, 0, none⟩)) rfl (by kernel_rfl) (by kernel_rfl) (by kernel_rfl) (fun _ _ _ h => h) (Or.inl ⟨by simp [Region.wanted], fun W _ => by go_simp⟩) hSE ?_
    simp only [List.getElem_toArray, List.getElem_cons_zero, List.getElem_cons_succ, Act.put, List.setIfInBounds_toArray, List.set_cons_zero, List.set_cons_succ]
    refine wpAnyH_take (i := 16) (v := .pointer (some ⟨gb, 1, none⟩)) rfl (by kernel_rfl) (by kernel_rfl) (by kernel_rfl) (fun _ _ _ h => h) (Or.inl ⟨by simp [Region.wanted], fun W _ => by go_simp⟩) hSE ?_
    simp only [List.getElem_toArray, List.getElem_cons_zero, List.getElem_cons_succ, Act.put, List.setIfInBounds_toArray, List.set_cons_zero, List.set_cons_succ]
    refine wpAnyH_ready (rs := [17]) (by kernel_rfl) (by simp) ?_
    refine AllReadyH.cons rfl (fun KF hKF => ?_) AllReadyH.nil
    refine wanted_go rfl ?_
    simp only [List.getElem_toArray, List.getElem_cons_zero, List.getElem_cons_succ]
    go_wp2
    refine hKF.out _ _ (HKQ.out.trans hN2) (fun _ => ?_)
    refine wpAnyH_done (by kernel_rfl) ?_ _
    have HN1 := Lib.hid hN1
    have HN2 := Lib.hid (HKQ.out.trans hN2)
    have HN3 := Lib.hid ((HAL.out.mono HSZ.out).trans hN3)
    have HN6 := Lib.hid ((((KeepG.below HA.out).trans (KeepG.below HB1.out)).trans (KeepG.below (gb := gb) HAL.out)).trans ((KeepG.grown (own_below' HOWN.out HAL.out) hgrow (by decide)).trans (KeepG.set (i := 1) (.slice av (b.ss.length + 1) cv))))
    clear hN1 hN2 hN3 hN4 hN5 hown hgrow hr hfz hcc hSE
    go_wp2
    go_end0
    exact ⟨rfl, ⟨_, HN1.out⟩, (HKA.out.trans HK1.out).trans HN2.out, ((HA.out.mono HBB.out).trans (HB1.out.mono (Nat.le_trans HBB.out HA.out.size))).trans HN3.out, HN6.out⟩
  · refine wanted_go rfl ?_
    simp only [List.getElem_toArray, List.getElem_cons_zero, List.getElem_cons_succ]
    go_wp2
    refine hKA.out _ _ (KeepT.below HAL.out) (fun _ => ?_)
    refine wpAnyH_ready (rs := [4]) (by kernel_rfl) (by simp) ?_
    refine AllReadyH.cons rfl (fun KB hKB => ?_) AllReadyH.nil
    refine wanted_go rfl ?_
    simp only [List.getElem_toArray, List.getElem_cons_zero, List.getElem_cons_succ]
    have ec := (HAL.out.cell (p := ⟨gb, 1, none⟩) HGB.out).trans HEC.out
    go_wp2
    refine hKB.out _ _ (KeepT.below HAL.out) (fun _ => ?_)
    clear ec
    obtain ⟨v', w2, hr, hown, hgrow, _⟩ := run_append_own (P := Try.prog) (w := (W1.alloc (.cells #[.int .i64 a, .int .i64 kb, .int .i64 v0] 66)).drew) B 23 23 66 i0 _ 3 24 Try.underlying23 hi0 hz0' hz1' hz2' rfl (by decide) _ _ _ (own_below' HOWN.out HAL.out) ⟨W1.heap.size, 0, none⟩ 1 1 [.int .i64 a, .int .i64 kb, .int .i64 v0] rfl (fun j u hu => new_cells W1 [.int .i64 a, .int .i64 kb, .int .i64 v0] 66 j u hu) (one_items [a, kb, v0]) (by unfold maxLen; omega) (by omega) (Nat.le_trans HSZ.out HAL.out.size)
    obtain ⟨av, cv, hv⟩ := own_formK hown
    subst hv
    obtain ⟨hN1, hN2, hN3, hN4, hN5⟩ := (HBK1.out.below HAL.out).appStake (x := [a, kb, v0]) (a := av) (cp := cv) (w2 := w2) hown hgrow (Nat.le_trans HSZ.out HAL.out.size)
    have HKQ := Lib.hid (KeepT.below HAL.out)
    have hfz := free_of_blkN hN4 1
    obtain ⟨uo, hcc⟩ := cell_of_blkN hN4 1 (by simp [cellsB])
    refine wpAnyH_ready (rs := [14]) (by kernel_rfl) (by simp) ?_
    refine AllReadyH.cons rfl (fun KE hKE => ?_) AllReadyH.nil
    refine wanted_go rfl ?_
    simp only [List.getElem_toArray, List.getElem_cons_zero, List.getElem_cons_succ]
    refine Lib.wp_append_run _ _ _ _ _ rfl _ _ rfl rfl _ _ hr ?_
    refine hKE.out _ _ (HKQ.out.trans hN5) (fun hSE => ?_)
    refine wpAnyH_take (i := 15) (v := .pointer (some ⟨gb, 0, none⟩)) rfl (by kernel_rfl) (by kernel_rfl) (by kernel_rfl) (fun _ _ _ h => h) (Or.inl ⟨by simp [Region.wanted], fun W _ => by go_simp⟩) hSE ?_
    simp only [List.getElem_toArray, List.getElem_cons_zero, List.getElem_cons_succ, Act.put, List.setIfInBounds_toArray, List.set_cons_zero, List.set_cons_succ]
    refine wpAnyH_take (i := 16) (v := .pointer (some ⟨gb, 1, none⟩)) rfl (by kernel_rfl) (by kernel_rfl) (by kernel_rfl) (fun _ _ _ h => h) (Or.inl ⟨by simp [Region.wanted], fun W _ => by go_simp⟩) hSE ?_
    simp only [List.getElem_toArray, List.getElem_cons_zero, List.getElem_cons_succ, Act.put, List.setIfInBounds_toArray, List.set_cons_zero, List.set_cons_succ]
    refine wpAnyH_ready (rs := [17]) (by kernel_rfl) (by simp) ?_
    refine AllReadyH.cons rfl (fun KF hKF => ?_) AllReadyH.nil
    refine wanted_go rfl ?_
    simp only [List.getElem_toArray, List.getElem_cons_zero, List.getElem_cons_succ]
    go_wp2
    refine hKF.out _ _ (HKQ.out.trans hN2) (fun _ => ?_)
    refine wpAnyH_done (by kernel_rfl) ?_ _
    have HN1 := Lib.hid hN1
    have HN2 := Lib.hid (HKQ.out.trans hN2)
    have HN3 := Lib.hid ((HAL.out.mono HSZ.out).trans hN3)
    have HN6 := Lib.hid ((((KeepG.below HA.out).trans (KeepG.below HB1.out)).trans (KeepG.below (gb := gb) HAL.out)).trans ((KeepG.grown (own_below' HOWN.out HAL.out) hgrow (by decide)).trans (KeepG.set (i := 1) (.slice av (b.ss.length + 1) cv))))
    clear hN1 hN2 hN3 hN4 hN5 hown hgrow hr hfz hcc hSE
    go_wp2
    go_end0
    exact ⟨rfl, ⟨_, HN1.out⟩, (HKA.out.trans HK1.out).trans HN2.out, ((HA.out.mono HBB.out).trans (HB1.out.mono (Nat.le_trans HBB.out HA.out.size))).trans HN3.out, HN6.out⟩
set_option maxRecDepth 100000 in
set_option maxHeartbeats 8000000 in
theorem layOpen (B gb : Nat) (v : Slots) (b : BookT) (a kb : Int) (V : List Int) (A : Option Addr) (C : Nat) (w : World) (h : BkS B gb w v b) (hB : B ≤ w.heap.size) (hr : ValAt w A V) (hv : V.length = 5) (hm : b.os.length ≤ 20000) :
    Calls Try.prog 29 #[.pointer (some ⟨gb, 0, none⟩), .agg #[.int .i64 3, .int .i64 a, .int .i64 kb, .slice A 5 C]] w (LayOut B gb w (layB b ⟨3, a, kb, V⟩)) := by
  obtain ⟨v0, v1, v2, v3, v4, rfl⟩ : ∃ v0 v1 v2 v3 v4, V = [v0, v1, v2, v3, v4] := by
    match V, hv with
    | [v0, v1, v2, v3, v4], _ => exact ⟨v0, v1, v2, v3, v4, rfl⟩
  obtain ⟨vg, vo, rfl, hvc⟩ := val_cells hr (by simp)
  have hA : Below w.heap.size w (w.alloc (.cells #[.int .i64 3, .int .i64 a, .int .i64 kb, .slice (some ⟨vg, vo, none⟩) 5 C] 54)) := (Below.refl _ w).alloc (Nat.le_refl _) _
  have HBK := Lib.hid (h.below hA)
  have HVC := Lib.hid hvc
  have HBB := Lib.hid hB
  have hkA := KeepT.below hA
  obtain ⟨W0, hW0⟩ : ∃ x, w.alloc (.cells #[.int .i64 3, .int .i64 a, .int .i64 kb, .slice (some ⟨vg, vo, none⟩) 5 C] 54) = x := ⟨_, rfl⟩
  have hbx : W0.heap[w.heap.size]? = some (.cells #[.int .i64 3, .int .i64 a, .int .i64 kb, .slice (some ⟨vg, vo, none⟩) 5 C] 54 (0, 0)) := by rw [← hW0]; exact heap_alloc_new w _
  rw [hW0] at HBK hA hkA
  have HW0 := Lib.hid hW0
  have HA := Lib.hid hA
  have HKA := Lib.hid hkA
  have HBX := Lib.hid (fun W (hk : KeepT W0 W) => hk.same _ _ hbx rfl)
  have x0 : W0.cell? ⟨w.heap.size, 0, none⟩ = some (.int .i64 3) := by rw [cell_of_row _ _ _ _ _ _ hbx]; rfl
  have x1 : W0.cell? ⟨w.heap.size, 1, none⟩ = some (.int .i64 a) := by rw [cell_of_row _ _ _ _ _ _ hbx]; rfl
  have x3 : W0.cell? ⟨w.heap.size, 3, none⟩ = some (.slice (some ⟨vg, vo, none⟩) 5 C) := by rw [cell_of_row _ _ _ _ _ _ hbx]; rfl
  obtain ⟨i0, hi0, hz0', hz1', hz2'⟩ := info_parts infoZOpen
  clear h hr hvc hB hA hkA hbx hv
  go_enter Try.func29, Try.ntmps29
  go_upto_region 1 with (fail)
  clear hW0
  go_quiet (fail)
  go_upto_region 2 with (fail)
  refine at_world (Φ := fun W => KeepT W0 W ∧ Below W0.heap.size W0 W ∧ W.cell? ⟨w.heap.size, 0, none⟩ = some (.int .i64 3)) ⟨KeepT.below (below_drews nq), below_drews nq, x0⟩ ?_
  clear x0 x1 x3
  rintro W1 ⟨hk1, hb1, x0⟩
  have HK1 := Lib.hid hk1
  have HB1 := Lib.hid hb1
  have HBK1 := Lib.hid (HBK.out.below hb1)
  have hown := HBK1.out.o
  have HOWN := Lib.hid hown
  have hec := HBK1.out.box.cells.2.2.1
  have HEC := Lib.hid hec
  have HSZ := Lib.hid (show B ≤ W1.heap.size from Nat.le_trans (Nat.le_trans HBB.out HA.out.size) hb1.size)
  have HGB := Lib.hid (lt_of_blk HBK1.out.box)
  have HVV := Lib.hid (fun W (hk : KeepT W1 W) => HVC.out W ((HKA.out.trans HK1.out).trans hk))
  have HXX := Lib.hid (fun W (hk : KeepT W1 W) => HBX.out W (HK1.out.trans hk))
  clear hk1 hb1 hown hec
  go_upto_region 8 with (fail)
  clear x0
  have HAL := Lib.hid (show Below W1.heap.size W1 (W1.alloc (.cells #[.int .i64 a, .int .i64 v0, .int .i64 v1, .int .i64 v2, .int .i64 v3, .int .i64 v4] 69)).drew from ((Below.refl _ _).alloc (Nat.le_refl _) _).drew)
  refine wp_region_held_drew (S := fun W => KeepT W1 W) (by kernel_rfl) (KeepT.below ((Below.refl _ _).drew)) (fun hS => ?_)
  refine wpAnyH_take (i := 0) (v := .pointer (some ⟨gb, 0, none⟩)) rfl (by kernel_rfl) (by kernel_rfl) (by kernel_rfl) (fun _ _ _ h => h) (Or.inl ⟨by simp [Region.wanted], fun W _ => by go_simp⟩) hS ?_
  simp only [List.getElem_toArray, List.getElem_cons_zero, Act.put, List.setIfInBounds_toArray, List.set_cons_zero, List.set_cons_succ]
  refine wpAnyH_take (i := 1) (v := .pointer (some ⟨gb, 0, none⟩)) rfl (by kernel_rfl) (by kernel_rfl) (by kernel_rfl) (fun _ _ _ h => h) (Or.inl ⟨by simp [Region.wanted], fun W _ => by go_simp⟩) hS ?_
  simp only [List.getElem_toArray, List.getElem_cons_zero, List.getElem_cons_succ, Act.put, List.setIfInBounds_toArray, List.set_cons_zero, List.set_cons_succ]
  refine wpAnyH_take (i := 2) (v := .pointer (some ⟨gb, 0, none⟩)) rfl (by kernel_rfl) (by kernel_rfl) (by kernel_rfl) (fun _ _ _ h => h) (Or.inl ⟨by simp [Region.wanted], fun W _ => by go_simp⟩) hS ?_
  simp only [List.getElem_toArray, List.getElem_cons_zero, List.getElem_cons_succ, Act.put, List.setIfInBounds_toArray, List.set_cons_zero, List.set_cons_succ]
  refine wpAnyH_take (i := 3) (v := .pointer (some ⟨gb, 2, none⟩)) rfl (by kernel_rfl) (by kernel_rfl) (by kernel_rfl) (fun _ _ _ h => h) (Or.inl ⟨by simp [Region.wanted], fun W _ => by go_simp⟩) hS ?_
  simp only [List.getElem_toArray, List.getElem_cons_zero, List.getElem_cons_succ, Act.put, List.setIfInBounds_toArray, List.set_cons_zero, List.set_cons_succ]
  refine wpAnyH_take (i := 5) (v := .int .i64 a) rfl (by kernel_rfl) (by kernel_rfl) (by kernel_rfl) (fun _ _ _ h => h) (Or.inl ⟨by simp [Region.wanted], fun W _ => by go_simp⟩) hS ?_
  simp only [List.getElem_toArray, List.getElem_cons_zero, List.getElem_cons_succ, Act.put, List.setIfInBounds_toArray, List.set_cons_zero, List.set_cons_succ]
  refine wpAnyH_take (i := 6) (v := .slice (some ⟨vg, vo, none⟩) 5 C) rfl (by kernel_rfl) (by kernel_rfl) (by kernel_rfl) (fun _ _ _ h => h) (Or.inl ⟨by simp [Region.wanted], fun W _ => by go_simp⟩) hS ?_
  simp only [List.getElem_toArray, List.getElem_cons_zero, List.getElem_cons_succ, Act.put, List.setIfInBounds_toArray, List.set_cons_zero, List.set_cons_succ]
  refine wpAnyH_take (i := 7) (v := .pointer (some ⟨vg, vo, none⟩)) rfl (by kernel_rfl) (by kernel_rfl) (by kernel_rfl) (fun _ _ _ h => h) (Or.inl ⟨by simp [Region.wanted], fun W _ => by go_simp⟩) hS ?_
  simp only [List.getElem_toArray, List.getElem_cons_zero, List.getElem_cons_succ, Act.put, List.setIfInBounds_toArray, List.set_cons_zero, List.set_cons_succ]
  refine wpAnyH_take (i := 8) (v := .int .i64 v0) rfl (by kernel_rfl) (by kernel_rfl) (by kernel_rfl) (fun _ _ _ h => h) (Or.inl ⟨by simp [Region.wanted], fun W hW => by have kz := HVV.out W hW 0 v0 rfl; rw [Nat.add_zero] at kz; go_simp⟩) hS ?_
  simp only [List.getElem_toArray, List.getElem_cons_zero, List.getElem_cons_succ, Act.put, List.setIfInBounds_toArray, List.set_cons_zero, List.set_cons_succ]
  refine wpAnyH_take (i := 9) (v := .slice (some ⟨vg, vo, none⟩) 5 C) rfl (by kernel_rfl) (by kernel_rfl) (by kernel_rfl) (fun _ _ _ h => h) (Or.inl ⟨by simp [Region.wanted], fun W _ => by go_simp⟩) hS ?_
  simp only [List.getElem_toArray, List.getElem_cons_zero, List.getElem_cons_succ, Act.put, List.setIfInBounds_toArray, List.set_cons_zero, List.set_cons_succ]
  refine wpAnyH_take (i := 10) (v := .pointer (some ⟨vg, vo + 1, none⟩)) rfl (by kernel_rfl) (by kernel_rfl) (by kernel_rfl) (fun _ _ _ h => h) (Or.inl ⟨by simp [Region.wanted], fun W _ => by go_simp⟩) hS ?_
  simp only [List.getElem_toArray, List.getElem_cons_zero, List.getElem_cons_succ, Act.put, List.setIfInBounds_toArray, List.set_cons_zero, List.set_cons_succ]
  refine wpAnyH_take (i := 11) (v := .int .i64 v1) rfl (by kernel_rfl) (by kernel_rfl) (by kernel_rfl) (fun _ _ _ h => h) (Or.inl ⟨by simp [Region.wanted], fun W hW => by have kz := HVV.out W hW 1 v1 rfl; go_simp⟩) hS ?_
  simp only [List.getElem_toArray, List.getElem_cons_zero, List.getElem_cons_succ, Act.put, List.setIfInBounds_toArray, List.set_cons_zero, List.set_cons_succ]
  refine wpAnyH_take (i := 12) (v := .slice (some ⟨vg, vo, none⟩) 5 C) rfl (by kernel_rfl) (by kernel_rfl) (by kernel_rfl) (fun _ _ _ h => h) (Or.inl ⟨by simp [Region.wanted], fun W _ => by go_simp⟩) hS ?_
  simp only [List.getElem_toArray, List.getElem_cons_zero, List.getElem_cons_succ, Act.put, List.setIfInBounds_toArray, List.set_cons_zero, List.set_cons_succ]
  refine wpAnyH_take (i := 13) (v := .pointer (some ⟨vg, vo + 2, none⟩)) rfl (by kernel_rfl) (by kernel_rfl) (by kernel_rfl) (fun _ _ _ h => h) (Or.inl ⟨by simp [Region.wanted], fun W _ => by go_simp⟩) hS ?_
  simp only [List.getElem_toArray, List.getElem_cons_zero, List.getElem_cons_succ, Act.put, List.setIfInBounds_toArray, List.set_cons_zero, List.set_cons_succ]
  refine wpAnyH_take (i := 14) (v := .int .i64 v2) rfl (by kernel_rfl) (by kernel_rfl) (by kernel_rfl) (fun _ _ _ h => h) (Or.inl ⟨by simp [Region.wanted], fun W hW => by have kz := HVV.out W hW 2 v2 rfl; go_simp⟩) hS ?_
  simp only [List.getElem_toArray, List.getElem_cons_zero, List.getElem_cons_succ, Act.put, List.setIfInBounds_toArray, List.set_cons_zero, List.set_cons_succ]
  refine wpAnyH_take (i := 15) (v := .slice (some ⟨vg, vo, none⟩) 5 C) rfl (by kernel_rfl) (by kernel_rfl) (by kernel_rfl) (fun _ _ _ h => h) (Or.inl ⟨by simp [Region.wanted], fun W _ => by go_simp⟩) hS ?_
  simp only [List.getElem_toArray, List.getElem_cons_zero, List.getElem_cons_succ, Act.put, List.setIfInBounds_toArray, List.set_cons_zero, List.set_cons_succ]
  refine wpAnyH_take (i := 16) (v := .pointer (some ⟨vg, vo + 3, none⟩)) rfl (by kernel_rfl) (by kernel_rfl) (by kernel_rfl) (fun _ _ _ h => h) (Or.inl ⟨by simp [Region.wanted], fun W _ => by go_simp⟩) hS ?_
  simp only [List.getElem_toArray, List.getElem_cons_zero, List.getElem_cons_succ, Act.put, List.setIfInBounds_toArray, List.set_cons_zero, List.set_cons_succ]
  refine wpAnyH_take (i := 17) (v := .int .i64 v3) rfl (by kernel_rfl) (by kernel_rfl) (by kernel_rfl) (fun _ _ _ h => h) (Or.inl ⟨by simp [Region.wanted], fun W hW => by have kz := HVV.out W hW 3 v3 rfl; go_simp⟩) hS ?_
  simp only [List.getElem_toArray, List.getElem_cons_zero, List.getElem_cons_succ, Act.put, List.setIfInBounds_toArray, List.set_cons_zero, List.set_cons_succ]
  refine wpAnyH_take (i := 18) (v := .slice (some ⟨vg, vo, none⟩) 5 C) rfl (by kernel_rfl) (by kernel_rfl) (by kernel_rfl) (fun _ _ _ h => h) (Or.inl ⟨by simp [Region.wanted], fun W _ => by go_simp⟩) hS ?_
  simp only [List.getElem_toArray, List.getElem_cons_zero, List.getElem_cons_succ, Act.put, List.setIfInBounds_toArray, List.set_cons_zero, List.set_cons_succ]
  refine wpAnyH_take (i := 19) (v := .pointer (some ⟨vg, vo + 4, none⟩)) rfl (by kernel_rfl) (by kernel_rfl) (by kernel_rfl) (fun _ _ _ h => h) (Or.inl ⟨by simp [Region.wanted], fun W _ => by go_simp⟩) hS ?_
  simp only [List.getElem_toArray, List.getElem_cons_zero, List.getElem_cons_succ, Act.put, List.setIfInBounds_toArray, List.set_cons_zero, List.set_cons_succ]
  refine wpAnyH_take (i := 20) (v := .int .i64 v4) rfl (by kernel_rfl) (by kernel_rfl) (by kernel_rfl) (fun _ _ _ h => h) (Or.inl ⟨by simp [Region.wanted], fun W hW => by have kz := HVV.out W hW 4 v4 rfl; go_simp⟩) hS ?_
  simp only [List.getElem_toArray, List.getElem_cons_zero, List.getElem_cons_succ, Act.put, List.setIfInBounds_toArray, List.set_cons_zero, List.set_cons_succ]
  refine wpAnyH_take (i := 21) (v := .agg #[.int .i64 a, .int .i64 v0, .int .i64 v1, .int .i64 v2, .int .i64 v3, .int .i64 v4]) rfl (by kernel_rfl) (by kernel_rfl) (by kernel_rfl) (fun _ _ _ h => h) (Or.inl ⟨by simp [Region.wanted], fun W _ => by go_simp⟩) hS ?_
  simp only [List.getElem_toArray, List.getElem_cons_zero, List.getElem_cons_succ, Act.put, List.setIfInBounds_toArray, List.set_cons_zero, List.set_cons_succ]
  refine wpAnyH_ready (rs := [4, 22]) (by kernel_rfl) (by simp) ?_
  refine AllReadyH.cons rfl (fun KA hKA => ?_) (AllReadyH.cons rfl (fun KA hKA => ?_) AllReadyH.nil)
  · refine wanted_go rfl ?_
    simp only [List.getElem_toArray, List.getElem_cons_zero, List.getElem_cons_succ]
    have ec := HEC.out
    go_wp2
    refine hKA.out _ _ (KeepT.below ((Below.refl _ _).drew)) (fun _ => ?_)
    clear ec
    refine wpAnyH_ready (rs := [22]) (by kernel_rfl) (by simp) ?_
    refine AllReadyH.cons rfl (fun KB hKB => ?_) AllReadyH.nil
    refine wanted_go rfl ?_
    simp only [List.getElem_toArray, List.getElem_cons_zero, List.getElem_cons_succ]
    go_wp2
    refine hKB.out _ _ (KeepT.below HAL.out) (fun _ => ?_)
    obtain ⟨v', w2, hr, hown, hgrow, _⟩ := run_append_own (P := Try.prog) (w := (W1.alloc (.cells #[.int .i64 a, .int .i64 v0, .int .i64 v1, .int .i64 v2, .int .i64 v3, .int .i64 v4] 69)).drew) B 24 24 69 i0 _ 6 48 Try.underlying24 hi0 hz0' hz1' hz2' rfl (by decide) _ _ _ (own_below' HOWN.out HAL.out) ⟨W1.heap.size, 0, none⟩ 1 1 [.int .i64 a, .int .i64 v0, .int .i64 v1, .int .i64 v2, .int .i64 v3, .int .i64 v4] rfl (fun j u hu => new_cells W1 [.int .i64 a, .int .i64 v0, .int .i64 v1, .int .i64 v2, .int .i64 v3, .int .i64 v4] 69 j u hu) (one_items [a, v0, v1, v2, v3, v4]) (by unfold maxLen; omega) (by omega) (Nat.le_trans HSZ.out HAL.out.size)
    obtain ⟨av, cv, hv⟩ := own_formK hown
    subst hv
    obtain ⟨hN1, hN2, hN3, hN4, hN5⟩ := (HBK1.out.below HAL.out).appOpen (x := [a, v0, v1, v2, v3, v4]) (a := av) (cp := cv) (w2 := w2) hown hgrow (Nat.le_trans HSZ.out HAL.out.size)
    have HKQ := Lib.hid (KeepT.below HAL.out)
    have hfz := free_of_blkN hN4 2
    obtain ⟨uo, hcc⟩ := cell_of_blkN hN4 2 (by simp [cellsB])
    refine wpAnyH_ready (rs := [23]) (by kernel_rfl) (by simp) ?_
    refine AllReadyH.cons rfl (fun KE hKE => ?_) AllReadyH.nil
    refine wanted_go rfl ?_
    simp only [List.getElem_toArray, List.getElem_cons_zero, List.getElem_cons_succ]
    refine Lib.wp_append_run _ _ _ _ _ rfl _ _ rfl rfl _ _ hr ?_
    refine hKE.out _ _ (HKQ.out.trans hN5) (fun hSE => ?_)
    refine wpAnyH_take (i := 24) (v := .pointer (some ⟨gb, 0, none⟩)) rfl (by kernel_rfl) (by kernel_rfl) (by kernel_rfl) (fun _ _ _ h => h) (Or.inl ⟨by simp [Region.wanted], fun W _ => by go_simp⟩) hSE ?_
    simp only [List.getElem_toArray, List.getElem_cons_zero, List.getElem_cons_succ, Act.put, List.setIfInBounds_toArray, List.set_cons_zero, List.set_cons_succ]
    refine wpAnyH_take (i := 25) (v := .pointer (some ⟨gb, 2, none⟩)) rfl (by kernel_rfl) (by kernel_rfl) (by kernel_rfl) (fun _ _ _ h => h) (Or.inl ⟨by simp [Region.wanted], fun W _ => by go_simp⟩) hSE ?_
    simp only [List.getElem_toArray, List.getElem_cons_zero, List.getElem_cons_succ, Act.put, List.setIfInBounds_toArray, List.set_cons_zero, List.set_cons_succ]
    refine wpAnyH_ready (rs := [26]) (by kernel_rfl) (by simp) ?_
    refine AllReadyH.cons rfl (fun KF hKF => ?_) AllReadyH.nil
    refine wanted_go rfl ?_
    simp only [List.getElem_toArray, List.getElem_cons_zero, List.getElem_cons_succ]
    go_wp2
    refine hKF.out _ _ (HKQ.out.trans hN2) (fun _ => ?_)
    refine wpAnyH_done (by kernel_rfl) ?_ _
    have HN1 := Lib.hid hN1
    have HN2 := Lib.hid (HKQ.out.trans hN2)
    have HN3 := Lib.hid ((HAL.out.mono HSZ.out).trans hN3)
    have HN6 := Lib.hid ((((KeepG.below HA.out).trans (KeepG.below HB1.out)).trans (KeepG.below (gb := gb) HAL.out)).trans ((KeepG.grown (own_below' HOWN.out HAL.out) hgrow (by decide)).trans (KeepG.set (i := 2) (.slice av (b.os.length + 1) cv))))
    clear hN1 hN2 hN3 hN4 hN5 hown hgrow hr hfz hcc hSE
    go_wp2
    go_end0
    exact ⟨rfl, ⟨_, HN1.out⟩, (HKA.out.trans HK1.out).trans HN2.out, ((HA.out.mono HBB.out).trans (HB1.out.mono (Nat.le_trans HBB.out HA.out.size))).trans HN3.out, HN6.out⟩
  · refine wanted_go rfl ?_
    simp only [List.getElem_toArray, List.getElem_cons_zero, List.getElem_cons_succ]
    go_wp2
    refine hKA.out _ _ (KeepT.below HAL.out) (fun _ => ?_)
    refine wpAnyH_ready (rs := [4]) (by kernel_rfl) (by simp) ?_
    refine AllReadyH.cons rfl (fun KB hKB => ?_) AllReadyH.nil
    refine wanted_go rfl ?_
    simp only [List.getElem_toArray, List.getElem_cons_zero, List.getElem_cons_succ]
    have ec := (HAL.out.cell (p := ⟨gb, 2, none⟩) HGB.out).trans HEC.out
    go_wp2
    refine hKB.out _ _ (KeepT.below HAL.out) (fun _ => ?_)
    clear ec
    obtain ⟨v', w2, hr, hown, hgrow, _⟩ := run_append_own (P := Try.prog) (w := (W1.alloc (.cells #[.int .i64 a, .int .i64 v0, .int .i64 v1, .int .i64 v2, .int .i64 v3, .int .i64 v4] 69)).drew) B 24 24 69 i0 _ 6 48 Try.underlying24 hi0 hz0' hz1' hz2' rfl (by decide) _ _ _ (own_below' HOWN.out HAL.out) ⟨W1.heap.size, 0, none⟩ 1 1 [.int .i64 a, .int .i64 v0, .int .i64 v1, .int .i64 v2, .int .i64 v3, .int .i64 v4] rfl (fun j u hu => new_cells W1 [.int .i64 a, .int .i64 v0, .int .i64 v1, .int .i64 v2, .int .i64 v3, .int .i64 v4] 69 j u hu) (one_items [a, v0, v1, v2, v3, v4]) (by unfold maxLen; omega) (by omega) (Nat.le_trans HSZ.out HAL.out.size)
    obtain ⟨av, cv, hv⟩ := own_formK hown
    subst hv
    obtain ⟨hN1, hN2, hN3, hN4, hN5⟩ := (HBK1.out.below HAL.out).appOpen (x := [a, v0, v1, v2, v3, v4]) (a := av) (cp := cv) (w2 := w2) hown hgrow (Nat.le_trans HSZ.out HAL.out.size)
    have HKQ := Lib.hid (KeepT.below HAL.out)
    have hfz := free_of_blkN hN4 2
    obtain ⟨uo, hcc⟩ := cell_of_blkN hN4 2 (by simp [cellsB])
    refine wpAnyH_ready (rs := [23]) (by kernel_rfl) (by simp) ?_
    refine AllReadyH.cons rfl (fun KE hKE => ?_) AllReadyH.nil
    refine wanted_go rfl ?_
    simp only [List.getElem_toArray, List.getElem_cons_zero, List.getElem_cons_succ]
    refine Lib.wp_append_run _ _ _ _ _ rfl _ _ rfl rfl _ _ hr ?_
    refine hKE.out _ _ (HKQ.out.trans hN5) (fun hSE => ?_)
    refine wpAnyH_take (i := 24) (v := .pointer (some ⟨gb, 0, none⟩)) rfl (by kernel_rfl) (by kernel_rfl) (by kernel_rfl) (fun _ _ _ h => h) (Or.inl ⟨by simp [Region.wanted], fun W _ => by go_simp⟩) hSE ?_
    simp only [List.getElem_toArray, List.getElem_cons_zero, List.getElem_cons_succ, Act.put, List.setIfInBounds_toArray, List.set_cons_zero, List.set_cons_succ]
    refine wpAnyH_take (i := 25) (v := .pointer (some ⟨gb, 2, none⟩)) rfl (by kernel_rfl) (by kernel_rfl) (by kernel_rfl) (fun _ _ _ h => h) (Or.inl ⟨by simp [Region.wanted], fun W _ => by go_simp⟩) hSE ?_
    simp only [List.getElem_toArray, List.getElem_cons_zero, List.getElem_cons_succ, Act.put, List.setIfInBounds_toArray, List.set_cons_zero, List.set_cons_succ]
    refine wpAnyH_ready (rs := [26]) (by kernel_rfl) (by simp) ?_
    refine AllReadyH.cons rfl (fun KF hKF => ?_) AllReadyH.nil
    refine wanted_go rfl ?_
    simp only [List.getElem_toArray, List.getElem_cons_zero, List.getElem_cons_succ]
    go_wp2
    refine hKF.out _ _ (HKQ.out.trans hN2) (fun _ => ?_)
    refine wpAnyH_done (by kernel_rfl) ?_ _
    have HN1 := Lib.hid hN1
    have HN2 := Lib.hid (HKQ.out.trans hN2)
    have HN3 := Lib.hid ((HAL.out.mono HSZ.out).trans hN3)
    have HN6 := Lib.hid ((((KeepG.below HA.out).trans (KeepG.below HB1.out)).trans (KeepG.below (gb := gb) HAL.out)).trans ((KeepG.grown (own_below' HOWN.out HAL.out) hgrow (by decide)).trans (KeepG.set (i := 2) (.slice av (b.os.length + 1) cv))))
    clear hN1 hN2 hN3 hN4 hN5 hown hgrow hr hfz hcc hSE
    go_wp2
    go_end0
    exact ⟨rfl, ⟨_, HN1.out⟩, (HKA.out.trans HK1.out).trans HN2.out, ((HA.out.mono HBB.out).trans (HB1.out.mono (Nat.le_trans HBB.out HA.out.size))).trans HN3.out, HN6.out⟩
set_option maxRecDepth 100000 in
set_option maxHeartbeats 8000000 in
theorem layRate (B gb : Nat) (v : Slots) (b : BookT) (a kb : Int) (V : List Int) (A : Option Addr) (C : Nat) (w : World) (h : BkS B gb w v b) (hB : B ≤ w.heap.size) (hr : ValAt w A V) (hv : V.length = 1) (hm : b.rs.length ≤ 20000) :
    Calls Try.prog 29 #[.pointer (some ⟨gb, 0, none⟩), .agg #[.int .i64 4, .int .i64 a, .int .i64 kb, .slice A 1 C]] w (LayOut B gb w (layB b ⟨4, a, kb, V⟩)) := by
  obtain ⟨v0, rfl⟩ : ∃ v0, V = [v0] := by
    match V, hv with
    | [v0], _ => exact ⟨v0, rfl⟩
  obtain ⟨vg, vo, rfl, hvc⟩ := val_cells hr (by simp)
  have hA : Below w.heap.size w (w.alloc (.cells #[.int .i64 4, .int .i64 a, .int .i64 kb, .slice (some ⟨vg, vo, none⟩) 1 C] 54)) := (Below.refl _ w).alloc (Nat.le_refl _) _
  have HBK := Lib.hid (h.below hA)
  have HVC := Lib.hid hvc
  have HBB := Lib.hid hB
  have hkA := KeepT.below hA
  obtain ⟨W0, hW0⟩ : ∃ x, w.alloc (.cells #[.int .i64 4, .int .i64 a, .int .i64 kb, .slice (some ⟨vg, vo, none⟩) 1 C] 54) = x := ⟨_, rfl⟩
  have hbx : W0.heap[w.heap.size]? = some (.cells #[.int .i64 4, .int .i64 a, .int .i64 kb, .slice (some ⟨vg, vo, none⟩) 1 C] 54 (0, 0)) := by rw [← hW0]; exact heap_alloc_new w _
  rw [hW0] at HBK hA hkA
  have HW0 := Lib.hid hW0
  have HA := Lib.hid hA
  have HKA := Lib.hid hkA
  have HBX := Lib.hid (fun W (hk : KeepT W0 W) => hk.same _ _ hbx rfl)
  have x0 : W0.cell? ⟨w.heap.size, 0, none⟩ = some (.int .i64 4) := by rw [cell_of_row _ _ _ _ _ _ hbx]; rfl
  have x1 : W0.cell? ⟨w.heap.size, 1, none⟩ = some (.int .i64 a) := by rw [cell_of_row _ _ _ _ _ _ hbx]; rfl
  have x3 : W0.cell? ⟨w.heap.size, 3, none⟩ = some (.slice (some ⟨vg, vo, none⟩) 1 C) := by rw [cell_of_row _ _ _ _ _ _ hbx]; rfl
  obtain ⟨i0, hi0, hz0', hz1', hz2'⟩ := info_parts infoZRate
  clear h hr hvc hB hA hkA hbx hv
  go_enter Try.func29, Try.ntmps29
  go_upto_region 1 with (fail)
  clear hW0
  go_quiet (fail)
  go_upto_region 2 with (fail)
  refine at_world (Φ := fun W => KeepT W0 W ∧ Below W0.heap.size W0 W ∧ W.cell? ⟨w.heap.size, 0, none⟩ = some (.int .i64 4)) ⟨KeepT.below (below_drews nq), below_drews nq, x0⟩ ?_
  clear x0 x1 x3
  rintro W1 ⟨hk1, hb1, x0⟩
  have HK1 := Lib.hid hk1
  have HB1 := Lib.hid hb1
  have HBK1 := Lib.hid (HBK.out.below hb1)
  have hown := HBK1.out.r
  have HOWN := Lib.hid hown
  have hec := HBK1.out.box.cells.2.2.2.1
  have HEC := Lib.hid hec
  have HSZ := Lib.hid (show B ≤ W1.heap.size from Nat.le_trans (Nat.le_trans HBB.out HA.out.size) hb1.size)
  have HGB := Lib.hid (lt_of_blk HBK1.out.box)
  have HVV := Lib.hid (fun W (hk : KeepT W1 W) => HVC.out W ((HKA.out.trans HK1.out).trans hk))
  have HXX := Lib.hid (fun W (hk : KeepT W1 W) => HBX.out W (HK1.out.trans hk))
  clear hk1 hb1 hown hec
  go_upto_region 10 with (fail)
  clear x0
  have HAL := Lib.hid (show Below W1.heap.size W1 (W1.alloc (.cells #[.int .i64 a, .int .i64 v0] 44)).drew from ((Below.refl _ _).alloc (Nat.le_refl _) _).drew)
  refine wp_region_held_drew (S := fun W => KeepT W1 W) (by kernel_rfl) (KeepT.below ((Below.refl _ _).drew)) (fun hS => ?_)
  refine wpAnyH_take (i := 0) (v := .pointer (some ⟨gb, 0, none⟩)) rfl (by kernel_rfl) (by kernel_rfl) (by kernel_rfl) (fun _ _ _ h => h) (Or.inl ⟨by simp [Region.wanted], fun W _ => by go_simp⟩) hS ?_
  simp only [List.getElem_toArray, List.getElem_cons_zero, Act.put, List.setIfInBounds_toArray, List.set_cons_zero, List.set_cons_succ]
  refine wpAnyH_take (i := 1) (v := .pointer (some ⟨gb, 0, none⟩)) rfl (by kernel_rfl) (by kernel_rfl) (by kernel_rfl) (fun _ _ _ h => h) (Or.inl ⟨by simp [Region.wanted], fun W _ => by go_simp⟩) hS ?_
  simp only [List.getElem_toArray, List.getElem_cons_zero, List.getElem_cons_succ, Act.put, List.setIfInBounds_toArray, List.set_cons_zero, List.set_cons_succ]
  refine wpAnyH_take (i := 2) (v := .pointer (some ⟨gb, 0, none⟩)) rfl (by kernel_rfl) (by kernel_rfl) (by kernel_rfl) (fun _ _ _ h => h) (Or.inl ⟨by simp [Region.wanted], fun W _ => by go_simp⟩) hS ?_
  simp only [List.getElem_toArray, List.getElem_cons_zero, List.getElem_cons_succ, Act.put, List.setIfInBounds_toArray, List.set_cons_zero, List.set_cons_succ]
  refine wpAnyH_take (i := 3) (v := .pointer (some ⟨gb, 3, none⟩)) rfl (by kernel_rfl) (by kernel_rfl) (by kernel_rfl) (fun _ _ _ h => h) (Or.inl ⟨by simp [Region.wanted], fun W _ => by go_simp⟩) hS ?_
  simp only [List.getElem_toArray, List.getElem_cons_zero, List.getElem_cons_succ, Act.put, List.setIfInBounds_toArray, List.set_cons_zero, List.set_cons_succ]
  refine wpAnyH_take (i := 5) (v := .int .i64 a) rfl (by kernel_rfl) (by kernel_rfl) (by kernel_rfl) (fun _ _ _ h => h) (Or.inl ⟨by simp [Region.wanted], fun W _ => by go_simp⟩) hS ?_
  simp only [List.getElem_toArray, List.getElem_cons_zero, List.getElem_cons_succ, Act.put, List.setIfInBounds_toArray, List.set_cons_zero, List.set_cons_succ]
  refine wpAnyH_take (i := 6) (v := .slice (some ⟨vg, vo, none⟩) 1 C) rfl (by kernel_rfl) (by kernel_rfl) (by kernel_rfl) (fun _ _ _ h => h) (Or.inl ⟨by simp [Region.wanted], fun W _ => by go_simp⟩) hS ?_
  simp only [List.getElem_toArray, List.getElem_cons_zero, List.getElem_cons_succ, Act.put, List.setIfInBounds_toArray, List.set_cons_zero, List.set_cons_succ]
  refine wpAnyH_take (i := 7) (v := .pointer (some ⟨vg, vo, none⟩)) rfl (by kernel_rfl) (by kernel_rfl) (by kernel_rfl) (fun _ _ _ h => h) (Or.inl ⟨by simp [Region.wanted], fun W _ => by go_simp⟩) hS ?_
  simp only [List.getElem_toArray, List.getElem_cons_zero, List.getElem_cons_succ, Act.put, List.setIfInBounds_toArray, List.set_cons_zero, List.set_cons_succ]
  refine wpAnyH_take (i := 8) (v := .int .i64 v0) rfl (by kernel_rfl) (by kernel_rfl) (by kernel_rfl) (fun _ _ _ h => h) (Or.inl ⟨by simp [Region.wanted], fun W hW => by have kz := HVV.out W hW 0 v0 rfl; rw [Nat.add_zero] at kz; go_simp⟩) hS ?_
  simp only [List.getElem_toArray, List.getElem_cons_zero, List.getElem_cons_succ, Act.put, List.setIfInBounds_toArray, List.set_cons_zero, List.set_cons_succ]
  refine wpAnyH_take (i := 9) (v := .agg #[.int .i64 a, .int .i64 v0]) rfl (by kernel_rfl) (by kernel_rfl) (by kernel_rfl) (fun _ _ _ h => h) (Or.inl ⟨by simp [Region.wanted], fun W _ => by go_simp⟩) hS ?_
  simp only [List.getElem_toArray, List.getElem_cons_zero, List.getElem_cons_succ, Act.put, List.setIfInBounds_toArray, List.set_cons_zero, List.set_cons_succ]
  refine wpAnyH_ready (rs := [4, 10]) (by kernel_rfl) (by simp) ?_
  refine AllReadyH.cons rfl (fun KA hKA => ?_) (AllReadyH.cons rfl (fun KA hKA => ?_) AllReadyH.nil)
  · refine wanted_go rfl ?_
    simp only [List.getElem_toArray, List.getElem_cons_zero, List.getElem_cons_succ]
    have ec := HEC.out
    go_wp2
    refine hKA.out _ _ (KeepT.below ((Below.refl _ _).drew)) (fun _ => ?_)
    clear ec
    refine wpAnyH_ready (rs := [10]) (by kernel_rfl) (by simp) ?_
    refine AllReadyH.cons rfl (fun KB hKB => ?_) AllReadyH.nil
    refine wanted_go rfl ?_
    simp only [List.getElem_toArray, List.getElem_cons_zero, List.getElem_cons_succ]
    go_wp2
    refine hKB.out _ _ (KeepT.below HAL.out) (fun _ => ?_)
    obtain ⟨v', w2, hr, hown, hgrow, _⟩ := run_append_own (P := Try.prog) (w := (W1.alloc (.cells #[.int .i64 a, .int .i64 v0] 44)).drew) B 25 25 44 i0 _ 2 16 Try.underlying25 hi0 hz0' hz1' hz2' rfl (by decide) _ _ _ (own_below' HOWN.out HAL.out) ⟨W1.heap.size, 0, none⟩ 1 1 [.int .i64 a, .int .i64 v0] rfl (fun j u hu => new_cells W1 [.int .i64 a, .int .i64 v0] 44 j u hu) (one_items [a, v0]) (by unfold maxLen; omega) (by omega) (Nat.le_trans HSZ.out HAL.out.size)
    obtain ⟨av, cv, hv⟩ := own_formK hown
    subst hv
    obtain ⟨hN1, hN2, hN3, hN4, hN5⟩ := (HBK1.out.below HAL.out).appRate (x := [a, v0]) (a := av) (cp := cv) (w2 := w2) hown hgrow (Nat.le_trans HSZ.out HAL.out.size)
    have HKQ := Lib.hid (KeepT.below HAL.out)
    have hfz := free_of_blkN hN4 3
    obtain ⟨uo, hcc⟩ := cell_of_blkN hN4 3 (by simp [cellsB])
    refine wpAnyH_ready (rs := [11]) (by kernel_rfl) (by simp) ?_
    refine AllReadyH.cons rfl (fun KE hKE => ?_) AllReadyH.nil
    refine wanted_go rfl ?_
    simp only [List.getElem_toArray, List.getElem_cons_zero, List.getElem_cons_succ]
    refine Lib.wp_append_run _ _ _ _ _ rfl _ _ rfl rfl _ _ hr ?_
    refine hKE.out _ _ (HKQ.out.trans hN5) (fun hSE => ?_)
    refine wpAnyH_take (i := 12) (v := .pointer (some ⟨gb, 0, none⟩)) rfl (by kernel_rfl) (by kernel_rfl) (by kernel_rfl) (fun _ _ _ h => h) (Or.inl ⟨by simp [Region.wanted], fun W _ => by go_simp⟩) hSE ?_
    simp only [List.getElem_toArray, List.getElem_cons_zero, List.getElem_cons_succ, Act.put, List.setIfInBounds_toArray, List.set_cons_zero, List.set_cons_succ]
    refine wpAnyH_take (i := 13) (v := .pointer (some ⟨gb, 3, none⟩)) rfl (by kernel_rfl) (by kernel_rfl) (by kernel_rfl) (fun _ _ _ h => h) (Or.inl ⟨by simp [Region.wanted], fun W _ => by go_simp⟩) hSE ?_
    simp only [List.getElem_toArray, List.getElem_cons_zero, List.getElem_cons_succ, Act.put, List.setIfInBounds_toArray, List.set_cons_zero, List.set_cons_succ]
    refine wpAnyH_ready (rs := [14]) (by kernel_rfl) (by simp) ?_
    refine AllReadyH.cons rfl (fun KF hKF => ?_) AllReadyH.nil
    refine wanted_go rfl ?_
    simp only [List.getElem_toArray, List.getElem_cons_zero, List.getElem_cons_succ]
    go_wp2
    refine hKF.out _ _ (HKQ.out.trans hN2) (fun _ => ?_)
    refine wpAnyH_done (by kernel_rfl) ?_ _
    have HN1 := Lib.hid hN1
    have HN2 := Lib.hid (HKQ.out.trans hN2)
    have HN3 := Lib.hid ((HAL.out.mono HSZ.out).trans hN3)
    have HN6 := Lib.hid ((((KeepG.below HA.out).trans (KeepG.below HB1.out)).trans (KeepG.below (gb := gb) HAL.out)).trans ((KeepG.grown (own_below' HOWN.out HAL.out) hgrow (by decide)).trans (KeepG.set (i := 3) (.slice av (b.rs.length + 1) cv))))
    clear hN1 hN2 hN3 hN4 hN5 hown hgrow hr hfz hcc hSE
    go_wp2
    go_end0
    exact ⟨rfl, ⟨_, HN1.out⟩, (HKA.out.trans HK1.out).trans HN2.out, ((HA.out.mono HBB.out).trans (HB1.out.mono (Nat.le_trans HBB.out HA.out.size))).trans HN3.out, HN6.out⟩
  · refine wanted_go rfl ?_
    simp only [List.getElem_toArray, List.getElem_cons_zero, List.getElem_cons_succ]
    go_wp2
    refine hKA.out _ _ (KeepT.below HAL.out) (fun _ => ?_)
    refine wpAnyH_ready (rs := [4]) (by kernel_rfl) (by simp) ?_
    refine AllReadyH.cons rfl (fun KB hKB => ?_) AllReadyH.nil
    refine wanted_go rfl ?_
    simp only [List.getElem_toArray, List.getElem_cons_zero, List.getElem_cons_succ]
    have ec := (HAL.out.cell (p := ⟨gb, 3, none⟩) HGB.out).trans HEC.out
    go_wp2
    refine hKB.out _ _ (KeepT.below HAL.out) (fun _ => ?_)
    clear ec
    obtain ⟨v', w2, hr, hown, hgrow, _⟩ := run_append_own (P := Try.prog) (w := (W1.alloc (.cells #[.int .i64 a, .int .i64 v0] 44)).drew) B 25 25 44 i0 _ 2 16 Try.underlying25 hi0 hz0' hz1' hz2' rfl (by decide) _ _ _ (own_below' HOWN.out HAL.out) ⟨W1.heap.size, 0, none⟩ 1 1 [.int .i64 a, .int .i64 v0] rfl (fun j u hu => new_cells W1 [.int .i64 a, .int .i64 v0] 44 j u hu) (one_items [a, v0]) (by unfold maxLen; omega) (by omega) (Nat.le_trans HSZ.out HAL.out.size)
    obtain ⟨av, cv, hv⟩ := own_formK hown
    subst hv
    obtain ⟨hN1, hN2, hN3, hN4, hN5⟩ := (HBK1.out.below HAL.out).appRate (x := [a, v0]) (a := av) (cp := cv) (w2 := w2) hown hgrow (Nat.le_trans HSZ.out HAL.out.size)
    have HKQ := Lib.hid (KeepT.below HAL.out)
    have hfz := free_of_blkN hN4 3
    obtain ⟨uo, hcc⟩ := cell_of_blkN hN4 3 (by simp [cellsB])
    refine wpAnyH_ready (rs := [11]) (by kernel_rfl) (by simp) ?_
    refine AllReadyH.cons rfl (fun KE hKE => ?_) AllReadyH.nil
    refine wanted_go rfl ?_
    simp only [List.getElem_toArray, List.getElem_cons_zero, List.getElem_cons_succ]
    refine Lib.wp_append_run _ _ _ _ _ rfl _ _ rfl rfl _ _ hr ?_
    refine hKE.out _ _ (HKQ.out.trans hN5) (fun hSE => ?_)
    refine wpAnyH_take (i := 12) (v := .pointer (some ⟨gb, 0, none⟩)) rfl (by kernel_rfl) (by kernel_rfl) (by kernel_rfl) (fun _ _ _ h => h) (Or.inl ⟨by simp [Region.wanted], fun W _ => by go_simp⟩) hSE ?_
    simp only [List.getElem_toArray, List.getElem_cons_zero, List.getElem_cons_succ, Act.put, List.setIfInBounds_toArray, List.set_cons_zero, List.set_cons_succ]
    refine wpAnyH_take (i := 13) (v := .pointer (some ⟨gb, 3, none⟩)) rfl (by kernel_rfl) (by kernel_rfl) (by kernel_rfl) (fun _ _ _ h => h) (Or.inl ⟨by simp [Region.wanted], fun W _ => by go_simp⟩) hSE ?_
    simp only [List.getElem_toArray, List.getElem_cons_zero, List.getElem_cons_succ, Act.put, List.setIfInBounds_toArray, List.set_cons_zero, List.set_cons_succ]
    refine wpAnyH_ready (rs := [14]) (by kernel_rfl) (by simp) ?_
    refine AllReadyH.cons rfl (fun KF hKF => ?_) AllReadyH.nil
    refine wanted_go rfl ?_
    simp only [List.getElem_toArray, List.getElem_cons_zero, List.getElem_cons_succ]
    go_wp2
    refine hKF.out _ _ (HKQ.out.trans hN2) (fun _ => ?_)
    refine wpAnyH_done (by kernel_rfl) ?_ _
    have HN1 := Lib.hid hN1
    have HN2 := Lib.hid (HKQ.out.trans hN2)
    have HN3 := Lib.hid ((HAL.out.mono HSZ.out).trans hN3)
    have HN6 := Lib.hid ((((KeepG.below HA.out).trans (KeepG.below HB1.out)).trans (KeepG.below (gb := gb) HAL.out)).trans ((KeepG.grown (own_below' HOWN.out HAL.out) hgrow (by decide)).trans (KeepG.set (i := 3) (.slice av (b.rs.length + 1) cv))))
    clear hN1 hN2 hN3 hN4 hN5 hown hgrow hr hfz hcc hSE
    go_wp2
    go_end0
    exact ⟨rfl, ⟨_, HN1.out⟩, (HKA.out.trans HK1.out).trans HN2.out, ((HA.out.mono HBB.out).trans (HB1.out.mono (Nat.le_trans HBB.out HA.out.size))).trans HN3.out, HN6.out⟩
set_option maxRecDepth 100000 in
set_option maxHeartbeats 8000000 in
theorem layCount (B gb : Nat) (v : Slots) (b : BookT) (a kb : Int) (V : List Int) (A : Option Addr) (C : Nat) (w : World) (h : BkS B gb w v b) (hB : B ≤ w.heap.size) (hr : ValAt w A V) (hv : V.length = 1) :
    Calls Try.prog 29 #[.pointer (some ⟨gb, 0, none⟩), .agg #[.int .i64 5, .int .i64 a, .int .i64 kb, .slice A 1 C]] w (LayOut B gb w (layB b ⟨5, a, kb, V⟩)) := by
  obtain ⟨v0, rfl⟩ : ∃ v0, V = [v0] := by
    match V, hv with
    | [v0], _ => exact ⟨v0, rfl⟩
  obtain ⟨vg, vo, rfl, hvc⟩ := val_cells hr (by simp)
  have hA : Below w.heap.size w (w.alloc (.cells #[.int .i64 5, .int .i64 a, .int .i64 kb, .slice (some ⟨vg, vo, none⟩) 1 C] 54)) := (Below.refl _ w).alloc (Nat.le_refl _) _
  have HBK := Lib.hid (h.below hA)
  have HVC := Lib.hid hvc
  have HBB := Lib.hid hB
  have hkA := KeepT.below hA
  obtain ⟨W0, hW0⟩ : ∃ x, w.alloc (.cells #[.int .i64 5, .int .i64 a, .int .i64 kb, .slice (some ⟨vg, vo, none⟩) 1 C] 54) = x := ⟨_, rfl⟩
  have hbx : W0.heap[w.heap.size]? = some (.cells #[.int .i64 5, .int .i64 a, .int .i64 kb, .slice (some ⟨vg, vo, none⟩) 1 C] 54 (0, 0)) := by rw [← hW0]; exact heap_alloc_new w _
  rw [hW0] at HBK hA hkA
  have HW0 := Lib.hid hW0
  have HA := Lib.hid hA
  have HKA := Lib.hid hkA
  have x0 : W0.cell? ⟨w.heap.size, 0, none⟩ = some (.int .i64 5) := by rw [cell_of_row _ _ _ _ _ _ hbx]; rfl
  have x1 : W0.cell? ⟨w.heap.size, 1, none⟩ = some (.int .i64 a) := by rw [cell_of_row _ _ _ _ _ _ hbx]; rfl
  have x3 : W0.cell? ⟨w.heap.size, 3, none⟩ = some (.slice (some ⟨vg, vo, none⟩) 1 C) := by rw [cell_of_row _ _ _ _ _ _ hbx]; rfl
  clear h hr hvc hB hA hkA hbx hv
  go_enter Try.func29, Try.ntmps29
  go_upto_region 1 with (fail)
  clear hW0
  go_quiet (fail)
  go_upto_region 2 with (fail)
  refine at_world (Φ := fun W => KeepT W0 W ∧ Below W0.heap.size W0 W ∧ W.cell? ⟨w.heap.size, 0, none⟩ = some (.int .i64 5)) ⟨KeepT.below (below_drews nq), below_drews nq, x0⟩ ?_
  clear x0 x1 x3
  rintro W1 ⟨hk1, hb1, x0⟩
  have HK1 := Lib.hid hk1
  have HB1 := Lib.hid hb1
  have HBK1 := Lib.hid (HBK.out.below hb1)
  have hfz := free_of_blkN HBK1.out.box 4
  obtain ⟨uo, hcc⟩ := cell_of_blkN HBK1.out.box 4 (by simp [cellsB])
  have kz := HVC.out W1 (HKA.out.trans hk1) 0 v0 rfl
  rw [Nat.add_zero] at kz
  clear hk1 hb1
  go_wp2
  go_end0
  obtain ⟨h1, h2, h3⟩ := HBK1.out.setCo v0
  exact ⟨rfl, ⟨_, h1⟩, (HKA.out.trans HK1.out).trans h2, ((HA.out.mono HBB.out).trans (HB1.out.mono (Nat.le_trans HBB.out HA.out.size))).trans h3, ((KeepG.below HA.out).trans (KeepG.below HB1.out)).trans (KeepG.set _)⟩
theorem lay29 (B gb : Nat) (v : Slots) (b : BookT) (r : RowT) (A : Option Addr) (C : Nat) (w : World) (h : BkS B gb w v b) (hB : B ≤ w.heap.size) (hr : ValAt w A r.v) (h1 : 1 ≤ r.l) (h5 : r.l ≤ 5) (hv : r.v.length = allT r.l) (hm : b.hs.length ≤ 20000 ∧ b.ss.length ≤ 20000 ∧ b.os.length ≤ 20000 ∧ b.rs.length ≤ 20000) :
    Calls Try.prog 29 #[.pointer (some ⟨gb, 0, none⟩), .agg #[.int .i64 r.l, .int .i64 r.a, .int .i64 r.b, .slice A r.v.length C]] w (LayOut B gb w (layB b r)) := by
  obtain ⟨l, a, kb, V⟩ := r
  dsimp only at hr h1 h5 hv ⊢
  obtain rfl | rfl | rfl | rfl | rfl : l = 1 ∨ l = 2 ∨ l = 3 ∨ l = 4 ∨ l = 5 := by omega
  · have hv : V.length = 3 := hv
    rw [hv]; exact layHolder B gb v b a kb V A C w h hB hr hv hm.1
  · have hv : V.length = 1 := hv
    rw [hv]; exact layStake B gb v b a kb V A C w h hB hr hv hm.2.1
  · have hv : V.length = 5 := hv
    rw [hv]; exact layOpen B gb v b a kb V A C w h hB hr hv hm.2.2.1
  · have hv : V.length = 1 := hv
    rw [hv]; exact layRate B gb v b a kb V A C w h hB hr hv hm.2.2.2
  · have hv : V.length = 1 := hv
    rw [hv]; exact layCount B gb v b a kb V A C w h hB hr hv
end Go.Proofs.Ytellifcjamedkaa

namespace Go.Proofs.Ytellifcjamedkaa
open Go.RowKit Base Base2

attribute [local go_sem] Oper.semAt_some
theorem wpListIn_op_ran {F : Fence} {n : Nat} {P : Program} {ops : Array Oper} {rest : List Oper} {o : Oper} {a : Act} {w w2 : World} {Q : Exit → Act → World → Prop} (hgd : o.guard = none) (hab : ∀ f, o.about P w a.eval = some f → F.fn f) (hnd : ∀ c, o.op ≠ .defer c) (v' : Value) (hr : (execOp a.eval o).run P w = .ok (.value v') w2) (h : wpListIn F n P ops Q rest (a.put o.dst v') w2) : wpListIn F n P ops Q (o :: rest) a w :=
  wpListIn_plain hgd fun _ hK => by
    unfold Oper.wpIn
    refine ⟨hab, ?_⟩
    rw [Oper.semAt_eq _ _ _ hnd, hr]
    exact hK _ _ h
theorem atStoreIn {F : Fence} {n : Nat} {P : Program} {ops : Array Oper} {rest : List Oper} {o : Oper} {a : Act} {w : World} {Q : Exit → Act → World → Prop} {ty : TypeId} {x y : Operand} (_ : o.op = .store ty x y) (h : wpListIn F n P ops Q (o :: rest) a w) : wpListIn F n P ops Q (o :: rest) a w := h
/-- A whole struct stored, in a fenced walk. -/
theorem storeRowIn {F : Fence} {n : Nat} {P : Program} {ops : Array Oper} {rest : List Oper} {o : Oper} {a : Act} {w : World} {Q : Exit → Act → World → Prop} (hgd : o.guard = none) (hab : ∀ f, o.about P w a.eval = some f → F.fn f) (ty : TypeId) (x y : Operand) (ho : o.op = .store ty x y)
    (g : Nat) (cells : Array Value) (hx : a.eval x = .pointer (some ⟨g, 0, none⟩)) (hy : a.eval y = .agg cells) (t : TypeId) (old : Array Value) (hg : w.heap[g]? = some (.cells old t (0, 0))) (hi : (P.info? ty).map (·.size) = some cells.size)
    (hold : old.size = cells.size) (h1 : cells.all (·.oneCell') = true) (h : wpListIn F n P ops Q rest (a.put o.dst undef) (w.setRow g cells)) : wpListIn F n P ops Q (o :: rest) a w := by
  refine wpListIn_plain hgd fun _ hK => ?_
  unfold Oper.wpIn
  refine ⟨hab, ?_⟩
  rw [Oper.semAt_eq _ _ _ (fun c e => by rw [ho] at e; cases e)]
  unfold execOp
  simp only [ho, hx, hy, Instr.storeAt, Instr.sureAddr, Sem.run_bind, Sem.run_pure, Result.andThen_ok, run_storeVar_row w g t ty old cells hg hi hold h1]
  exact hK _ _ h
theorem results_cc {fn : Func} {p u : Tmp} {ty tu : TypeId} (h : fn.results = #[.cell p ty, .cell u tu]) (tmps : Array Value) (P : Program) (w : World) :
    (results fn tmps).run P w = ((asAddr (tmps.getD p undef)).run P w).andThen fun a w1 => ((loadVar ty a).run P w1).andThen fun v w2 => ((asAddr (tmps.getD u undef)).run P w2).andThen fun a' w3 => ((loadVar tu a').run P w3).andThen fun v' w4 => .ok (.tuple #[v, v']) w4 := by
  simp only [results, h]
  simp [Sem.run_bind, Result.andThen]
theorem results_cells2 {fn : Func} {p u : Tmp} {ty tu : TypeId} (h : fn.results = #[.cell p ty, .cell u tu]) {tmps : Array Value} {P : Program} {w : World} {a b : Addr} {v v' : Value} (hx : tmps.getD p undef = .pointer (some a)) (hy : tmps.getD u undef = .pointer (some b)) (h1 : (loadVar ty a).run P w = .ok v w) (h2 : (loadVar tu b).run P w = .ok v' w) :
    (results fn tmps).run P w = .ok (.tuple #[v, v']) w := by
  rw [results_cc h, hx, hy]
  simp [asAddr, Result.andThen, h1, h2]
theorem load_err {W : World} {g : Nat} {n : Int} (h : W.heap[g]? = some (.cells #[.int .i64 n] 31 (0, 0))) : (loadVar 31 ⟨g, 0, none⟩).run Try.prog W = .ok (.int .i64 n) W := by
  have hc : W.cell? ⟨g, 0, none⟩ = some (.int .i64 n) := by rw [cell_of_row _ _ _ _ _ _ h]; rfl
  simp [loadVar, Sem.run_bind, Result.andThen, Try.isAgg31, run_load, hc]
theorem infoBk : (Try.prog.info? 27).map (·.size) = some 5 := by kernel_rfl
theorem load_bk {W : World} {g : Nat} {cs : Array Value} (h : W.heap[g]? = some (.cells cs 27 (0, 0))) (hs : cs.size = 5) : (loadVar 27 ⟨g, 0, none⟩).run Try.prog W = .ok (.agg cs) W :=
  run_loadVar_row W g 27 27 cs (0, 0) _ h Try.underlying27 rfl (by rw [hs]; exact infoBk)
theorem besideFC (x y : Value) (a : Option Addr) (n c gf : Nat) (lb : Array Value) (w : World) (hx : x = .func (.func gf) #[] lb) (hy : y = .slice a n c) : Calls Try.prog 28 #[x, y] w fun e w' => e = .returned (.func (.func 56) #[] #[.pointer (some ⟨w.heap.size + 1, 0, none⟩), .pointer (some ⟨w.heap.size, 0, none⟩)]) ∧ w' = (w.alloc (.cells #[x] 56)).alloc (.cells #[y] 30) := by
  subst hx hy
  go_enter Try.func28, Try.ntmps28
  go_wp2
  go_ret
  exact ⟨rfl, rfl⟩
theorem BkS.turn {B gb : Nat} {W W' : World} {v : Slots} {b : BookT} {S : Nat → Obj → Prop} (h : BkS B gb W v b) (hT : NoT [27, 64, 66, 69, 44] S) (ht : TurnsK S W W') : BkS B gb W' v b :=
  ⟨hT.at ht h.box (by simp), own_turn h.h (hT.sub (by simp)) ht, own_turn h.s (hT.sub (by simp)) ht, own_turn h.o (hT.sub (by simp)) ht, own_turn h.r (hT.sub (by simp)) ht, h.lo⟩
/-- What Patch's rounds turn: the book's box, the answer's, the error's, rows of things. -/
def RPat (B gb r4 r5 : Nat) (k : Nat) (o : Obj) : Prop := B ≤ k ∧ ((∃ cs fz, o = .cells cs 27 fz ∧ (fz = (0, 0) → k = gb ∨ k = r4)) ∨ (k = r5 ∧ ∃ cs, o = .cells cs 31 (0, 0)) ∨ (∃ cs t fz, o = .cells cs t fz ∧ (t = 64 ∨ t = 66 ∨ t = 69 ∨ t = 44)))
theorem RPat.cells {B gb r4 r5 k : Nat} {o : Obj} (h : RPat B gb r4 r5 k o) : o.isCells = true := by
  rcases h.2 with ⟨cs, fz, rfl, _⟩ | ⟨_, cs, rfl⟩ | ⟨cs, t, fz, rfl, _⟩ <;> rfl
theorem RPat.types {B gb r4 r5 k : Nat} {cs : Array Value} {t : TypeId} {fz : Nat × Nat} (h : RPat B gb r4 r5 k (.cells cs t fz)) : t = 27 ∨ t = 31 ∨ t = 64 ∨ t = 66 ∨ t = 69 ∨ t = 44 := by
  rcases h.2 with ⟨cs', fz', e, _⟩ | ⟨_, cs', e⟩ | ⟨cs', t', fz', e, ht⟩
  · cases e; exact .inl rfl
  · cases e; exact .inr (.inl rfl)
  · cases e; exact .inr (.inr ht)
theorem RPat.no (B gb r4 r5 : Nat) : NoT [62, 54, 2, 107, 75, 30] (RPat B gb r4 r5) := fun k cs t fz h => by
  rcases h.types with rfl | rfl | rfl | rfl | rfl | rfl <;> decide
theorem RPat.book {B gb r4 r5 g : Nat} {cs : Array Value} (h1 : g ≠ gb) (h2 : g ≠ r4) : ¬ RPat B gb r4 r5 g (.cells cs 27 (0, 0)) := fun h => by
  rcases h.2 with ⟨cs', fz', e, h⟩ | ⟨_, cs', e⟩ | ⟨cs', t', fz', e, ht⟩
  · cases e; rcases h rfl with h | h
    · exact h1 h
    · exact h2 h
  · cases e
  · cases e; rcases ht with h | h | h | h <;> cases h
theorem lay_turns {B gb r4 r5 : Nat} {w w' : World} (hk : KeepT w w') (hb : Below B w w') (hg : KeepG gb w w') : TurnsK (RPat B gb r4 r5) w w' :=
  ⟨hb.os, hb.tape, hb.output, hb.size, fun k o h1 hn => by
    by_cases hlt : k < B
    · exact (hb.block k hlt).trans h1
    cases hbk : isBk o with
    | false => exact hk.same k o h1 hbk
    | true =>
      cases o with
      | cells cs t fz =>
        simp only [isBk, Bool.or_eq_true, beq_iff_eq] at hbk
        have h5 : t = 27 ∨ (t = 64 ∨ t = 66 ∨ t = 69 ∨ t = 44) := by
          rcases hbk with (((h | h) | h) | h) | h
          · exact .inl h
          · exact .inr (.inl h)
          · exact .inr (.inr (.inl h))
          · exact .inr (.inr (.inr (.inl h)))
          · exact .inr (.inr (.inr (.inr h)))
        rcases h5 with rfl | h5
        · by_cases hz : fz = (0, 0)
          · subst hz
            by_cases hkg : k = gb
            · exact absurd ⟨by omega, .inl ⟨cs, _, rfl, fun _ => .inl hkg⟩⟩ hn
            · exact hg k cs h1 hkg
          · exact absurd ⟨by omega, .inl ⟨cs, fz, rfl, fun h => absurd h hz⟩⟩ hn
        · exact absurd ⟨by omega, .inr (.inr ⟨cs, t, fz, rfl, h5⟩)⟩ hn
      | _ => simp [isBk] at hbk⟩
/-- How far lists grow. -/
theorem layB_len (b : BookT) (r : RowT) : (layB b r).hs.length ≤ b.hs.length + 1 ∧ (layB b r).ss.length ≤ b.ss.length + 1 ∧ (layB b r).os.length ≤ b.os.length + 1 ∧ (layB b r).rs.length ≤ b.rs.length + 1 := by
  unfold layB
  split
  · simp
  split
  · simp
  split
  · simp
  split <;> simp
theorem fold_len : ∀ (l : List RowT) (b : BookT), (l.foldl layB b).hs.length ≤ b.hs.length + l.length ∧ (l.foldl layB b).ss.length ≤ b.ss.length + l.length ∧ (l.foldl layB b).os.length ≤ b.os.length + l.length ∧ (l.foldl layB b).rs.length ≤ b.rs.length + l.length
  | [], b => by simp
  | r :: l, b => by
    have h1 := fold_len l (layB b r)
    have h2 := layB_len b r
    rw [List.foldl_cons, List.length_cons]
    omega
theorem lay_len (p : Option RowT × Option ChT) : (layOf p).length ≤ 1 := by
  obtain ⟨x, y⟩ := p
  cases y with
  | some c =>
    show (if c.now = [] then [] else _).length ≤ 1
    split <;> simp
  | none => cases x <;> simp [layOf]
theorem layAll_len (ps : List (Option RowT × Option ChT)) : (layAll ps).hs.length ≤ ps.length ∧ (layAll ps).ss.length ≤ ps.length ∧ (layAll ps).os.length ≤ ps.length ∧ (layAll ps).rs.length ≤ ps.length := by
  have h1 := fold_len (ps.flatMap layOf) zeroD
  have h2 : ∀ qs : List (Option RowT × Option ChT), (qs.flatMap layOf).length ≤ qs.length := fun qs => by
    induction qs with
    | nil => simp
    | cons q qs ih => rw [List.flatMap_cons, List.length_append, List.length_cons]; have := lay_len q; omega
  have h3 := h2 ps
  unfold layAll
  simp only [zeroD, List.length_nil] at h1 ⊢
  omega
theorem layAll_snoc (ps : List (Option RowT × Option ChT)) (p : Option RowT × Option ChT) : layAll (ps ++ [p]) = (layOf p).foldl layB (layAll ps) := by
  unfold layAll
  rw [List.flatMap_append, List.foldl_append, List.flatMap_singleton]
end Go.Proofs.Ytellifcjamedkaa

namespace Go.Proofs.Ytellifcjamedkaa
open Go.RowKit Go.Shelf Base Base2
attribute [local go_sem] Oper.semAt_some

theorem atLoadP {P : Program} {ops : Array Oper} {rest : List Oper} {o : Oper} {a : Act} {w : World} {Q : Exit → Act → World → Prop} {ty : TypeId} {x : Operand} (_ : o.op = .load ty x) (h : wpList P ops Q (o :: rest) a w) : wpList P ops Q (o :: rest) a w := h
theorem atStoreP {P : Program} {ops : Array Oper} {rest : List Oper} {o : Oper} {a : Act} {w : World} {Q : Exit → Act → World → Prop} {ty : TypeId} {x y : Operand} (_ : o.op = .store ty x y) (h : wpList P ops Q (o :: rest) a w) : wpList P ops Q (o :: rest) a w := h
/-- Rows that lie from a block on. -/
def RowFrom (B : Nat) (a : Option Addr) (l : List Item) : Prop := l = [] ∨ ∃ b off, a = some ⟨b, off, none⟩ ∧ B ≤ b
structure BookFrom (B : Nat) (v : Slots) (b : BookT) : Prop where
  h : RowFrom B v.h b.hs
  s : RowFrom B v.s b.ss
  o : RowFrom B v.o b.os
  r : RowFrom B v.r b.rs
theorem row_from {W : World} {B k c : Nat} {T : TypeId} {a : Option Addr} {l : List Item} {xs : List Value} (h : W.ownsRow B T k (.slice a l.length c) l.length xs) : RowFrom B a l := by
  rcases h.2 with ⟨_, hn⟩ | ⟨g, cap, cur, hv, h1, _⟩
  · exact .inl (List.eq_nil_of_length_eq_zero hn)
  · obtain ⟨rfl, rfl⟩ : a = some ⟨g, 0, none⟩ ∧ c = cap := by simpa using hv
    exact .inr ⟨g, 0, rfl, h1⟩
theorem BkS.from' {B gb : Nat} {W : World} {v : Slots} {b : BookT} (h : BkS B gb W v b) : BookFrom B v b := ⟨row_from h.h, row_from h.s, row_from h.o, row_from h.r⟩
theorem rows_farP {B k : Nat} {W W' : World} {a : Option Addr} {l : List Item} (h : RowFrom B a l) (hr : RowsOf k W a l) (hsz : W.heap.size ≤ W'.heap.size) (hs : ∀ i, B ≤ i → W'.heap[i]? = W.heap[i]?) : RowsOf k W' a l := by
  rcases hr with hr | ⟨b, off, rfl, hlt, hc⟩
  · exact .inl hr
  · rcases h with h | ⟨b', off', hab, h1⟩
    · exact .inl h
    · obtain ⟨rfl, rfl⟩ : b = b' ∧ off = off' := by simpa using hab
      exact .inr ⟨b, off, rfl, Nat.lt_of_lt_of_le hlt hsz, fun i x hi j z hz => (World.cell?_of_block (a := ⟨b, off + i * k + j, none⟩) (hs b h1)).trans (hc i x hi j z hz)⟩
theorem book_farP {B : Nat} {W W' : World} {v : Slots} {b : BookT} (h : BookFrom B v b) (hr : BookIn W v b) (hsz : W.heap.size ≤ W'.heap.size) (hs : ∀ i, B ≤ i → W'.heap[i]? = W.heap[i]?) : BookIn W' v b :=
  ⟨rows_farP h.h hr.hs hsz hs, rows_farP h.s hr.ss hsz hs, rows_farP h.o hr.os hsz hs, rows_farP h.r hr.rs hsz hs⟩
/-- What Patch answers. -/
def PatchOut (w : World) (r : BookT × Int) (e : Ending) (w' : World) : Prop := (∃ v', e = .returned (.tuple #[.agg (cellsB v' r.1), .int .i64 r.2]) ∧ BookIn w' v' r.1 ∧ BookFrom w.heap.size v' r.1) ∧ Below w.heap.size w w'
theorem zero_in (W : World) : BookIn W ⟨none, none, none, none, 0, 0, 0, 0⟩ zeroD := ⟨.inl rfl, .inl rfl, .inl rfl, .inl rfl⟩
theorem pat_zero {w W : World} {n : Int} (h : Below w.heap.size w W) : PatchOut w (zeroD, n) (.returned (.tuple #[.agg #[.slice none 0 0, .slice none 0 0, .slice none 0 0, .slice none 0 0, .int .i64 0], .int .i64 n])) W := ⟨⟨⟨none, none, none, none, 0, 0, 0, 0⟩, rfl, zero_in W, ⟨.inl rfl, .inl rfl, .inl rfl, .inl rfl⟩⟩, h⟩
/-- The answer's box and the error's, as they lie at the beginning. -/
theorem three_new {W : World} {O P S : Obj} : (((W.alloc O).alloc P).alloc S).heap[W.heap.size]? = some O ∧ (((W.alloc O).alloc P).alloc S).heap[W.heap.size + 1]? = some P ∧ (((W.alloc O).alloc P).alloc S).heap[W.heap.size + 2]? = some S := by
  have h := heap_alloc_new ((W.alloc O).alloc P) S
  rw [World.size_alloc, World.size_alloc] at h
  obtain ⟨h1, h2⟩ := two_new (W := W) (O := O) (P := P)
  exact ⟨(Below.heap_alloc _ _ _ (lt_of_blk h1)).trans h1, (Below.heap_alloc _ _ _ (lt_of_blk h2)).trans h2, h⟩
/-- The answer and the error written. -/
theorem two_set {W : World} {r4 r5 : Nat} {cs ds : Array Value} {n m : Int} (h4 : W.heap[r4]? = some (.cells cs 27 (0, 0))) (h5 : W.heap[r5]? = some (.cells #[.int .i64 n] 31 (0, 0))) (_ : ds.size = 5) :
    (W.setRow r4 ds).cell? ⟨r5, 0, none⟩ = some (.int .i64 n) ∧ (W.setRow r4 ds).frozen? ⟨r5, 0, none⟩ = false ∧ ((W.setRow r4 ds).setCell ⟨r5, 0, none⟩ (.int .i64 m)).heap[r4]? = some (.cells ds 27 (0, 0)) ∧ ((W.setRow r4 ds).setCell ⟨r5, 0, none⟩ (.int .i64 m)).heap[r5]? = some (.cells #[.int .i64 m] 31 (0, 0)) ∧
    TurnsK (fun k o => (k = r4 ∧ ∃ cs, o = .cells cs 27 (0, 0)) ∨ (k = r5 ∧ ∃ cs, o = .cells cs 31 (0, 0))) W ((W.setRow r4 ds).setCell ⟨r5, 0, none⟩ (.int .i64 m)) := by
  have hne : r5 ≠ r4 := by rintro rfl; rw [h4] at h5; cases h5
  have e4 : (W.setRow r4 ds).heap[r4]? = some (.cells ds 27 (0, 0)) := setRow_heap _ _ _ _ _ _ h4
  have e5 : (W.setRow r4 ds).heap[r5]? = some (.cells #[.int .i64 n] 31 (0, 0)) := (setRow_ne _ hne).trans h5
  refine ⟨by rw [cell_of_row _ _ _ _ _ _ e5]; rfl, free_of_blkN e5 0, (Below.heap_setCell _ _ _ _ (Ne.symm hne)).trans e4, set_blkN e5 0 _, ?_⟩
  exact ((TurnsK.refl _ W).setRow h4 (.inl ⟨rfl, _, rfl⟩) _).setCell e5 (.inr ⟨rfl, _, rfl⟩) _
theorem two_lo {B r4 r5 : Nat} {W W' : World} (h4 : B ≤ r4) (h5 : B ≤ r5) (hB : B ≤ W.heap.size) (h : TurnsK (fun k o => (k = r4 ∧ ∃ cs, o = .cells cs 27 (0, 0)) ∨ (k = r5 ∧ ∃ cs, o = .cells cs 31 (0, 0))) W W') : Below B W W' :=
  h.lo hB (fun k o hk a => by rcases a with ⟨rfl, _⟩ | ⟨rfl, _⟩ <;> omega)
theorem book_in_turn {B gb m : Nat} {W W' : World} {v : Slots} {b : BookT} {S : Nat → Obj → Prop} (h : BkS B gb W v b) (hT : NoT [64, 66, 69, 44] S) (ht : TurnsK S W W') (hk : BookOk m b) : BookIn W' v b :=
  ⟨rows_ownS (fun x hx => (hk.hs.2 x hx).1) (own_turn h.h (hT.sub (by simp)) ht), rows_ownS (fun x hx => (hk.ss.2 x hx).1) (own_turn h.s (hT.sub (by simp)) ht), rows_ownS (fun x hx => (hk.os.2 x hx).1) (own_turn h.o (hT.sub (by simp)) ht), rows_ownS (fun x hx => (hk.rs.2 x hx).1) (own_turn h.r (hT.sub (by simp)) ht)⟩
theorem ltC_less {c d : ChT} : ltC c d = less3 (keyC c) (keyC d) := rfl
theorem pair_of_rise : ∀ {l : List ChT}, riseC l = true → l.Pairwise (fun c d => ltC c d = true)
  | [], _ => List.Pairwise.nil
  | [_], _ => List.pairwise_singleton _ _
  | x :: y :: r, h => by
    have h' : (ltC x y && riseC (y :: r)) = true := h
    rw [Bool.and_eq_true] at h'
    have ih := pair_of_rise h'.2
    have hp := List.pairwise_cons.1 ih
    refine List.pairwise_cons.2 ⟨fun z hz => ?_, ih⟩
    rcases List.mem_cons.1 hz with rfl | hz
    · exact h'.1
    · exact (less3_trans (a := keyC x) (b := keyC y) (c := keyC z) h'.1 (hp.1 z hz) : less3 (keyC x) (keyC z) = true)
theorem may_rise {Y : List ChV} (h : mayCh (Y.map ChV.c) = true) : RiseK (Y.map (fun x : ChV => keyC x.c)) := by
  unfold mayCh at h
  rw [Bool.and_eq_true] at h
  have h2 := pair_of_rise h.2
  unfold RiseK
  rw [show Y.map (fun x : ChV => keyC x.c) = (Y.map ChV.c).map keyC by rw [List.map_map]; rfl]
  exact List.pairwise_map.2 h2
theorem may_one {l : List ChT} (h : mayCh l = true) : ∀ c ∈ l, 1 ≤ c.l ∧ c.l ≤ 5 ∧ (c.now ≠ [] → c.now.length = allT c.l) := fun c hc => by
  unfold mayCh at h
  rw [Bool.and_eq_true] at h
  have h1 := List.all_eq_true.1 h.1 c hc
  unfold mayOne at h1
  simp only [Bool.and_eq_true, decide_eq_true_eq] at h1
  obtain ⟨⟨⟨⟨⟨⟨h1, h2⟩, _⟩, h3⟩, _⟩, _⟩, _⟩ := h1
  refine ⟨h1, h2, fun hn => ?_⟩
  unfold valuesT at h3
  rw [if_neg hn, Bool.and_eq_true, beq_iff_eq] at h3
  exact h3.1
/-- A zero change. -/
def zeroCV : ChV := ⟨⟨0, 0, 0, [], []⟩, none, 0, none, 0⟩
theorem chArr_form (z : Option ChV) : chArr z = (z.getD zeroCV).cells.toArray := by cases z <;> rfl
theorem okC {W : World} {z : Option ChV} (h : ∀ x, z = some x → ChOk W x) : ChOk W (z.getD zeroCV) := by
  cases z with
  | none => exact ⟨.inl rfl, .inl rfl⟩
  | some x => exact h x rfl
set_option maxRecDepth 100000 in
set_option maxHeartbeats 8000000 in
theorem patch_no1 (v : Slots) (a : BookT) (vl : Value) (l : List ChT) (w : World) (ha : BookIn w v a) (ka : BookOk 2000 a) (hm : mayT a = false) :
    Calls Try.prog 13 #[.agg (cellsB v a), vl] w (PatchOut w (patchP a l)) := by
  have HP := Lib.hid (show patchP a l = (zeroD, 1) by unfold patchP; rw [if_pos hm])
  rw [HP.out]
  obtain ⟨W0, hW0⟩ : ∃ x, (((w.alloc (.cells (cellsB v a) 27)).alloc (.cells #[.slice none 0 0, .slice none 0 0, .slice none 0 0, .slice none 0 0, .int .i64 0] 27)).alloc (.cells #[.int .i64 0] 31)) = x := ⟨_, rfl⟩
  have hA : Below w.heap.size w W0 := by rw [← hW0]; exact (((Below.refl _ w).alloc (Nat.le_refl _) _).alloc (by simp) _).alloc (by simp; omega) _
  have hN := three_new (W := w) (O := .cells (cellsB v a) 27) (P := (.cells #[.slice none 0 0, .slice none 0 0, .slice none 0 0, .slice none 0 0, .int .i64 0] 27)) (S := .cells #[.int .i64 0] 31)
  rw [hW0] at hN
  have hg1 : BoxB W0 w.heap.size v a := hN.1
  have HLO := Lib.hid (fun W (h : Below W0.heap.size W0 W) => show Below w.heap.size w W from hA.trans (h.mono hA.size))
  have HL1 := Lib.hid (fun W (h : Below W0.heap.size W0 W) => load_book (hg1.below h (lt_of_blk hg1)))
  have HM1 := Lib.hid (pmay9 v a W0 (ha.below hA) ka)
  have HN4 := Lib.hid (fun W (h : Below W0.heap.size W0 W) => (h.block _ (lt_of_blk hN.2.1)).trans hN.2.1)
  have HN5 := Lib.hid (fun W (h : Below W0.heap.size W0 W) => (h.block _ (lt_of_blk hN.2.2)).trans hN.2.2)
  rw [hm] at HM1
  clear ha ka hg1 hA hN hm
  generalize cellsB v a = CA at *
  go_enter Try.func13, Try.ntmps13
  go_upto_region 2 with (first | ((with_reducible refine atLoadP (ty := 27) (x := .tmp 2) rfl ?_); refine loadE (by rfl) 27 (.tmp 2) rfl _ (.agg CA) rfl (HL1.out _ (by first | exact HB2.out | exact HB1.out | exact Below.refl _ _)) ?_) | (go_at_call 16; refine HM1.out.mono ?_; rintro e w1 ⟨rfl, hb1⟩; have HB1 := Lib.hid hb1; clear hb1; have t4 := HN4.out _ HB1.out; have HT4 := Lib.hid t4; have HT5 := Lib.hid (HN5.out _ HB1.out); clear t4))
  obtain ⟨e1, e2, e3, e4, e5⟩ := two_set (m := 1) HT4.out HT5.out (show (#[.slice none 0 0, .slice none 0 0, .slice none 0 0, .slice none 0 0, .int .i64 0] : Array Value).size = 5 from rfl)
  have HE3 := Lib.hid e3
  have HE4 := Lib.hid e4
  have HE5 := Lib.hid e5
  clear e3 e4 e5
  go_wp2_with (first | ((with_reducible refine atStoreP (ty := 27) (x := .tmp 4) (y := .tmp 12) rfl ?_); refine wpList_store_row rfl 27 (.tmp 4) (.tmp 12) rfl (w.heap.size + 1) #[.slice none 0 0, .slice none 0 0, .slice none 0 0, .slice none 0 0, .int .i64 0] rfl rfl 27 #[.slice none 0 0, .slice none 0 0, .slice none 0 0, .slice none 0 0, .int .i64 0] HT4.out info27 rfl (by simp [Value.oneCell']) ?_))
  refine bodyPost_ret (v := .tuple #[.agg #[.slice none 0 0, .slice none 0 0, .slice none 0 0, .slice none 0 0, .int .i64 0], .int .i64 1]) (results_cells2 rfl rfl rfl (load_bk HE3.out rfl) (load_err HE4.out)) rfl ?_
  exact pat_zero ((HLO.out _ HB1.out).trans (two_lo (by omega) (by omega) (HLO.out _ HB1.out).size HE5.out))
set_option maxRecDepth 100000 in
set_option maxHeartbeats 8000000 in
theorem patch_no2 (v : Slots) (a : BookT) (ya : Option Addr) (yc : Nat) (Y : List ChV) (w : World) (ha : BookIn w v a) (ka : BookOk 2000 a) (hm : mayT a = true) (hmc : mayCh (Y.map ChV.c) = false)
    (hr : RowsK 62 5 w ya (Y.map ChV.cells)) (hok : ∀ y ∈ Y, ChOk w y) (hlv : ∀ x ∈ Y, x.c.was.length ≤ 100000 ∧ x.c.now.length ≤ 100000) (hle : Y.length ≤ 10000) :
    Calls Try.prog 13 #[.agg (cellsB v a), .slice ya Y.length yc] w (PatchOut w (patchP a (Y.map ChV.c))) := by
  have HP := Lib.hid (show patchP a (Y.map ChV.c) = (zeroD, 3) by unfold patchP; rw [if_neg (by rw [hm]; decide), if_pos hmc])
  rw [HP.out]
  obtain ⟨W0, hW0⟩ : ∃ x, (((w.alloc (.cells (cellsB v a) 27)).alloc (.cells #[.slice none 0 0, .slice none 0 0, .slice none 0 0, .slice none 0 0, .int .i64 0] 27)).alloc (.cells #[.int .i64 0] 31)) = x := ⟨_, rfl⟩
  have hA : Below w.heap.size w W0 := by rw [← hW0]; exact (((Below.refl _ w).alloc (Nat.le_refl _) _).alloc (by simp) _).alloc (by simp; omega) _
  have hN := three_new (W := w) (O := .cells (cellsB v a) 27) (P := (.cells #[.slice none 0 0, .slice none 0 0, .slice none 0 0, .slice none 0 0, .int .i64 0] 27)) (S := .cells #[.int .i64 0] 31)
  rw [hW0] at hN
  have hg1 : BoxB W0 w.heap.size v a := hN.1
  have HLO := Lib.hid (fun W (h : Below W0.heap.size W0 W) => show Below w.heap.size w W from hA.trans (h.mono hA.size))
  have HL1 := Lib.hid (fun W (h : Below W0.heap.size W0 W) => load_book (hg1.below h (lt_of_blk hg1)))
  have HM1 := Lib.hid (pmay9 v a W0 (ha.below hA) ka)
  have HN4 := Lib.hid (fun W (h : Below W0.heap.size W0 W) => (h.block _ (lt_of_blk hN.2.1)).trans hN.2.1)
  have HN5 := Lib.hid (fun W (h : Below W0.heap.size W0 W) => (h.block _ (lt_of_blk hN.2.2)).trans hN.2.2)
  have HMC := Lib.hid (fun W (h : Below W0.heap.size W0 W) => may27 ya yc Y W (hr.below (HLO.out _ h)) (fun x hx => ⟨(hok x hx).1.below (HLO.out _ h), (hok x hx).2.below (HLO.out _ h)⟩) hlv (by omega))
  rw [hm] at HM1
  rw [hmc] at HMC
  generalize Y.length = ny at *
  clear ha ka hg1 hA hN hm hmc hr hok hlv
  generalize cellsB v a = CA at *
  go_enter Try.func13, Try.ntmps13
  go_upto_region 4 with (first | ((with_reducible refine atLoadP (ty := 27) (x := .tmp 2) rfl ?_); refine loadE (by rfl) 27 (.tmp 2) rfl _ (.agg CA) rfl (HL1.out _ (by first | exact HB2.out | exact HB1.out | exact Below.refl _ _)) ?_) | (go_at_call 27; refine (HMC.out _ HB1.out).mono ?_; rintro e w2 ⟨rfl, hb2⟩; have HB2 := Lib.hid (HB1.out.trans (hb2.mono HB1.out.size)); clear hb2; have HT4 := Lib.hid (HN4.out _ HB2.out); have HT5 := Lib.hid (HN5.out _ HB2.out)) | (go_at_call 16; refine HM1.out.mono ?_; rintro e w1 ⟨rfl, hb1⟩; have HB1 := Lib.hid hb1; clear hb1; have t4 := HN4.out _ HB1.out; have HT4 := Lib.hid t4; have HT5 := Lib.hid (HN5.out _ HB1.out); clear t4))
  obtain ⟨e1, e2, e3, e4, e5⟩ := two_set (m := 3) HT4.out HT5.out (show (#[.slice none 0 0, .slice none 0 0, .slice none 0 0, .slice none 0 0, .int .i64 0] : Array Value).size = 5 from rfl)
  have HE3 := Lib.hid e3
  have HE4 := Lib.hid e4
  have HE5 := Lib.hid e5
  clear e3 e4 e5
  go_wp2_with (first | ((with_reducible refine atStoreP (ty := 27) (x := .tmp 4) (y := .tmp 16) rfl ?_); refine wpList_store_row rfl 27 (.tmp 4) (.tmp 16) rfl (w.heap.size + 1) #[.slice none 0 0, .slice none 0 0, .slice none 0 0, .slice none 0 0, .int .i64 0] rfl rfl 27 #[.slice none 0 0, .slice none 0 0, .slice none 0 0, .slice none 0 0, .int .i64 0] HT4.out info27 rfl (by simp [Value.oneCell']) ?_))
  refine bodyPost_ret (v := .tuple #[.agg #[.slice none 0 0, .slice none 0 0, .slice none 0 0, .slice none 0 0, .int .i64 0], .int .i64 3]) (results_cells2 rfl rfl rfl (load_bk HE3.out rfl) (load_err HE4.out)) rfl ?_
  exact pat_zero ((HLO.out _ HB2.out).trans (two_lo (by omega) (by omega) (HLO.out _ HB2.out).size HE5.out))
end Go.Proofs.Ytellifcjamedkaa

namespace Go.Proofs.Ytellifcjamedkaa
open Go.RowKit Go.Shelf Base Base2
attribute [local go_sem] Oper.semAt_some

theorem lo_put {w W : World} {E : Nat} {o o' : Obj} (h : Below w.heap.size w W) (hE : w.heap.size ≤ E) (hk : W.heap[E]? = some o) : Below w.heap.size w (W.putObj E o') :=
  h.trans (((TurnsK.refl (fun k _ => k = E) W).putObj hk rfl _).lo h.size (fun k ob hk a => by omega))
/-- How Patch stands between two rounds: b, the book that is being made; r4, r5, the answer's box and the error's. -/
structure PatI (w : World) (gb n5 : Nat) (pre : List PCh) (W : World) : Prop where
  bk : ∃ vb, BkS w.heap.size gb W vb (layAll (pre.map plainCh))
  z4 : W.heap[w.heap.size + 1]? = some (.cells #[.slice none 0 0, .slice none 0 0, .slice none 0 0, .slice none 0 0, .int .i64 0] 27 (0, 0))
  z5 : W.heap[w.heap.size + 2]? = some (.cells #[.int .i64 0] 31 (0, 0))
  lo : Below w.heap.size w W
  ok : (pre.map plainCh).all pairOkB = true
  sz : n5 ≤ W.heap.size
structure PatX (w : World) (FULL : List (Option RowT × Option ChT)) (c : Code) (W : World) : Prop where
  c : c = Code.ret
  z4 : W.heap[w.heap.size + 1]? = some (.cells #[.slice none 0 0, .slice none 0 0, .slice none 0 0, .slice none 0 0, .int .i64 0] 27 (0, 0))
  z5 : W.heap[w.heap.size + 2]? = some (.cells #[.int .i64 7] 31 (0, 0))
  lo : Below w.heap.size w W
  no : FULL.all pairOkB = false
theorem PatI.turn {w : World} {gb n5 : Nat} {pre : List PCh} {W W' : World} {S : Nat → Obj → Prop} (h : PatI w gb n5 pre W) (hT : NoT [27, 31, 64, 66, 69, 44] S) (hB : ∀ k o, S k o → w.heap.size ≤ k) (ht : TurnsK S W W') : PatI w gb n5 pre W' := by
  obtain ⟨vb, hb⟩ := h.bk
  exact ⟨⟨vb, hb.turn (hT.sub (by simp)) ht⟩, hT.at ht h.z4 (by simp), hT.at ht h.z5 (by simp), h.lo.trans (ht.lo h.lo.size (fun k o hk a => by have := hB k o a; omega)), h.ok, Nat.le_trans h.sz ht.size⟩
theorem PatX.turn {w : World} {FULL : List (Option RowT × Option ChT)} {c : Code} {W W' : World} {S : Nat → Obj → Prop} (h : PatX w FULL c W) (hT : NoT [27, 31, 64, 66, 69, 44] S) (hB : ∀ k o, S k o → w.heap.size ≤ k) (ht : TurnsK S W W') : PatX w FULL c W' :=
  ⟨h.c, hT.at ht h.z4 (by simp), hT.at ht h.z5 (by simp), h.lo.trans (ht.lo h.lo.size (fun k o hk a => by have := hB k o a; omega)), h.no⟩
/-- A round that laid a row. -/
theorem PatI.lay {w : World} {gb n5 : Nat} {pre : List PCh} {z : PCh} {W W' : World} {r : RowT} {v' : Slots} (h : PatI w gb n5 pre W) (hg : gb ≠ w.heap.size + 1) (hl : layOf (plainCh z) = [r]) (hk : pairOkB (plainCh z) = true) (h1 : BkS w.heap.size gb W' v' (layB (layAll (pre.map plainCh)) r)) (h2 : KeepT W W') (h3 : Below w.heap.size W W') (h4 : KeepG gb W W') : PatI w gb n5 (pre ++ [z]) W' :=
  ⟨⟨v', by rw [List.map_append, List.map_singleton, layAll_snoc, hl]; exact h1⟩, h4 _ _ h.z4 (Ne.symm hg), h2.same _ _ h.z5 rfl, h.lo.trans h3, by rw [List.map_append, List.all_append, h.ok, List.map_singleton]; simp [hk], Nat.le_trans h.sz h3.size⟩
theorem PatI.skip {w : World} {gb n5 : Nat} {pre : List PCh} {z : PCh} {W W' : World} (h : PatI w gb n5 pre W) (hl : layOf (plainCh z) = []) (hk : pairOkB (plainCh z) = true) (hb : Below W.heap.size W W') : PatI w gb n5 (pre ++ [z]) W' := by
  obtain ⟨vb, h1⟩ := h.bk
  exact ⟨⟨vb, by rw [List.map_append, List.map_singleton, layAll_snoc, hl]; exact h1.below hb⟩, (hb.block _ (lt_of_blk h.z4)).trans h.z4, (hb.block _ (lt_of_blk h.z5)).trans h.z5, h.lo.trans (hb.mono h.lo.size), by rw [List.map_append, List.all_append, h.ok, List.map_singleton]; simp [hk], Nat.le_trans h.sz hb.size⟩
theorem not_all {A : Type} {p : A → Bool} {l F : List A} {x : A} (h : ∃ s, l ++ [x] ++ s = F) (hx : p x = false) : F.all p = false := by
  obtain ⟨s, rfl⟩ := h
  rw [List.all_append, List.all_append]
  simp [hx]
theorem kinds_no {ts : List TypeId} {n : Nat} (hm : 30 ∉ ts) : NoT ts (fun k o => n ≤ k ∧ (KCh o ∨ o.isCells = false)) := fun k cs t fz h => by
  rcases h with ⟨_, (h | ⟨cs', h⟩) | h⟩
  · cases h
  · cases h; exact hm
  · cases h
set_option maxRecDepth 100000 in
set_option maxHeartbeats 16000000 in
theorem patch_yes (v : Slots) (a : BookT) (ya : Option Addr) (yc : Nat) (Y : List ChV) (w : World) (ha : BookIn w v a) (ka : BookOk 2000 a) (hm : mayT a = true) (hmc : mayCh (Y.map ChV.c) = true)
    (hr : RowsK 62 5 w ya (Y.map ChV.cells)) (hyc : Y.length ≤ yc) (hok : ∀ y ∈ Y, ChOk w y) (hlv : ∀ x ∈ Y, x.c.was.length ≤ 100000 ∧ x.c.now.length ≤ 100000) (hle : Y.length ≤ 10000)
    (hbk : (sideP a (Y.map ChV.c)).all pairOkB = true → BookOk 2000 (layAll (sideP a (Y.map ChV.c)))) :
    Calls Try.prog 13 #[.agg (cellsB v a), .slice ya Y.length yc] w (PatchOut w (patchP a (Y.map ChV.c))) := by
  refine (callsIn_wide (n := 10)).1 ?_
  have HP := Lib.hid (show patchP a (Y.map ChV.c) = if (sideP a (Y.map ChV.c)).all pairOkB = false then (zeroD, 7) else if mayT (layAll (sideP a (Y.map ChV.c))) = true then (layAll (sideP a (Y.map ChV.c)), 0) else (zeroD, 1) by unfold patchP; rw [if_neg (by rw [hm]; decide), if_neg (by rw [hmc]; decide)])
  have HBK := Lib.hid hbk
  have HMA := Lib.hid (mayB hm ka)
  have HON := Lib.hid (may_one hmc)
  have HRI := Lib.hid (may_rise hmc)
  obtain ⟨R, hR⟩ : ∃ R, patchP a (Y.map ChV.c) = R := ⟨_, rfl⟩
  rw [hR] at HP ⊢
  obtain ⟨W0, hW0⟩ : ∃ x, (((w.alloc (.cells (cellsB v a) 27)).alloc (.cells #[.slice none 0 0, .slice none 0 0, .slice none 0 0, .slice none 0 0, .int .i64 0] 27)).alloc (.cells #[.int .i64 0] 31)) = x := ⟨_, rfl⟩
  have hA : Below w.heap.size w W0 := by rw [← hW0]; exact (((Below.refl _ w).alloc (Nat.le_refl _) _).alloc (by simp) _).alloc (by simp; omega) _
  have hN := three_new (W := w) (O := .cells (cellsB v a) 27) (P := (.cells #[.slice none 0 0, .slice none 0 0, .slice none 0 0, .slice none 0 0, .int .i64 0] 27)) (S := .cells #[.int .i64 0] 31)
  rw [hW0] at hN
  have hg1 : BoxB W0 w.heap.size v a := hN.1
  have HLO := Lib.hid (fun W (h : Below W0.heap.size W0 W) => show Below w.heap.size w W from hA.trans (h.mono hA.size))
  have HL1 := Lib.hid (fun W (h : Below W0.heap.size W0 W) => load_book (hg1.below h (lt_of_blk hg1)))
  have HM1 := Lib.hid (pmay9 v a W0 (ha.below hA) ka)
  have HN4 := Lib.hid (fun W (h : Below W0.heap.size W0 W) => (h.block _ (lt_of_blk hN.2.1)).trans hN.2.1)
  have HN5 := Lib.hid (fun W (h : Below W0.heap.size W0 W) => (h.block _ (lt_of_blk hN.2.2)).trans hN.2.2)
  have HMC := Lib.hid (fun W (h : Below W0.heap.size W0 W) => may27 ya yc Y W (hr.below (HLO.out _ h)) (fun x hx => ⟨(hok x hx).1.below (HLO.out _ h), (hok x hx).2.below (HLO.out _ h)⟩) hlv (by omega))
  rw [hm] at HM1
  rw [hmc] at HMC
  have HR1 := Lib.hid (fun W => rowsF v a W)
  have HRS := Lib.hid (fun W (h : Below w.heap.size w W) => show RestCh W (.slice ya Y.length yc) Y from ⟨⟨ya, yc, rfl, hr.below h, hyc⟩, fun y hy => ⟨(hok y hy).1.below h, (hok y hy).2.below h⟩⟩)
  have HLV := Lib.hid hlv
  have HLE := Lib.hid hle
  have HKA := Lib.hid (rowsD_len ka)
  have HIN := Lib.hid (fun (gb : Nat) (w0 : World) (h : Below w.heap.size w w0) (g : Nat) (hg : BoxB w0 g v a) (hgw : w.heap.size ≤ g) (hg1 : g ≠ gb) (hg2 : g ≠ w.heap.size + 1) => show ∀ (l p1 : Nat) (W : World), w0.heap.size ≤ l → w0.heap.size ≤ p1 → Below w0.heap.size w0 W → SeqK Try.prog 42 #[.pointer (some ⟨g, 0, none⟩)] encRv (fun _ => False) (RCh l p1 (RPat w.heap.size gb (w.heap.size + 1) (w.heap.size + 2))) (TlRow (rowsD a)) (fun xs => xs.map RowV.r = rowsD a) W from fun l p1 W hl hp hW => rows_seq (RCh l p1 (RPat w.heap.size gb (w.heap.size + 1) (w.heap.size + 2))) w v a ha ka g W (h.trans (hW.mono h.size)) (hg.below hW (lt_of_blk hg)) (fun k o h2 => by
    have := h.size
    rcases h2 with (⟨rfl, _⟩ | h2) | ⟨rfl, _⟩
    · omega
    · exact h2.1
    · omega) (fun h2 => by
    rcases h2 with (⟨_, h2⟩ | h2) | ⟨_, cs, h2⟩
    · cases h2
    · exact RPat.book hg1 hg2 h2
    · cases h2))
  have HZ0 := Lib.hid (show W0.heap.size = w.heap.size + 3 by rw [← hW0]; simp)
  have HW0 := Lib.hid hW0
  obtain ⟨ny, hny⟩ : ∃ n, Y.length = n := ⟨_, rfl⟩
  have HNY := Lib.hid hny
  rw [hny] at HMC HRS HLE ⊢
  clear ha ka hg1 hA hN hm hmc hr hok hlv hle hbk hR hyc hny
  refine callsIn_of_wp_marks Try.func13 rfl trivial ?_ rfl
  simp only [Try.ntmps13, List.size_toArray, List.length_cons, List.length_nil, Nat.reduceAdd, Nat.reduceSub, Array.replicate_succ, Array.replicate_zero, List.push_toArray, List.append_toArray, List.nil_append, List.cons_append]
  generalize hCA : cellsB v a = CA at *
  have HCAE := Lib.hid hCA
  clear hCA
  gi_wp2_with (first
    | ((with_reducible refine atLoadIn (ty := 27) (x := .tmp 2) rfl ?_); refine loadEIn (wanted_noneD rfl) (fun _ _ => trivial) 27 (.tmp 2) rfl _ (.agg CA) rfl (HL1.out _ (by first | exact HB3.out | exact Below.refl _ _)) ?_)
    | (refine ⟨trivial, ?_⟩; gi_at_call 28; refine (callsIn_wide.2 (besideFC _ _ _ _ _ _ _ _ rfl rfl)).mono ?_; rintro e w5 ⟨rfl, hw5⟩; have HW5 := Lib.hid hw5; clear hw5)
    | (refine ⟨trivial, ?_⟩; gi_at_call 18; refine (callsIn_wide.2 (HR1.out _)).mono ?_; rintro e w4 ⟨rfl, hw4⟩; have HW4 := Lib.hid hw4; clear hw4)
    | (refine ⟨trivial, ?_⟩; gi_at_call 27; refine (callsIn_wide.2 (HMC.out _ HB1.out)).mono ?_; rintro e w2 ⟨rfl, hb2⟩; have HB2 := Lib.hid (HB1.out.trans (hb2.mono HB1.out.size)); have HB3 := Lib.hid (HB2.out.alloc HB2.out.size (.cells #[.slice none 0 0, .slice none 0 0, .slice none 0 0, .slice none 0 0, .int .i64 0] 27)); clear hb2)
    | (refine ⟨trivial, ?_⟩; gi_at_call 16; refine (callsIn_wide.2 HM1.out).mono ?_; rintro e w1 ⟨rfl, hb1⟩; have HB1 := Lib.hid hb1; clear hb1))
  have b34 : Below (w2.alloc (.cells #[.slice none 0 0, .slice none 0 0, .slice none 0 0, .slice none 0 0, .int .i64 0] 27)).heap.size (w2.alloc (.cells #[.slice none 0 0, .slice none 0 0, .slice none 0 0, .slice none 0 0, .int .i64 0] 27)) w4 := by rw [HW4.out]; exact (Below.refl _ _).alloc (Nat.le_refl _) _
  have b45 : Below w4.heap.size w4 w5 := by rw [HW5.out]; exact ((Below.refl _ _).alloc (Nat.le_refl _) _).alloc (by simp) _
  have hz4 : w4.heap.size = w2.heap.size + 2 := by rw [HW4.out]; simp
  have hz5 : w5.heap.size = w2.heap.size + 4 := by rw [HW5.out]; simp [hz4]
  have hga : BoxB w5 (w2.heap.size + 1) v a := by
    have h : w4.heap[w2.heap.size + 1]? = some (.cells CA 27 (0, 0)) := by rw [HW4.out]; exact two_new.2
    unfold BoxB
    rw [HCAE.out]
    exact (b45.block _ (lt_of_blk h)).trans h
  have hgb : w5.heap[w2.heap.size]? = some (.cells #[.slice none 0 0, .slice none 0 0, .slice none 0 0, .slice none 0 0, .int .i64 0] 27 (0, 0)) := by
    have h : w4.heap[w2.heap.size]? = some (.cells #[.slice none 0 0, .slice none 0 0, .slice none 0 0, .slice none 0 0, .int .i64 0] 27 (0, 0)) := by rw [HW4.out]; exact two_new.1
    exact (b45.block _ (lt_of_blk h)).trans h
  have hyb : Boxed w5 (w2.heap.size + 3) 30 (.slice ya ny yc) := by
    have h : Boxed w5 (w4.heap.size + 1) 30 (.slice ya ny yc) := by rw [HW5.out]; exact two_new.2
    rw [hz4] at h; exact h
  have hxb : Boxed w5 (w2.heap.size + 2) 56 (.func (.func 42) #[] #[.pointer (some ⟨w2.heap.size + 1, 0, none⟩)]) := by
    have h : Boxed w5 w4.heap.size 56 (.func (.func 42) #[] #[.pointer (some ⟨w2.heap.size + 1, 0, none⟩)]) := by rw [HW5.out]; exact two_new.1
    rw [hz4] at h; exact h
  have h05 : Below W0.heap.size W0 w5 := HB3.out.trans (((b34.mono HB3.out.size)).trans (b45.mono (Nat.le_trans HB3.out.size b34.size)))
  have hw5 : Below w.heap.size w w5 := HLO.out w5 h05
  have hsz2 := HB2.out.size
  have hsz0 := HZ0.out
  have hseq := beside_seqCh (RPat w.heap.size w2.heap.size (w.heap.size + 1) (w.heap.size + 2)) (RPat.no _ _ _ _) (rowsD a) Y (.slice ya ny yc) 42 #[.pointer (some ⟨w2.heap.size + 1, 0, none⟩)] (enters_of Try.func42 (by kernel_rfl) rfl) (w2.heap.size + 3) (w2.heap.size + 2) w5 hyb hxb (HRS.out _ hw5) (by rw [HNY.out]; exact HLE.out) HRI.out (HIN.out w2.heap.size w5 hw5 (w2.heap.size + 1) hga (by omega) (by omega) (by omega)) (fun _ _ h => h.cells)
  have HSQ := Lib.hid hseq
  have HI0 := Lib.hid (show PatI w w2.heap.size w5.heap.size [] w5 from ⟨⟨_, BkS.zero hgb (by omega)⟩, HN4.out _ h05, HN5.out _ h05, hw5, rfl, Nat.le_refl _⟩)
  have HW := Lib.hid hw5
  have HGN := Lib.hid (show w2.heap.size ≠ w.heap.size + 1 by omega)
  have HGL := Lib.hid (show w.heap.size ≤ w2.heap.size by omega)
  simp only [World.size_alloc, hz4] at *
  clear b34 b45 hz4 hz5 hga hgb hyb hxb h05 hw5 hsz2 hsz0 hseq HIN HR1 HL1 HW4 HW5 HB1 HB2 HB3 HN4 HN5 HM1 HMC HRS HRI
  refine range_kinds (gf := 56) (lb := #[.pointer (some ⟨w2.heap.size + 3, 0, none⟩), .pointer (some ⟨w2.heap.size + 2, 0, none⟩)]) (w := w5) rfl (enters_of Try.func56 (by kernel_rfl) rfl) HSQ.out (fun _ _ h => .inl h.cells) (Below.refl _ _) (fun _ => rfl)
    (fun pre W => PatI w w2.heap.size w5.heap.size pre W) (fun c _ W => PatX w (sideP a (Y.map ChV.c)) c W) ?bi ?bx ?h0
    (fun pre z a' W => PatI w w2.heap.size w5.heap.size pre W ∧ TlPCh (sideP a (Y.map ChV.c)) pre z W ∧ ∃ b1 b2, W.heap[b1]? = some (.cells (rowArr z.1) 54 (0, 0)) ∧ W.heap[b2]? = some (.cells (chArr z.2) 62 (0, 0)) ∧ w5.heap.size ≤ b1 ∧ w5.heap.size ≤ b2 ∧ a' = ⟨#[.agg CA, .slice ya ny yc, .pointer (some ⟨w.heap.size, 0, none⟩), undef, .pointer (some ⟨w.heap.size + 1, 0, none⟩), .pointer (some ⟨w.heap.size + 2, 0, none⟩), .pointer (some ⟨w2.heap.size, 0, none⟩), .pointer (some ⟨b1, 0, none⟩), .pointer (some ⟨b2, 0, none⟩), .agg CA, .bool true, .bool false, undef, .slice ya ny yc, .bool true, .bool false, undef, .agg CA, .func (.func 42) #[] #[.pointer (some ⟨w2.heap.size + 1, 0, none⟩)], .slice ya ny yc, .func (.func 56) #[] #[.pointer (some ⟨w2.heap.size + 3, 0, none⟩), .pointer (some ⟨w2.heap.size + 2, 0, none⟩)], .agg (rowArr z.1), .agg (chArr z.2), undef, undef, undef, undef, undef, undef, undef, undef, undef, undef, undef, undef, undef, undef, undef, undef, undef, undef, undef, undef, undef, undef, undef, undef, undef, undef, undef, undef, undef, undef], []⟩) ?bax ?assign ?body ?done ?stop
  case assign =>
    rintro lo pre z W K2 hI htl hK
    dsimp only [encCh2]
    obtain ⟨⟨⟨xl, xa, xb', xv⟩, A, C⟩, hx⟩ : ∃ x, z.1.getD zeroRV = x := ⟨_, rfl⟩
    obtain ⟨⟨⟨yl, yaa, yb', yv, yn⟩, B, D, E, G⟩, hy⟩ : ∃ x, z.2.getD zeroCV = x := ⟨_, rfl⟩
    rw [rowArr_form, chArr_form, hx, hy]
    dsimp only [RowV.cells, ChV.cells]
    gi_wp2
    have hbl : Below W.heap.size W ((W.alloc (.cells #[.int .i64 xl, .int .i64 xa, .int .i64 xb', .slice A xv.length C] 54)).alloc (.cells #[.int .i64 yl, .int .i64 yaa, .int .i64 yb', .slice B yv.length D, .slice E yn.length G] 62)) := ((Below.refl _ W).alloc (Nat.le_refl _) _).alloc (by simp) _
    have hlw := hI.sz
    refine hK _ _ (TurnsK.below hbl) ⟨hI.turn (S := fun _ _ => False) (NoT.false _) (fun _ _ h => h.elim) (TurnsK.below hbl), ⟨htl.1, fun x h => (htl.2.1 x h).turn (NoT.false _) (TurnsK.below hbl), fun x h => (htl.2.2 x h).turn (NoT.false _) (TurnsK.below hbl)⟩, W.heap.size, W.heap.size + 1, ?_, ?_, hlw, by omega, ?_⟩
    · rw [rowArr_form, hx]; exact two_new.1
    · rw [chArr_form, hy]; exact two_new.2
    · rw [rowArr_form, chArr_form, hx, hy]; rfl
  case bi =>
    rintro pre A B hI ht
    exact hI.turn (kinds_no (by decide)) (fun k o h => by have := h.1; have := HW.out.size; omega) ht
  case bx =>
    rintro c pre A B hI ht
    exact hI.turn (kinds_no (by decide)) (fun k o h => by have := h.1; have := HW.out.size; omega) ht
  case h0 => exact HI0.out
  case bax =>
    rintro pre z a' s A B ⟨hI, ⟨t1, t2, t3⟩, b1, b2, e1, e2, e3, e4, e5⟩ ht
    have hn : ∀ ts, NoT ts (fun k o => w5.heap.size ≤ k ∧ o.isCells = false) := fun ts => not_cells (fun k o h => h.2)
    exact ⟨hI.turn (hn _) (fun k o h => by have := h.1; have := HW.out.size; omega) ht, ⟨t1, fun x h => (t2 x h).turn (hn _) ht, fun x h => (t3 x h).turn (hn _) ht⟩, b1, b2, (hn _).at ht e1 (List.mem_singleton.2 rfl), (hn _).at ht e2 (List.mem_singleton.2 rfl), e3, e4, e5⟩
  case body =>
    rintro lo pre z a' W ⟨hI, ⟨t1, t2, t3⟩, b1, b2, e1, e2, e3, e4, rfl⟩
    obtain ⟨p1, p2, p3, p4⟩ := beside_pre keyT keyC t1
    obtain ⟨z1, z2⟩ := z
    have HI := Lib.hid hI
    have HT1 := Lib.hid t1
    obtain ⟨vb, hbs⟩ := hI.bk
    have HBS := Lib.hid hbs
    have hlen := layAll_len (pre.map plainCh)
    rw [List.length_map] at hlen
    rw [List.length_map, HNY.out] at p1
    have HLN := Lib.hid (show (layAll (pre.map plainCh)).hs.length ≤ 20000 ∧ (layAll (pre.map plainCh)).ss.length ≤ 20000 ∧ (layAll (pre.map plainCh)).os.length ≤ 20000 ∧ (layAll (pre.map plainCh)).rs.length ≤ 20000 by
      have h1 := HKA.out.2
      have h2 := HLE.out
      omega)
    have HLO2 := Lib.hid hI.lo.size
    have hx0 := okD t2
    have hy0 := okC t3
    have hok1 : ∀ x, z1 = some x → RowOk x.r := fun x h => rows_ok HMA.out x.r (p2 x.r (by subst h; rfl))
    have hok2 : ∀ y, z2 = some y → 1 ≤ y.c.l ∧ y.c.l ≤ 5 ∧ (y.c.now ≠ [] → y.c.now.length = allT y.c.l) := fun y h => HON.out y.c (p3 y.c (by subst h; rfl))
    have hwas : wasOf (z1.map RowV.r) = (z1.getD zeroRV).r.v := by cases z1 <;> rfl
    obtain ⟨m1, hm1⟩ : ∃ x, x = z1.getD zeroRV := ⟨_, rfl⟩
    obtain ⟨m2, hm2⟩ : ∃ x, x = z2.getD zeroCV := ⟨_, rfl⟩
    dsimp only at e1 e2 hx0 hy0
    rw [rowArr_form, ← hm1] at e1
    rw [chArr_form, ← hm2] at e2
    rw [← hm1] at hx0 hwas
    rw [← hm2] at hy0
    rw [rowArr_form, chArr_form, ← hm1, ← hm2]
    have hl1 : m1.r.v.length ≤ 100000 := by
      rw [hm1]
      cases z1 with
      | some x => have := (hok1 x rfl).v; show x.r.v.length ≤ _; rw [this]; unfold allT; split <;> (try split) <;> omega
      | none => show 0 ≤ _; omega
    clear hI t1 t2 t3 p1 p2 p3 hbs hlen
    cases z2 with
    | none =>
      cases z1 with
      | none => exact absurd ⟨rfl, rfl⟩ p4
      | some x =>
        obtain rfl : m1 = x := hm1
        obtain rfl : m2 = zeroCV := hm2
        have hro := hok1 m1 rfl
        have HLA := Lib.hid (show layOf (plainCh (some m1, none)) = [m1.r] from rfl)
        obtain ⟨⟨xl, xa, xb', xv⟩, A, C⟩ := m1
        have HLAY := Lib.hid (lay29 w.heap.size w2.heap.size vb (layAll (pre.map plainCh)) ⟨xl, xa, xb', xv⟩ A C W HBS.out HLO2.out hx0 hro.l1 hro.l5 hro.v HLN.out)
        have k0 : W.cell? ⟨b2, 0, none⟩ = some (.int .i64 0) := by rw [cell_of_row _ _ _ _ _ _ e2]; rfl
        have HLD := Lib.hid (load_rowD (W := W) (g := b1) (o := 0) (u0 := .int .i64 xl) (u1 := .int .i64 xa) (u2 := .int .i64 xb') (u3 := .slice A xv.length C) (by rw [cell_of_row _ _ _ _ _ _ e1]; rfl) (by rw [cell_of_row _ _ _ _ _ _ e1]; rfl) (by rw [cell_of_row _ _ _ _ _ _ e1]; rfl) (by rw [cell_of_row _ _ _ _ _ _ e1]; rfl))
        clear e1 e2 hx0 hy0 hok1 hok2 hwas hl1 p4 hro
        dsimp only [RowV.cells, ChV.cells, zeroCV] at *
        gi_wp2_with (first
          | ((with_reducible refine atLoadIn (ty := 54) (x := .tmp 7) rfl ?_); refine loadEIn (wanted_noneD rfl) (fun _ _ => trivial) 54 (.tmp 7) rfl _ (.agg #[.int .i64 xl, .int .i64 xa, .int .i64 xb', .slice A xv.length C]) rfl HLD.out ?_)
          | (refine ⟨trivial, ?_⟩; gi_at_call 29; refine (callsIn_wide.2 HLAY.out).mono ?_; rintro e w8 ⟨rfl, ⟨v8, hb8⟩, hk8, hl8, hg8⟩; have HB8 := Lib.hid hb8; have HK8 := Lib.hid hk8; have HL8 := Lib.hid hl8; have HG8 := Lib.hid hg8; clear hb8 hk8 hl8 hg8))
        exact ⟨lay_turns HK8.out HL8.out HG8.out, HI.out.lay HGN.out HLA.out rfl HB8.out HK8.out HL8.out HG8.out⟩
    | some y =>
      obtain rfl : m2 = y := hm2
      have hyl := hok2 m2 rfl
      have HPK := Lib.hid (show pairOkB (plainCh (z1, some m2)) = (m1.r.v == m2.c.was) by rw [← hwas]; rfl)
      have HLA := Lib.hid (show layOf (plainCh (z1, some m2)) = if m2.c.now = [] then [] else [⟨m2.c.l, m2.c.a, m2.c.b, m2.c.now⟩] from rfl)
      generalize hz1 : z1 = z1' at *
      clear hok1 hok2 hwas hm1 hz1 p4
      have HZ := Lib.hid (show ∃ z : PCh, z = (z1', some m2) from ⟨_, rfl⟩)
      obtain ⟨zz, hzz⟩ := HZ.out
      rw [← hzz] at HPK HLA HT1 ⊢
      clear hzz HZ
      obtain ⟨⟨xl, xa, xb', xv⟩, A, C⟩ := m1
      obtain ⟨⟨yl, yaa, yb', yv, yn⟩, B, D, E, G⟩ := m2
      dsimp only [RowV.cells, ChV.cells] at *
      have HYL := Lib.hid hyl
      have g0 : (yl == 0) = false := by rw [beq_eq_false_iff_ne]; omega
      have HEQ := Lib.hid (equalI A B C D xv yv W (ValAt.i64s hx0) (ValAt.i64s hy0.1) hl1)
      have HVN := Lib.hid hy0.2
      obtain ⟨ln, hln⟩ : ∃ n, yn.length = n := ⟨_, rfl⟩
      have HNN := Lib.hid hln
      rw [hln] at e2
      have HE2 := Lib.hid (show W.heap[b2]? = some (.cells #[.int .i64 yl, .int .i64 yaa, .int .i64 yb', .slice B yv.length D, .slice E ln G] 62 (0, 0)) from e2)
      have k0 : W.cell? ⟨b2, 0, none⟩ = some (.int .i64 yl) := by rw [cell_of_row _ _ _ _ _ _ HE2.out]; rfl
      have k3 : W.cell? ⟨b1, 3, none⟩ = some (.slice A xv.length C) := by rw [cell_of_row _ _ _ _ _ _ e1]; rfl
      have j3 : W.cell? ⟨b2, 3, none⟩ = some (.slice B yv.length D) := by rw [cell_of_row _ _ _ _ _ _ HE2.out]; rfl
      rw [hln]
      clear e1 e2 hx0 hy0 hl1 hln hyl
      obtain ⟨rv, hrv⟩ : ∃ r, (xv == yv) = r := ⟨_, rfl⟩
      rw [hrv] at HEQ HPK
      clear hrv
      cases rv with
      | false =>
        gi_wp2_with (first
          | ((with_reducible refine atStoreIn (ty := 27) (x := .tmp 4) (y := .tmp 36) rfl ?_); refine storeRowIn rfl (fun _ _ => trivial) 27 (.tmp 4) (.tmp 36) rfl (w.heap.size + 1) #[.slice none 0 0, .slice none 0 0, .slice none 0 0, .slice none 0 0, .int .i64 0] rfl rfl 27 #[.slice none 0 0, .slice none 0 0, .slice none 0 0, .slice none 0 0, .int .i64 0] HT4.out info27 rfl (by simp [Value.oneCell']) ?_)
          | (refine ⟨trivial, ?_⟩; gi_at_call 20; refine (callsIn_wide.2 HEQ.out).mono ?_; rintro e w8 ⟨rfl, m, hw8⟩; have hb8 : Below W.heap.size W w8 := (by rw [hw8]; exact below_drews m); clear hw8; have HB8 := Lib.hid hb8; have HT4 := Lib.hid ((hb8.block _ (lt_of_blk HI.out.z4)).trans HI.out.z4); obtain ⟨s1, s2, s3, s4, s5⟩ := two_set (m := 7) HT4.out ((hb8.block _ (lt_of_blk HI.out.z5)).trans HI.out.z5) (show (#[.slice none 0 0, .slice none 0 0, .slice none 0 0, .slice none 0 0, .int .i64 0] : Array Value).size = 5 from rfl); have HS3 := Lib.hid s3; have HS4 := Lib.hid s4; have HS5 := Lib.hid s5; clear s3 s4 s5 hb8))
        refine ⟨(TurnsK.below HB8.out).trans (HS5.out.mono ?_), rfl, HS3.out, HS4.out, (HI.out.lo.trans (HB8.out.mono HLO2.out)).trans (two_lo (by omega) (by omega) (Nat.le_trans HLO2.out HB8.out.size) HS5.out), not_all (by have h := HT1.out; rw [List.map_append, List.map_singleton] at h; exact h) HPK.out⟩
        rintro k ob (⟨rfl, cs, rfl⟩ | ⟨rfl, cs, rfl⟩)
        · exact ⟨by omega, .inl ⟨cs, _, rfl, fun _ => .inr rfl⟩⟩
        · exact ⟨by omega, .inr (.inl ⟨rfl, cs, rfl⟩)⟩
      | true =>
        by_cases hn : yn = []
        · have hl0 : ln = 0 := by rw [← HNN.out, hn]; rfl
          have HLA := Lib.hid (HLA.out.trans (if_pos hn))
          have gn : decide ((0 : Int) < (ln : Int)) = false := by simp [hl0]
          have gn2 : ¬ 0 < ln := by omega
          clear hn hl0
          gi_wp2_with (first
            | (refine ⟨trivial, ?_⟩; gi_at_call 20; refine (callsIn_wide.2 HEQ.out).mono ?_; rintro e w8 ⟨rfl, m, hw8⟩; have hb8 : Below W.heap.size W w8 := (by rw [hw8]; exact below_drews m); clear hw8; have HB8 := Lib.hid hb8; have j4 : w8.cell? ⟨b2, 4, none⟩ = some (.slice E ln G) := (by rw [cell_of_row _ _ _ _ _ _ ((hb8.block _ (lt_of_blk HE2.out)).trans HE2.out)]; rfl); clear hb8))
          exact ⟨TurnsK.below HB8.out, HI.out.skip HLA.out HPK.out HB8.out⟩
        · have HLA := Lib.hid (HLA.out.trans (if_neg hn))
          have hl0 : 0 < ln := by rw [← HNN.out]; exact List.length_pos_iff.2 hn
          have gn : decide ((0 : Int) < (ln : Int)) = true := by simp; omega
          have HNE := Lib.hid hn
          clear hn
          gi_wp2_with (first
            | (refine ⟨trivial, ?_⟩; gi_at_call 20; refine (callsIn_wide.2 HEQ.out).mono ?_; rintro e w8 ⟨rfl, m, hw8⟩; have hb8 : Below W.heap.size W w8 := (by rw [hw8]; exact below_drews m); clear hw8; have HB8 := Lib.hid hb8; have HE8 := Lib.hid ((hb8.block _ (lt_of_blk HE2.out)).trans HE2.out); have j4 : w8.cell? ⟨b2, 4, none⟩ = some (.slice E ln G) := (by rw [cell_of_row _ _ _ _ _ _ HE8.out]; rfl); clear hb8))
          have HRN := Lib.hid (RPat.no w.heap.size w2.heap.size (w.heap.size + 1) (w.heap.size + 2))
          have HKE := Lib.hid (fun W' (h : TurnsK (RPat w.heap.size w2.heap.size (w.heap.size + 1) (w.heap.size + 2)) w8 W') => HRN.out.at h HE8.out (by simp))
          have HLAY := Lib.hid (fun w9 (h : Below W.heap.size W w9) => lay29 w.heap.size w2.heap.size vb (layAll (pre.map plainCh)) ⟨yl, yaa, yb', yn⟩ E G w9 (HBS.out.below h) (Nat.le_trans HLO2.out h.size) (HVN.out.below h) HYL.out.1 HYL.out.2.1 (HYL.out.2.2 HNE.out) HLN.out)
          rw [show ({ l := yl, a := yaa, b := yb', v := yn } : RowT).v.length = ln from HNN.out] at HLAY
          clear j4 k0 k3 j3
          refine region_round (S := fun W' => TurnsK (RPat w.heap.size w2.heap.size (w.heap.size + 1) (w.heap.size + 2)) w8 W') (by kernel_rfl) (fun hq => by obtain ⟨_, _, h⟩ := hq; exact h) (by kernel_rfl) ((TurnsK.refl _ _).drew) (fun hS => ?_)
          refine wpAnyH_take (i := 0) (v := .agg #[.int .i64 yl, .int .i64 yaa, .int .i64 yb', .slice B yv.length D, .slice E ln G]) rfl (by kernel_rfl) (by kernel_rfl) (by kernel_rfl) (fun _ _ _ h => h) (yields_atD (by rfl) 62 (.tmp 8) rfl (.pointer (some ⟨b2, 0, none⟩)) _ rfl (fun W' hW => load_chB (HKE.out W' hW))) hS ?_
          simp only [List.getElem_toArray, List.getElem_cons_zero, Act.put, List.setIfInBounds_toArray, List.set_cons_zero, List.set_cons_succ]
          refine wpAnyH_take (i := 2) (v := .pointer (some ⟨b2, 4, none⟩)) rfl (by kernel_rfl) (by kernel_rfl) (by kernel_rfl) (fun _ _ _ h => h) (Or.inl ⟨by simp [Region.wanted], fun W _ => by go_simp⟩) hS ?_
          simp only [List.getElem_toArray, List.getElem_cons_zero, List.getElem_cons_succ, Act.put, List.setIfInBounds_toArray, List.set_cons_zero, List.set_cons_succ]
          refine wpAnyH_take (i := 3) (v := .slice E ln G) rfl (by kernel_rfl) (by kernel_rfl) (by kernel_rfl) (fun _ _ _ h => h) (Or.inl ⟨by simp [Region.wanted], fun W hW => by have kc := cell_of_row _ _ 4 _ _ _ (HKE.out W hW); go_simp⟩) hS ?_
          simp only [List.getElem_toArray, List.getElem_cons_zero, List.getElem_cons_succ, Act.put, List.setIfInBounds_toArray, List.set_cons_zero, List.set_cons_succ]
          refine wpAnyH_ready (rs := [1]) (by kernel_rfl) (by simp) ?_
          refine AllReadyH.cons rfl (fun K1 hK1 => ?_) AllReadyH.nil
          refine wanted_go rfl ?_
          simp only [List.getElem_toArray, List.getElem_cons_zero, List.getElem_cons_succ]
          go_wp2_with (go_at_call 30; refine (atCh _ _ _ _ _ _ _ _ _ _).mono ?_; rintro e w9 ⟨rfl, hb9⟩; have HB9 := Lib.hid hb9; clear hb9)
          refine hK1.out _ _ ((hS).trans (TurnsK.below HB9.out)) (fun hS1 => ?_)
          refine wpAnyH_take (i := 4) (v := .agg #[.int .i64 yl, .int .i64 yaa, .int .i64 yb', .slice E ln G]) rfl (by kernel_rfl) (by kernel_rfl) (by kernel_rfl) (fun _ _ _ h => h) (Or.inl ⟨by simp [Region.wanted], fun W _ => by go_simp⟩) hS1 ?_
          simp only [List.getElem_toArray, List.getElem_cons_zero, List.getElem_cons_succ, Act.put, List.setIfInBounds_toArray, List.set_cons_zero, List.set_cons_succ]
          have h89 : Below w8.heap.size w8 w9 := ((Below.refl _ w8).drew).trans HB9.out
          have H9 := Lib.hid (HB8.out.trans (h89.mono HB8.out.size))
          clear h89
          refine wpAnyH_ready (rs := [5]) (by kernel_rfl) (by simp) ?_
          refine AllReadyH.cons rfl (fun K2 hK2 => ?_) AllReadyH.nil
          refine wanted_go rfl ?_
          simp only [List.getElem_toArray, List.getElem_cons_zero, List.getElem_cons_succ]
          go_wp2_with (go_at_call 29; refine (HLAY.out _ H9.out).mono ?_; rintro e w10 ⟨rfl, ⟨v10, hb10⟩, hk8, hl8, hg8⟩; have HB10 := Lib.hid hb10; have HK8 := Lib.hid hk8; have HL8 := Lib.hid hl8; have HG8 := Lib.hid hg8; clear hb10 hk8 hl8 hg8)
          refine hK2.out _ _ ((hS1).trans (lay_turns HK8.out HL8.out HG8.out)) (fun hS2 => ?_)
          refine wpAnyH_done (by kernel_rfl) ?_ _
          gi_wp2
          exact ⟨(TurnsK.below H9.out).trans (lay_turns HK8.out HL8.out HG8.out), HI.out.lay HGN.out HLA.out HPK.out HB10.out ((KeepT.below H9.out).trans HK8.out) ((H9.out.mono HLO2.out).trans HL8.out) ((KeepG.below H9.out).trans HG8.out)⟩
  case done =>
    rintro E zs W hE hf hI hK
    have hok := hI.ok
    obtain ⟨vb, hbs⟩ := hI.bk
    rw [show zs.map plainCh = sideP a (Y.map ChV.c) from hf] at hok hbs
    have kb := HBK.out hok
    have HRR := Lib.hid (HP.out.trans (if_neg (by rw [hok]; decide)))
    obtain ⟨bb, hbb⟩ : ∃ x, layAll (sideP a (Y.map ChV.c)) = x := ⟨_, rfl⟩
    rw [hbb] at hbs kb HRR
    have HMY := Lib.hid (pmay9 vb bb W (hbs.isIn kb) kb)
    have HLB := Lib.hid (fun W' (h : Below W.heap.size W W') => load_book ((h.block _ (lt_of_blk hbs.box)).trans hbs.box : BoxB W' w2.heap.size vb bb))
    have HBS := Lib.hid hbs
    have HKB := Lib.hid kb
    have HZ4 := Lib.hid hI.z4
    have HZ5 := Lib.hid hI.z5
    have HLW := Lib.hid hI.lo
    have HK0 := Lib.hid hK
    have HEE := Lib.hid (Nat.le_trans HW.out.size hE)
    obtain ⟨CB, hCB⟩ : ∃ x, cellsB vb bb = x := ⟨_, rfl⟩
    have hcs : CB.size = 5 := by rw [← hCB]; rfl
    have hone : CB.all (·.oneCell') = true := by rw [← hCB]; simp [cellsB, Value.oneCell']
    rw [hCB] at HMY HLB
    have HCB := Lib.hid hCB
    clear hok hbs kb hbb hI hK hf hE hCB HBK HP HI0 HSQ
    have HNT := Lib.hid (show ∀ ts, 27 ∉ ts → 31 ∉ ts → NoT ts (fun k o => (k = w.heap.size + 1 ∧ ∃ cs, o = .cells cs 27 (0, 0)) ∨ (k = w.heap.size + 2 ∧ ∃ cs, o = .cells cs 31 (0, 0))) from fun ts h1 h2 k cs t fz h => by
      rcases h with ⟨_, cs', h⟩ | ⟨_, cs', h⟩
      · cases h; exact h1
      · cases h; exact h2)
    cases hmt : mayT bb with
    | false =>
      rw [hmt] at HMY
      have HRV := Lib.hid (HRR.out.trans (if_neg (by rw [hmt]; decide)))
      clear hmt hcs hone
      gi_wp2_with (first
        | ((with_reducible refine atLoadIn (ty := 27) (x := .tmp 6) rfl ?_); refine loadEIn (wanted_noneD rfl) (fun _ _ => trivial) 27 (.tmp 6) rfl _ (.agg CB) rfl (HLB.out _ (by first | exact HB9.out | exact Below.refl _ _)) ?_)
        | ((with_reducible refine atStoreIn (ty := 27) (x := .tmp 4) (y := .tmp 51) rfl ?_); refine storeRowIn rfl (fun _ _ => trivial) 27 (.tmp 4) (.tmp 51) rfl (w.heap.size + 1) #[.slice none 0 0, .slice none 0 0, .slice none 0 0, .slice none 0 0, .int .i64 0] rfl rfl 27 #[.slice none 0 0, .slice none 0 0, .slice none 0 0, .slice none 0 0, .int .i64 0] HT4.out info27 rfl (by simp [Value.oneCell']) ?_)
        | (refine ⟨trivial, ?_⟩; gi_at_call 16; refine (callsIn_wide.2 HMY.out).mono ?_; rintro e w9 ⟨rfl, hb9⟩; have HB9 := Lib.hid hb9; have HT4 := Lib.hid ((hb9.block _ (lt_of_blk HZ4.out)).trans HZ4.out); obtain ⟨s1, s2, s3, s4, s5⟩ := two_set (m := 1) (ds := #[.slice none 0 0, .slice none 0 0, .slice none 0 0, .slice none 0 0, .int .i64 0]) HT4.out ((hb9.block _ (lt_of_blk HZ5.out)).trans HZ5.out) (show (#[.slice none 0 0, .slice none 0 0, .slice none 0 0, .slice none 0 0, .int .i64 0] : Array Value).size = 5 from rfl); have HE3 := Lib.hid s3; have HE4 := Lib.hid s4; have HE5 := Lib.hid s5; have HKD := Lib.hid (s5.block _ _ ((hb9.block _ (lt_of_blk HK0.out)).trans HK0.out) (fun h => by rcases h with ⟨_, _, h⟩ | ⟨_, _, h⟩ <;> cases h)); clear s3 s4 s5 hb9))
      refine ⟨by simp, .inl ⟨_, _, rfl, run_takeDeferred HKD.out, ?_⟩⟩
      refine ⟨_, results_cells2 rfl rfl rfl (load_bk ((World.putObj_heap_other (by rintro rfl; have h := HKD.out; rw [HE3.out] at h; cases h)).trans HE3.out) rfl) (load_err ((World.putObj_heap_other (by rintro rfl; have h := HKD.out; rw [HE4.out] at h; cases h)).trans HE4.out)), ?_⟩
      rw [HRV.out]
      exact pat_zero (lo_put ((HLW.out.trans (HB9.out.mono HLW.out.size)).trans (two_lo (by omega) (by omega) (Nat.le_trans HLW.out.size HB9.out.size) HE5.out)) HEE.out HKD.out)
    | true =>
      rw [hmt] at HMY
      have HRV := Lib.hid (HRR.out.trans (if_pos hmt))
      clear hmt
      gi_wp2_with (first
        | ((with_reducible refine atLoadIn (ty := 27) (x := .tmp 6) rfl ?_); refine loadEIn (wanted_noneD rfl) (fun _ _ => trivial) 27 (.tmp 6) rfl _ (.agg CB) rfl (HLB.out _ (by first | exact HB9.out | exact Below.refl _ _)) ?_)
        | ((with_reducible refine atStoreIn (ty := 27) (x := .tmp 4) (y := .tmp 52) rfl ?_); refine storeRowIn rfl (fun _ _ => trivial) 27 (.tmp 4) (.tmp 52) rfl (w.heap.size + 1) CB rfl rfl 27 #[.slice none 0 0, .slice none 0 0, .slice none 0 0, .slice none 0 0, .int .i64 0] HT4.out (by rw [hcs]; exact info27) (by rw [hcs]; rfl) hone ?_)
        | (refine ⟨trivial, ?_⟩; gi_at_call 16; refine (callsIn_wide.2 HMY.out).mono ?_; rintro e w9 ⟨rfl, hb9⟩; have HB9 := Lib.hid hb9; have HT4 := Lib.hid ((hb9.block _ (lt_of_blk HZ4.out)).trans HZ4.out); obtain ⟨s1, s2, s3, s4, s5⟩ := two_set (m := 0) (ds := CB) HT4.out ((hb9.block _ (lt_of_blk HZ5.out)).trans HZ5.out) hcs; have HE3 := Lib.hid s3; have HE4 := Lib.hid s4; have HE5 := Lib.hid s5; have HKD := Lib.hid (s5.block _ _ ((hb9.block _ (lt_of_blk HK0.out)).trans HK0.out) (fun h => by rcases h with ⟨_, _, h⟩ | ⟨_, _, h⟩ <;> cases h)); clear s3 s4 s5 hb9))
      refine ⟨by simp, .inl ⟨_, _, rfl, run_takeDeferred HKD.out, ?_⟩⟩
      refine ⟨_, results_cells2 rfl rfl rfl (load_bk ((World.putObj_heap_other (by rintro rfl; have h := HKD.out; rw [HE3.out] at h; cases h)).trans HE3.out) hcs) (load_err ((World.putObj_heap_other (by rintro rfl; have h := HKD.out; rw [HE4.out] at h; cases h)).trans HE4.out)), ?_⟩
      rw [HRV.out]
      refine ⟨⟨vb, by rw [HCB.out], book_in_turn (HBS.out.below HB9.out) (S := fun k o => ((k = w.heap.size + 1 ∧ ∃ cs, o = .cells cs 27 (0, 0)) ∨ (k = w.heap.size + 2 ∧ ∃ cs, o = .cells cs 31 (0, 0))) ∨ (k = E ∧ o.isCells = false)) ?_ ((HE5.out.mono (fun _ _ => .inl)).putObj HKD.out (.inr ⟨rfl, rfl⟩) _) HKB.out, HBS.out.from'⟩, ?_⟩
      · rintro k cs t fz (h | ⟨_, h⟩)
        · exact HNT.out _ (by decide) (by decide) k cs t fz h
        · cases h
      · exact lo_put ((HLW.out.trans (HB9.out.mono HLW.out.size)).trans (two_lo (by omega) (by omega) (Nat.le_trans HLW.out.size HB9.out.size) HE5.out)) HEE.out HKD.out
  case stop =>
    rintro E c pre W hE hX hK
    obtain ⟨rfl, h4, h5, hlo, hno⟩ := hX
    have HE3 := Lib.hid h4
    have HE4 := Lib.hid h5
    have HKD := Lib.hid hK
    have HLW := Lib.hid hlo
    have HEE := Lib.hid (Nat.le_trans HW.out.size hE)
    have HRV := Lib.hid (HP.out.trans (if_pos hno))
    clear h4 h5 hlo hno hK
    gi_wp2
    refine ⟨by simp, .inl ⟨_, _, rfl, run_takeDeferred HKD.out, ?_⟩⟩
    refine ⟨_, results_cells2 rfl rfl rfl (load_bk ((World.putObj_heap_other (by rintro rfl; have h := HKD.out; rw [HE3.out] at h; cases h)).trans HE3.out) rfl) (load_err ((World.putObj_heap_other (by rintro rfl; have h := HKD.out; rw [HE4.out] at h; cases h)).trans HE4.out)), ?_⟩
    rw [HRV.out]
    exact pat_zero (lo_put HLW.out HEE.out HKD.out)
end Go.Proofs.Ytellifcjamedkaa
