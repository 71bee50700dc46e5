/- The walk of BookApart: what it leans on. -/
import Derived.Test.YtofmkbijhmbbcaaBkSets
import Derived.Test.YtofmkbijhmbbcaaBkQ8
namespace Go.Proofs.Ytofmkbijhmbbcaa
open Go.RowKit Base Base2

theorem rows_not_box {k : Nat} {W : World} {blk off : Nat} {l : List Item} {g : Nat} {u : Slots} {c : BookT} (hc : ∀ (i : Nat) (x : Item), l[i]? = some x → ∀ (j : Nat) (z : Int), x[j]? = some z → W.cell? ⟨blk, off + i * k + j, none⟩ = some (.int .i64 z)) (hk2 : 2 ≤ k) (hl : ∀ x ∈ l, x.length = k) (hne : l ≠ [])
    (hg : BoxB W g u c) : blk ≠ g := by
  rintro rfl
  cases l with
  | nil => exact hne rfl
  | cons x l =>
    have hx := hl x (List.mem_cons_self ..)
    obtain ⟨z0, h0⟩ : ∃ z, x[0]? = some z := ⟨x[0]'(by omega), by simp⟩
    obtain ⟨z1, h1⟩ : ∃ z, x[1]? = some z := ⟨x[1]'(by omega), by simp⟩
    have c0 := hc 0 x rfl 0 z0 h0
    have c1 := hc 0 x rfl 1 z1 h1
    rw [Nat.zero_mul, Nat.add_zero] at c0 c1
    rw [hg.c] at c0 c1
    unfold cellsB at c0 c1
    match off, c0, c1 with
    | 0, c0, _ => simp at c0
    | 1, c0, _ => simp at c0
    | 2, c0, _ => simp at c0
    | 3, c0, _ => simp at c0
    | 4, _, c1 => simp at c1
    | o + 5, c0, _ => simp at c0
theorem new_off {k base : Nat} {W W' : World} {a : Option Addr} {l : List Item} (hn : RowNew base W a l) (h : RowsOf k W a l) (hk2 : 2 ≤ k) (hl : ∀ x ∈ l, x.length = k)
    (hs : ∀ i : Nat, W'.heap[i]? = W.heap[i]? ∨ ∃ u c, BoxB W i u c) : RowNew base W' a l := by
  rcases h with h | ⟨b, off, rfl, hb, hc⟩
  · exact .inl h
  · rcases hn with hn | ⟨b', off', hab, h1, h2⟩
    · exact .inl hn
    · obtain ⟨rfl, rfl⟩ : b = b' ∧ off = off' := by simpa using hab
      by_cases hne : l = []
      · exact .inl hne
      rcases hs b with hs | ⟨u, c, hs⟩
      · exact .inr ⟨b, off, rfl, h1, fun i => (World.frozen?_of_block (a := ⟨b, i, none⟩) hs).trans (h2 i)⟩
      · exact absurd rfl (rows_not_box hc hk2 hl hne hs)
theorem rows_off2 {k : Nat} {W W' : World} {a : Option Addr} {l : List Item} (h : RowsOf k W a l) (hk2 : 2 ≤ k) (hl : ∀ x ∈ l, x.length = k) (hsz : W.heap.size ≤ W'.heap.size)
    (hs : ∀ i : Nat, W'.heap[i]? = W.heap[i]? ∨ ∃ u c, BoxB W i u c) : RowsOf k W' a l := by
  rcases h with h | ⟨b, off, rfl, hb, hc⟩
  · exact .inl h
  · by_cases hne : l = []
    · exact .inl hne
    rcases hs b with hs | ⟨u, c, hs⟩
    · exact .inr ⟨b, off, rfl, Nat.lt_of_lt_of_le hb hsz, fun i y hi j z hz => (World.cell?_of_block (a := ⟨b, off + i * k + j, none⟩) hs).trans (hc i y hi j z hz)⟩
    · exact absurd rfl (rows_not_box hc hk2 hl hne hs)
theorem book_off2 {m : Nat} {W W' : World} {v : Slots} {b : BookT} (h : BookIn W v b) (hk : BookOk m b) (hsz : W.heap.size ≤ W'.heap.size) (hs : ∀ i : Nat, W'.heap[i]? = W.heap[i]? ∨ ∃ u c, BoxB W i u c) : BookIn W' v b :=
  ⟨rows_off2 h.hs (by decide) (fun x hx => (hk.hs.2 x hx).1) hsz hs, rows_off2 h.ss (by decide) (fun x hx => (hk.ss.2 x hx).1) hsz hs, rows_off2 h.os (by decide) (fun x hx => (hk.os.2 x hx).1) hsz hs, rows_off2 h.rs (by decide) (fun x hx => (hk.rs.2 x hx).1) hsz hs⟩
theorem booknew_off {m base : Nat} {W W' : World} {v : Slots} {b : BookT} (hn : BookNew base W v b) (h : BookIn W v b) (hk : BookOk m b) (hs : ∀ i : Nat, W'.heap[i]? = W.heap[i]? ∨ ∃ u c, BoxB W i u c) : BookNew base W' v b :=
  ⟨new_off hn.hs h.hs (by decide) (fun x hx => (hk.hs.2 x hx).1) hs, new_off hn.ss h.ss (by decide) (fun x hx => (hk.ss.2 x hx).1) hs, new_off hn.os h.os (by decide) (fun x hx => (hk.os.2 x hx).1) hs, new_off hn.rs h.rs (by decide) (fun x hx => (hk.rs.2 x hx).1) hs⟩
/-- A row that lies below a block. -/
def RowLt (B : Nat) (a : Option Addr) (l : List Item) : Prop := l = [] ∨ ∃ b off, a = some ⟨b, off, none⟩ ∧ b < B
structure BookLt (B : Nat) (v : Slots) (b : BookT) : Prop where
  hs : RowLt B v.h b.hs
  ss : RowLt B v.s b.ss
  os : RowLt B v.o b.os
  rs : RowLt B v.r b.rs
theorem row_lt {k : Nat} {W : World} {a : Option Addr} {l : List Item} (h : RowsOf k W a l) : RowLt W.heap.size a l := by
  rcases h with h | ⟨b, off, rfl, hb, _⟩
  · exact .inl h
  · exact .inr ⟨b, off, rfl, hb⟩
theorem book_lt {W : World} {v : Slots} {b : BookT} (h : BookIn W v b) : BookLt W.heap.size v b := ⟨row_lt h.hs, row_lt h.ss, row_lt h.os, row_lt h.rs⟩
/-- A row into which numbers are written. -/
def RowAny (Kept : Nat → Prop) (k : Nat) (W : World) (a : Option Addr) (n : Nat) : Prop := n = 0 ∨ ∃ blk off, a = some ⟨blk, off, none⟩ ∧ ¬ Kept blk ∧ (∀ i, W.frozen? ⟨blk, i, none⟩ = false) ∧ ∀ i j, i < n → j < k → ∃ z, W.cell? ⟨blk, off + i * k + j, none⟩ = some (.int .i64 z)
theorem cell_set_int {W : World} {p q : Addr} {y z : Int} (h : W.cell? q = some (.int .i64 y)) : ∃ x, (W.setCell p (.int .i64 z)).cell? q = some (.int .i64 x) := by
  by_cases e : p = q
  · subst e
    exact ⟨z, World.cell?_setCell_same _ _ _ h⟩
  · exact ⟨y, by rw [World.cell?_setCell_other _ _ _ _ e]; exact h⟩
theorem RowAny.set {Kept : Nat → Prop} {k : Nat} {W : World} {a : Option Addr} {n : Nat} (h : RowAny Kept k W a n) (p : Addr) (z : Int) : RowAny Kept k (W.setCell p (.int .i64 z)) a n := by
  rcases h with h | ⟨blk, off, rfl, h1, h2, h3⟩
  · exact .inl h
  · exact .inr ⟨blk, off, rfl, h1, fun i => (World.frozen?_setCell _ _ _ _).trans (h2 i), fun i j hi hj => by
      obtain ⟨y, hy⟩ := h3 i j hi hj
      exact cell_set_int hy⟩
def RowBlk (a : Option Addr) (l : List Item) (i : Nat) : Prop := l ≠ [] ∧ ∃ off, a = some ⟨i, off, none⟩
/-- What must not be written. -/
def Kept7 (m g0 g1 g2 : Nat) (v0 : Slots) (b : BookT) (i : Nat) : Prop := i < m ∨ i = g0 ∨ i = g1 ∨ i = g2 ∨ RowBlk v0.h b.hs i ∨ RowBlk v0.s b.ss i ∨ RowBlk v0.o b.os i ∨ RowBlk v0.r b.rs i
theorem lt_not_blk {B i : Nat} {a : Option Addr} {l : List Item} (h : RowLt B a l) (hi : B ≤ i) : ¬ RowBlk a l i := by
  rintro ⟨hne, off, rfl⟩
  rcases h with h | ⟨b, off', hab, hb⟩
  · exact hne h
  · have hab' : i = b := by have h2 := congrArg (fun x : Option Addr => x.map (·.block)) hab; simpa using h2
    omega
theorem any_of {k base m g0 g1 g2 : Nat} {v0 u0 u1 u2 : Slots} {b c0 c1 c2 : BookT} {W : World} {a : Option Addr} {l : List Item} (h : RowsOf k W a l) (hn : RowNew base W a l) (hk2 : 2 ≤ k) (hl : ∀ x ∈ l, x.length = k) (hm : m ≤ base) (hlt : BookLt base v0 b) (x0 : BoxB W g0 u0 c0) (x1 : BoxB W g1 u1 c1) (x2 : BoxB W g2 u2 c2) :
    RowAny (Kept7 m g0 g1 g2 v0 b) k W a l.length := by
  by_cases hne : l = []
  · exact .inl (by rw [hne]; rfl)
  rcases h with h | ⟨blk, off, rfl, hb, hc⟩
  · exact absurd h hne
  · rcases hn with hn | ⟨b', off', hab, h1, h2⟩
    · exact absurd hn hne
    · obtain ⟨rfl, rfl⟩ : blk = b' ∧ off = off' := by simpa using hab
      refine .inr ⟨blk, off, rfl, ?_, h2, fun i j hi hj => ?_⟩
      · rintro (h | h | h | h | h | h | h | h)
        · omega
        · exact rows_not_box hc hk2 hl hne x0 h
        · exact rows_not_box hc hk2 hl hne x1 h
        · exact rows_not_box hc hk2 hl hne x2 h
        · exact lt_not_blk hlt.hs h1 h
        · exact lt_not_blk hlt.ss h1 h
        · exact lt_not_blk hlt.os h1 h
        · exact lt_not_blk hlt.rs h1 h
      · obtain ⟨x, hx⟩ := get_some hi
        obtain ⟨z, hz⟩ : ∃ z, x[j]? = some z := ⟨x[j]'(by rw [hl x (List.mem_of_getElem? hx)]; exact hj), by simp⟩
        exact ⟨z, hc i x hx j z hz⟩
/-- While numbers are written. -/
structure Fin7 (m g0 g1 g2 : Nat) (v0 v1 v3 : Slots) (b b3 : BookT) (W5 W7 W : World) : Prop where
  lo : Below m W5 W
  sz : W.heap.size = W7.heap.size
  keep : ∀ i, Kept7 m g0 g1 g2 v0 b i → W.heap[i]? = W7.heap[i]?
  r1 : RowAny (Kept7 m g0 g1 g2 v0 b) 4 W v1.h b.hs.length
  r2 : RowAny (Kept7 m g0 g1 g2 v0 b) 3 W v1.s b.ss.length
  r3 : RowAny (Kept7 m g0 g1 g2 v0 b) 6 W v3.o b3.os.length
  r4 : RowAny (Kept7 m g0 g1 g2 v0 b) 2 W v3.r b3.rs.length
  r5 : RowAny (Kept7 m g0 g1 g2 v0 b) 4 W v3.h b3.hs.length
  r6 : RowAny (Kept7 m g0 g1 g2 v0 b) 3 W v3.s b3.ss.length
theorem Fin7.set {m g0 g1 g2 : Nat} {v0 v1 v3 : Slots} {b b3 : BookT} {W5 W7 W : World} (h : Fin7 m g0 g1 g2 v0 v1 v3 b b3 W5 W7 W) {blk : Nat} (hb : ¬ Kept7 m g0 g1 g2 v0 b blk) (x : Nat) (z : Int) : Fin7 m g0 g1 g2 v0 v1 v3 b b3 W5 W7 (W.setCell ⟨blk, x, none⟩ (.int .i64 z)) :=
  ⟨h.lo.setCell (p := ⟨blk, x, none⟩) (Nat.le_of_not_lt (fun e => hb (.inl e))) _, by simpa using h.sz,
    fun i hi => (Below.heap_setCell W ⟨blk, x, none⟩ (.int .i64 z) i (fun e => hb (by dsimp only at e; rw [← e]; exact hi))).trans (h.keep i hi),
    h.r1.set _ _, h.r2.set _ _, h.r3.set _ _, h.r4.set _ _, h.r5.set _ _, h.r6.set _ _⟩
theorem rows_kept {k : Nat} {W W' : World} {a : Option Addr} {l : List Item} (h : RowsOf k W a l) (hsz : W'.heap.size = W.heap.size) (hs : ∀ i, RowBlk a l i → W'.heap[i]? = W.heap[i]?) : RowsOf k W' a l := by
  by_cases hne : l = []
  · exact .inl hne
  rcases h with h | ⟨b, off, rfl, hb, hc⟩
  · exact .inl h
  · exact .inr ⟨b, off, rfl, by omega, fun i x hi j z hz => (World.cell?_of_block (a := ⟨b, off + i * k + j, none⟩) (hs b ⟨hne, off, rfl⟩)).trans (hc i x hi j z hz)⟩
/-- What is kept to the end. -/
theorem Fin7.was {m g0 g1 g2 : Nat} {v0 v1 v3 : Slots} {b b3 : BookT} {W5 W7 W : World} (h : Fin7 m g0 g1 g2 v0 v1 v3 b b3 W5 W7 W) (hi : BookIn W7 v0 b) : BookIn W v0 b :=
  ⟨rows_kept hi.hs h.sz (fun i e => h.keep i (by simp [Kept7, e])), rows_kept hi.ss h.sz (fun i e => h.keep i (by simp [Kept7, e])), rows_kept hi.os h.sz (fun i e => h.keep i (by simp [Kept7, e])), rows_kept hi.rs h.sz (fun i e => h.keep i (by simp [Kept7, e]))⟩
theorem Fin7.box0 {m g0 g1 g2 : Nat} {v0 v1 v3 u : Slots} {b b3 c : BookT} {W5 W7 W : World} (h : Fin7 m g0 g1 g2 v0 v1 v3 b b3 W5 W7 W) (x : BoxB W7 g0 u c) : BoxB W g0 u c := (h.keep g0 (.inr (.inl rfl))).trans x
theorem Fin7.box1 {m g0 g1 g2 : Nat} {v0 v1 v3 u : Slots} {b b3 c : BookT} {W5 W7 W : World} (h : Fin7 m g0 g1 g2 v0 v1 v3 b b3 W5 W7 W) (x : BoxB W7 g1 u c) : BoxB W g1 u c := (h.keep g1 (.inr (.inr (.inl rfl)))).trans x
theorem Fin7.box2 {m g0 g1 g2 : Nat} {v0 v1 v3 u : Slots} {b b3 c : BookT} {W5 W7 W : World} (h : Fin7 m g0 g1 g2 v0 v1 v3 b b3 W5 W7 W) (x : BoxB W7 g2 u c) : BoxB W g2 u c := (h.keep g2 (.inr (.inr (.inr (.inl rfl))))).trans x
end Go.Proofs.Ytofmkbijhmbbcaa
