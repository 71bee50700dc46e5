/- The walk of BookSets. -/
import Derived.Test.YtofmkbijhmbbcaaBkSetsA
namespace Go.Proofs.Ytofmkbijhmbbcaa
open Go.RowKit Base Base2

/-- The law's five boxes. -/
structure B5 (K : World → Prop) (w : World) (v : Slots) (b : BookT) (hc sc oc rc : Array Value) (W : World) : Prop where
  bs : Bs K w w.heap.size v b W
  h1 : W.heap[w.heap.size + 1]? = some (.cells hc 33 (0, 0))
  h2 : W.heap[w.heap.size + 1 + 1]? = some (.cells sc 45 (0, 0))
  h3 : W.heap[w.heap.size + 1 + 1 + 1]? = some (.cells oc 37 (0, 0))
  h4 : W.heap[w.heap.size + 1 + 1 + 1 + 1]? = some (.cells rc 47 (0, 0))
theorem B5.below {K : World → Prop} (hK : ∀ (W W' : World), K W → Below W.heap.size W W' → K W') {w : World} {v : Slots} {b : BookT} {hc sc oc rc : Array Value} {W W' : World} (h : B5 K w v b hc sc oc rc W) (hb : Below W.heap.size W W') : B5 K w v b hc sc oc rc W' :=
  ⟨h.bs.below hK hb, blk_below h.h1 hb, blk_below h.h2 hb, blk_below h.h3 hb, blk_below h.h4 hb⟩
/-- And the copy's box. -/
structure C5 (K : World → Prop) (w : World) (v : Slots) (b : BookT) (hc sc oc rc : Array Value) (c : Nat) (v0 : Slots) (W : World) : Prop where
  b5 : B5 K w v b hc sc oc rc W
  box : BoxB W c v0 b
  bin : BookIn W v0 b
theorem C5.below {K : World → Prop} (hK : ∀ (W W' : World), K W → Below W.heap.size W W' → K W') {w : World} {v : Slots} {b : BookT} {hc sc oc rc : Array Value} {c : Nat} {v0 : Slots} {W W' : World} (h : C5 K w v b hc sc oc rc c v0 W) (hb : Below W.heap.size W W') : C5 K w v b hc sc oc rc c v0 W' :=
  ⟨h.b5.below hK hb, blk_below h.box hb, h.bin.below hb⟩
/-- And the boxes of what was set. -/
structure E7 (K : World → Prop) (w : World) (v : Slots) (b : BookT) (hc sc oc rc : Array Value) (c : Nat) (v0 : Slots) (g0 g1 g2 g3 : Nat) (v1 v2 v3 v4 : Slots) (c0 c1 c2 c3 : BookT) (W : World) : Prop where
  c5 : C5 K w v b hc sc oc rc c v0 W
  x0 : BoxB W g0 v1 c0
  x1 : BoxB W g1 v2 c1
  x2 : BoxB W g2 v3 c2
  x3 : BoxB W g3 v4 c3
  i0 : BookIn W v1 c0
  i1 : BookIn W v2 c1
  i2 : BookIn W v3 c2
  i3 : BookIn W v4 c3
theorem E7.below {K : World → Prop} (hK : ∀ (W W' : World), K W → Below W.heap.size W W' → K W') {w : World} {v : Slots} {b : BookT} {hc sc oc rc : Array Value} {c : Nat} {v0 : Slots} {g0 g1 g2 g3 : Nat} {v1 v2 v3 v4 : Slots} {c0 c1 c2 c3 : BookT} {W W' : World} (h : E7 K w v b hc sc oc rc c v0 g0 g1 g2 g3 v1 v2 v3 v4 c0 c1 c2 c3 W) (hb : Below W.heap.size W W') : E7 K w v b hc sc oc rc c v0 g0 g1 g2 g3 v1 v2 v3 v4 c0 c1 c2 c3 W' :=
  ⟨h.c5.below hK hb, blk_below h.x0 hb, blk_below h.x1 hb, blk_below h.x2 hb, blk_below h.x3 hb, h.i0.below hb, h.i1.below hb, h.i2.below hb, h.i3.below hb⟩
def L6 (k0 k1 k2 k3 a0 a1 a2 a3 : Bool) : Array Bool := #[true, true, k0, true, true, k1, true, true, k2, true, true, k3, a0, a1, a2, a3, false, false, false, false]
def ok6 (k0 k1 k2 k3 a0 a1 a2 a3 : Bool) (i : Nat) : Bool := (i == 2 && !k0) || (i == 5 && k0 && !k1) || (i == 8 && k1 && !k2) || (i == 11 && k2 && !k3) || (i == 12 && !a0) || (i == 13 && !a1) || (i == 14 && !a2) || (i == 15 && !a3)
def test6 (ops : Array Oper) : Bool := allB fun k0 => allB fun k1 => allB fun k2 => allB fun k3 => allB fun a0 => allB fun a1 => allB fun a2 => allB fun a3 =>
  (!((!k1 || k0) && (!k2 || k1) && (!k3 || k2))) || (k3 && a0 && a1 && a2 && a3) || ((!(Region.ready .any ops (L6 k0 k1 k2 k3 a0 a1 a2 a3)).isEmpty) && (Region.ready .any ops (L6 k0 k1 k2 k3 a0 a1 a2 a3)).all (ok6 k0 k1 k2 k3 a0 a1 a2 a3))
theorem ready_six {ops : Array Oper} (h : test6 ops = true) (k0 k1 k2 k3 a0 a1 a2 a3 : Bool) (v1 : k1 = true → k0 = true) (v2 : k2 = true → k1 = true) (v3 : k3 = true → k2 = true) (hne : (k3 && a0 && a1 && a2 && a3) = false) :
    Region.ready .any ops (L6 k0 k1 k2 k3 a0 a1 a2 a3) ≠ [] ∧ ∀ i ∈ Region.ready .any ops (L6 k0 k1 k2 k3 a0 a1 a2 a3), (i = 2 ∧ k0 = false) ∨ (i = 5 ∧ k0 = true ∧ k1 = false) ∨ (i = 8 ∧ k1 = true ∧ k2 = false) ∨ (i = 11 ∧ k2 = true ∧ k3 = false) ∨ (i = 12 ∧ a0 = false) ∨ (i = 13 ∧ a1 = false) ∨ (i = 14 ∧ a2 = false) ∨ (i = 15 ∧ a3 = false) := by
  have h := allB_at (allB_at (allB_at (allB_at (allB_at (allB_at (allB_at (allB_at h k0) k1) k2) k3) a0) a1) a2) a3
  rw [hne, Bool.or_false] at h
  have hv : ((!k1 || k0) && (!k2 || k1) && (!k3 || k2)) = true := by
    cases k1 <;> cases k2 <;> cases k3 <;> simp_all
  rw [hv, Bool.not_true, Bool.false_or, Bool.and_eq_true] at h
  refine ⟨fun e => by rw [e] at h; simp at h, fun i hi => ?_⟩
  have h2 := List.all_eq_true.1 h.2 i hi
  simp only [ok6, Bool.or_eq_true, Bool.and_eq_true, beq_iff_eq, Bool.not_eq_true'] at h2
  rcases h2 with ((((((h | h) | h) | h) | h) | h) | h) | h
  · exact .inl h
  · exact .inr (.inl ⟨h.1.1, h.1.2, h.2⟩)
  · exact .inr (.inr (.inl ⟨h.1.1, h.1.2, h.2⟩))
  · exact .inr (.inr (.inr (.inl ⟨h.1.1, h.1.2, h.2⟩)))
  · exact .inr (.inr (.inr (.inr (.inl h))))
  · exact .inr (.inr (.inr (.inr (.inr (.inl h)))))
  · exact .inr (.inr (.inr (.inr (.inr (.inr (.inl h))))))
  · exact .inr (.inr (.inr (.inr (.inr (.inr (.inr h))))))
/-- What came of a set; a new book's box. -/
def GotB (W : World) (u : Value) (b : BookT) : Prop := ∃ v, u = .agg (cellsB v b) ∧ BookIn W v b
theorem GotB.below {W W' : World} {u : Value} {b : BookT} (h : GotB W u b) (hb : Below W.heap.size W W') : GotB W' u b := by
  obtain ⟨v, rfl, h⟩ := h
  exact ⟨v, rfl, h.below hb⟩
structure NewB (m : Nat) (W : World) (x : Value) (g : Nat) : Prop where
  is : x = .pointer (some ⟨g, 0, none⟩)
  ge : m ≤ g
  hp : W.heap[g]? = some (.cells #[.slice none 0 0, .slice none 0 0, .slice none 0 0, .slice none 0 0, .int .i64 0] 27 (0, 0))
theorem NewB.lt {m : Nat} {W : World} {x : Value} {g : Nat} (h : NewB m W x g) : g < W.heap.size := lt_blkB h.hp
theorem NewB.below {m : Nat} {W W' : World} {x : Value} {g : Nat} (h : NewB m W x g) (hb : Below W.heap.size W W') : NewB m W' x g := ⟨h.is, h.ge, blk_below h.hp hb⟩
/-- Which of the operations have come up, and what lies where. -/
structure S6 (W6 : World) (c0 c1 c2 c3 : BookT) (k0 k1 k2 k3 a0 a1 a2 a3 : Bool) (u0 u1 u2 u3 x0 x1 x2 x3 : Value) (g0 g1 g2 g3 : Nat) (W : World) : Prop where
  lo : Below W6.heap.size W6 W
  r0 : k0 = true → GotB W u0 c0
  r1 : k1 = true → GotB W u1 c1
  r2 : k2 = true → GotB W u2 c2
  r3 : k3 = true → GotB W u3 c3
  p0 : a0 = true → NewB W6.heap.size W x0 g0
  p1 : a1 = true → NewB W6.heap.size W x1 g1
  p2 : a2 = true → NewB W6.heap.size W x2 g2
  p3 : a3 = true → NewB W6.heap.size W x3 g3
  n01 : a0 = true → a1 = true → g0 ≠ g1
  n02 : a0 = true → a2 = true → g0 ≠ g2
  n03 : a0 = true → a3 = true → g0 ≠ g3
  n12 : a1 = true → a2 = true → g1 ≠ g2
  n13 : a1 = true → a3 = true → g1 ≠ g3
  n23 : a2 = true → a3 = true → g2 ≠ g3
  v1 : k1 = true → k0 = true
  v2 : k2 = true → k1 = true
  v3 : k3 = true → k2 = true
theorem S6.got0 {W6 : World} {c0 c1 c2 c3 : BookT} {k0 k1 k2 k3 a0 a1 a2 a3 : Bool} {u0 u1 u2 u3 x0 x1 x2 x3 u : Value} {g0 g1 g2 g3 : Nat} {W W' : World} (h : S6 W6 c0 c1 c2 c3 k0 k1 k2 k3 a0 a1 a2 a3 u0 u1 u2 u3 x0 x1 x2 x3 g0 g1 g2 g3 W) (hb : Below W.heap.size W W') (hn : GotB W' u c0) : S6 W6 c0 c1 c2 c3 true k1 k2 k3 a0 a1 a2 a3 u u1 u2 u3 x0 x1 x2 x3 g0 g1 g2 g3 W' :=
  ⟨h.lo.trans (hb.mono h.lo.size), fun _ => hn, fun e => (h.r1 e).below hb, fun e => (h.r2 e).below hb, fun e => (h.r3 e).below hb, fun e => (h.p0 e).below hb, fun e => (h.p1 e).below hb, fun e => (h.p2 e).below hb, fun e => (h.p3 e).below hb, h.n01, h.n02, h.n03, h.n12, h.n13, h.n23, fun _ => rfl, h.v2, h.v3⟩
theorem S6.mk0 {W6 : World} {c0 c1 c2 c3 : BookT} {k0 k1 k2 k3 a0 a1 a2 a3 : Bool} {u0 u1 u2 u3 x0 x1 x2 x3 : Value} {g0 g1 g2 g3 : Nat} {W : World} (h : S6 W6 c0 c1 c2 c3 k0 k1 k2 k3 a0 a1 a2 a3 u0 u1 u2 u3 x0 x1 x2 x3 g0 g1 g2 g3 W) : S6 W6 c0 c1 c2 c3 k0 k1 k2 k3 true a1 a2 a3 u0 u1 u2 u3 (.pointer (some ⟨W.heap.size, 0, none⟩)) x1 x2 x3 W.heap.size g1 g2 g3 (W.alloc (.cells #[.slice none 0 0, .slice none 0 0, .slice none 0 0, .slice none 0 0, .int .i64 0] 27)) :=
  have hb : Below W.heap.size W (W.alloc (.cells #[.slice none 0 0, .slice none 0 0, .slice none 0 0, .slice none 0 0, .int .i64 0] 27)) := (Below.refl _ _).alloc (Nat.le_refl _) _
  ⟨h.lo.alloc h.lo.size _, fun e => (h.r0 e).below hb, fun e => (h.r1 e).below hb, fun e => (h.r2 e).below hb, fun e => (h.r3 e).below hb, fun _ => ⟨rfl, h.lo.size, heap_alloc_new W _⟩, fun e => (h.p1 e).below hb, fun e => (h.p2 e).below hb, fun e => (h.p3 e).below hb, fun _ e => by have := (h.p1 e).lt; omega, fun _ e => by have := (h.p2 e).lt; omega, fun _ e => by have := (h.p3 e).lt; omega, h.n12, h.n13, h.n23, h.v1, h.v2, h.v3⟩
theorem S6.got1 {W6 : World} {c0 c1 c2 c3 : BookT} {k0 k1 k2 k3 a0 a1 a2 a3 : Bool} {u0 u1 u2 u3 x0 x1 x2 x3 u : Value} {g0 g1 g2 g3 : Nat} {W W' : World} (h : S6 W6 c0 c1 c2 c3 k0 k1 k2 k3 a0 a1 a2 a3 u0 u1 u2 u3 x0 x1 x2 x3 g0 g1 g2 g3 W) (hb : Below W.heap.size W W') (hn : GotB W' u c1) (hv : k0 = true) : S6 W6 c0 c1 c2 c3 k0 true k2 k3 a0 a1 a2 a3 u0 u u2 u3 x0 x1 x2 x3 g0 g1 g2 g3 W' :=
  ⟨h.lo.trans (hb.mono h.lo.size), fun e => (h.r0 e).below hb, fun _ => hn, fun e => (h.r2 e).below hb, fun e => (h.r3 e).below hb, fun e => (h.p0 e).below hb, fun e => (h.p1 e).below hb, fun e => (h.p2 e).below hb, fun e => (h.p3 e).below hb, h.n01, h.n02, h.n03, h.n12, h.n13, h.n23, fun _ => hv, fun _ => rfl, h.v3⟩
theorem S6.mk1 {W6 : World} {c0 c1 c2 c3 : BookT} {k0 k1 k2 k3 a0 a1 a2 a3 : Bool} {u0 u1 u2 u3 x0 x1 x2 x3 : Value} {g0 g1 g2 g3 : Nat} {W : World} (h : S6 W6 c0 c1 c2 c3 k0 k1 k2 k3 a0 a1 a2 a3 u0 u1 u2 u3 x0 x1 x2 x3 g0 g1 g2 g3 W) : S6 W6 c0 c1 c2 c3 k0 k1 k2 k3 a0 true a2 a3 u0 u1 u2 u3 x0 (.pointer (some ⟨W.heap.size, 0, none⟩)) x2 x3 g0 W.heap.size g2 g3 (W.alloc (.cells #[.slice none 0 0, .slice none 0 0, .slice none 0 0, .slice none 0 0, .int .i64 0] 27)) :=
  have hb : Below W.heap.size W (W.alloc (.cells #[.slice none 0 0, .slice none 0 0, .slice none 0 0, .slice none 0 0, .int .i64 0] 27)) := (Below.refl _ _).alloc (Nat.le_refl _) _
  ⟨h.lo.alloc h.lo.size _, fun e => (h.r0 e).below hb, fun e => (h.r1 e).below hb, fun e => (h.r2 e).below hb, fun e => (h.r3 e).below hb, fun e => (h.p0 e).below hb, fun _ => ⟨rfl, h.lo.size, heap_alloc_new W _⟩, fun e => (h.p2 e).below hb, fun e => (h.p3 e).below hb, fun e _ => by have := (h.p0 e).lt; omega, h.n02, h.n03, fun _ e => by have := (h.p2 e).lt; omega, fun _ e => by have := (h.p3 e).lt; omega, h.n23, h.v1, h.v2, h.v3⟩
theorem S6.got2 {W6 : World} {c0 c1 c2 c3 : BookT} {k0 k1 k2 k3 a0 a1 a2 a3 : Bool} {u0 u1 u2 u3 x0 x1 x2 x3 u : Value} {g0 g1 g2 g3 : Nat} {W W' : World} (h : S6 W6 c0 c1 c2 c3 k0 k1 k2 k3 a0 a1 a2 a3 u0 u1 u2 u3 x0 x1 x2 x3 g0 g1 g2 g3 W) (hb : Below W.heap.size W W') (hn : GotB W' u c2) (hv : k1 = true) : S6 W6 c0 c1 c2 c3 k0 k1 true k3 a0 a1 a2 a3 u0 u1 u u3 x0 x1 x2 x3 g0 g1 g2 g3 W' :=
  ⟨h.lo.trans (hb.mono h.lo.size), fun e => (h.r0 e).below hb, fun e => (h.r1 e).below hb, fun _ => hn, fun e => (h.r3 e).below hb, fun e => (h.p0 e).below hb, fun e => (h.p1 e).below hb, fun e => (h.p2 e).below hb, fun e => (h.p3 e).below hb, h.n01, h.n02, h.n03, h.n12, h.n13, h.n23, h.v1, fun _ => hv, fun _ => rfl⟩
theorem S6.mk2 {W6 : World} {c0 c1 c2 c3 : BookT} {k0 k1 k2 k3 a0 a1 a2 a3 : Bool} {u0 u1 u2 u3 x0 x1 x2 x3 : Value} {g0 g1 g2 g3 : Nat} {W : World} (h : S6 W6 c0 c1 c2 c3 k0 k1 k2 k3 a0 a1 a2 a3 u0 u1 u2 u3 x0 x1 x2 x3 g0 g1 g2 g3 W) : S6 W6 c0 c1 c2 c3 k0 k1 k2 k3 a0 a1 true a3 u0 u1 u2 u3 x0 x1 (.pointer (some ⟨W.heap.size, 0, none⟩)) x3 g0 g1 W.heap.size g3 (W.alloc (.cells #[.slice none 0 0, .slice none 0 0, .slice none 0 0, .slice none 0 0, .int .i64 0] 27)) :=
  have hb : Below W.heap.size W (W.alloc (.cells #[.slice none 0 0, .slice none 0 0, .slice none 0 0, .slice none 0 0, .int .i64 0] 27)) := (Below.refl _ _).alloc (Nat.le_refl _) _
  ⟨h.lo.alloc h.lo.size _, fun e => (h.r0 e).below hb, fun e => (h.r1 e).below hb, fun e => (h.r2 e).below hb, fun e => (h.r3 e).below hb, fun e => (h.p0 e).below hb, fun e => (h.p1 e).below hb, fun _ => ⟨rfl, h.lo.size, heap_alloc_new W _⟩, fun e => (h.p3 e).below hb, h.n01, fun e _ => by have := (h.p0 e).lt; omega, h.n03, fun e _ => by have := (h.p1 e).lt; omega, h.n13, fun _ e => by have := (h.p3 e).lt; omega, h.v1, h.v2, h.v3⟩
theorem S6.got3 {W6 : World} {c0 c1 c2 c3 : BookT} {k0 k1 k2 k3 a0 a1 a2 a3 : Bool} {u0 u1 u2 u3 x0 x1 x2 x3 u : Value} {g0 g1 g2 g3 : Nat} {W W' : World} (h : S6 W6 c0 c1 c2 c3 k0 k1 k2 k3 a0 a1 a2 a3 u0 u1 u2 u3 x0 x1 x2 x3 g0 g1 g2 g3 W) (hb : Below W.heap.size W W') (hn : GotB W' u c3) (hv : k2 = true) : S6 W6 c0 c1 c2 c3 k0 k1 k2 true a0 a1 a2 a3 u0 u1 u2 u x0 x1 x2 x3 g0 g1 g2 g3 W' :=
  ⟨h.lo.trans (hb.mono h.lo.size), fun e => (h.r0 e).below hb, fun e => (h.r1 e).below hb, fun e => (h.r2 e).below hb, fun _ => hn, fun e => (h.p0 e).below hb, fun e => (h.p1 e).below hb, fun e => (h.p2 e).below hb, fun e => (h.p3 e).below hb, h.n01, h.n02, h.n03, h.n12, h.n13, h.n23, h.v1, h.v2, fun _ => hv⟩
theorem S6.mk3 {W6 : World} {c0 c1 c2 c3 : BookT} {k0 k1 k2 k3 a0 a1 a2 a3 : Bool} {u0 u1 u2 u3 x0 x1 x2 x3 : Value} {g0 g1 g2 g3 : Nat} {W : World} (h : S6 W6 c0 c1 c2 c3 k0 k1 k2 k3 a0 a1 a2 a3 u0 u1 u2 u3 x0 x1 x2 x3 g0 g1 g2 g3 W) : S6 W6 c0 c1 c2 c3 k0 k1 k2 k3 a0 a1 a2 true u0 u1 u2 u3 x0 x1 x2 (.pointer (some ⟨W.heap.size, 0, none⟩)) g0 g1 g2 W.heap.size (W.alloc (.cells #[.slice none 0 0, .slice none 0 0, .slice none 0 0, .slice none 0 0, .int .i64 0] 27)) :=
  have hb : Below W.heap.size W (W.alloc (.cells #[.slice none 0 0, .slice none 0 0, .slice none 0 0, .slice none 0 0, .int .i64 0] 27)) := (Below.refl _ _).alloc (Nat.le_refl _) _
  ⟨h.lo.alloc h.lo.size _, fun e => (h.r0 e).below hb, fun e => (h.r1 e).below hb, fun e => (h.r2 e).below hb, fun e => (h.r3 e).below hb, fun e => (h.p0 e).below hb, fun e => (h.p1 e).below hb, fun e => (h.p2 e).below hb, fun _ => ⟨rfl, h.lo.size, heap_alloc_new W _⟩, h.n01, h.n02, fun e _ => by have := (h.p0 e).lt; omega, h.n12, fun e _ => by have := (h.p1 e).lt; omega, fun e _ => by have := (h.p2 e).lt; omega, h.v1, h.v2, h.v3⟩

theorem same_self (v u : Slots) (a : BookT) (w : World) (ha : BookIn w v a) (hb : BookIn w u a) (ka : BookOk 1000 a) : Calls Try.prog 12 #[.agg (cellsB v a), .agg (cellsB u a)] w fun e w' => e = .returned (.bool true) ∧ Below w.heap.size w w' := by
  have h := same12 v u a a w ha hb ka ka
  rwa [sameT_refl] at h
theorem rise_self (v : Slots) (a : BookT) (w : World) (ha : BookIn w v a) (ka : BookOk 1000 a) (hr : riseT a = true) : Calls Try.prog 14 #[.agg (cellsB v a)] w fun e w' => e = .returned (.bool true) ∧ Below w.heap.size w w' := by
  have h := rise14 v a w ha ka
  rwa [hr] at h
/-- All boxes filled. -/
theorem S6.done {K : World → Prop} {w : World} {v : Slots} {b : BookT} {hc sc oc rc : Array Value} {c : Nat} {v0 : Slots} {W6 : World} {c0 c1 c2 c3 : BookT} {u0 u1 u2 u3 x0 x1 x2 x3 : Value} {g0 g1 g2 g3 : Nat} {v1 v2 v3 v4 : Slots} {W : World} (h : S6 W6 c0 c1 c2 c3 true true true true true true true true u0 u1 u2 u3 x0 x1 x2 x3 g0 g1 g2 g3 W)
    (_ : ∀ (W W' : World), K W → Below W.heap.size W W' → K W') (hC : ∀ W, Below W6.heap.size W6 W → C5 K w v b hc sc oc rc c v0 W) (k0 : BookOk 1000 c0) (k1 : BookOk 1000 c1) (k2 : BookOk 1000 c2) (k3 : BookOk 1000 c3) (i0 : BookIn W v1 c0) (i1 : BookIn W v2 c1) (i2 : BookIn W v3 c2) (i3 : BookIn W v4 c3) :
    E7 K w v b hc sc oc rc c v0 g0 g1 g2 g3 v1 v2 v3 v4 c0 c1 c2 c3 ((((W.setRow g0 (cellsB v1 c0)).setRow g1 (cellsB v2 c1)).setRow g2 (cellsB v3 c2)).setRow g3 (cellsB v4 c3)) := by
  have p0 := h.p0 rfl
  have p1 := h.p1 rfl
  have p2 := h.p2 rfl
  have p3 := h.p3 rfl
  have n01 := h.n01 rfl rfl
  have n02 := h.n02 rfl rfl
  have n03 := h.n03 rfl rfl
  have n12 := h.n12 rfl rfl
  have n13 := h.n13 rfl rfl
  have n23 := h.n23 rfl rfl
  have hlo : Below W6.heap.size W6 ((((W.setRow g0 (cellsB v1 c0)).setRow g1 (cellsB v2 c1)).setRow g2 (cellsB v3 c2)).setRow g3 (cellsB v4 c3)) := below_rowB (below_rowB (below_rowB (below_rowB h.lo p0.ge) p1.ge) p2.ge) p3.ge
  have hsz : W.heap.size ≤ ((((W.setRow g0 (cellsB v1 c0)).setRow g1 (cellsB v2 c1)).setRow g2 (cellsB v3 c2)).setRow g3 (cellsB v4 c3)).heap.size := by simp
  have hs : ∀ i : Nat, ((((W.setRow g0 (cellsB v1 c0)).setRow g1 (cellsB v2 c1)).setRow g2 (cellsB v3 c2)).setRow g3 (cellsB v4 c3)).heap[i]? = W.heap[i]? ∨ W.heap[i]? = some (Obj.cells #[.slice none 0 0, .slice none 0 0, .slice none 0 0, .slice none 0 0, .int .i64 0] 27 (0, 0)) := by
    intro i
    by_cases e3 : i = g3
    · exact .inr (by rw [e3]; exact p3.hp)
    by_cases e2 : i = g2
    · exact .inr (by rw [e2]; exact p2.hp)
    by_cases e1 : i = g1
    · exact .inr (by rw [e1]; exact p1.hp)
    by_cases e0 : i = g0
    · exact .inr (by rw [e0]; exact p0.hp)
    exact .inl (by rw [setRow_ne _ e3, setRow_ne _ e2, setRow_ne _ e1, setRow_ne _ e0])
  have q0 : (W.setRow g0 (cellsB v1 c0)).heap[g0]? = some (.cells (cellsB v1 c0) 27 (0, 0)) := setRow_heap _ _ _ _ _ _ p0.hp
  have q1 : ((W.setRow g0 (cellsB v1 c0)).setRow g1 (cellsB v2 c1)).heap[g1]? = some (.cells (cellsB v2 c1) 27 (0, 0)) := setRow_heap _ _ _ _ _ _ ((setRow_ne _ n01.symm).trans p1.hp)
  have q2 : (((W.setRow g0 (cellsB v1 c0)).setRow g1 (cellsB v2 c1)).setRow g2 (cellsB v3 c2)).heap[g2]? = some (.cells (cellsB v3 c2) 27 (0, 0)) := setRow_heap _ _ _ _ _ _ ((setRow_ne _ n12.symm).trans ((setRow_ne _ n02.symm).trans p2.hp))
  have q3 : ((((W.setRow g0 (cellsB v1 c0)).setRow g1 (cellsB v2 c1)).setRow g2 (cellsB v3 c2)).setRow g3 (cellsB v4 c3)).heap[g3]? = some (.cells (cellsB v4 c3) 27 (0, 0)) := setRow_heap _ _ _ _ _ _ ((setRow_ne _ n23.symm).trans ((setRow_ne _ n13.symm).trans ((setRow_ne _ n03.symm).trans p3.hp)))
  exact ⟨hC _ hlo, (setRow_ne _ n03).trans ((setRow_ne _ n02).trans ((setRow_ne _ n01).trans q0)), (setRow_ne _ n13).trans ((setRow_ne _ n12).trans q1), (setRow_ne _ n23).trans q2, q3, book_off i0 k0 hsz hs, book_off i1 k1 hsz hs, book_off i2 k2 hsz hs, book_off i3 k3 hsz hs⟩
set_option maxRecDepth 100000 in
set_option maxHeartbeats 16000000 in
theorem bk5 {K : World → Prop} (C : BookC K) (v : Slots) (b : BookT) (p q r s p1 q1 r1 p2 q2 r2 s2 t2 z2 p3 q3 : Int) (w : World) (hK : K w) (hb : BookIn w v b) (hcp : CapOk v b) (hw : BookWf b) (ip : in6 p) (iq : in6 q) (ir : in6 r) (is : in6 s) (ip1 : in6 p1) (iq1 : in6 q1) (ir1 : in6 r1) (ip2 : in6 p2) (iq2 : in6 q2) (ir2 : in6 r2) (is2 : in6 s2) (it2 : in6 t2) (iz2 : in6 z2) (ip3 : in6 p3) (iq3 : in6 q3) :
    Calls Try.prog 5 #[.agg (cellsB v b), .agg #[.int .i64 p, .int .i64 q, .int .i64 r, .int .i64 s], .agg #[.int .i64 p1, .int .i64 q1, .int .i64 r1], .agg #[.int .i64 p2, .int .i64 q2, .int .i64 r2, .int .i64 s2, .int .i64 t2, .int .i64 z2], .agg #[.int .i64 p3, .int .i64 q3]] w fun e w' => e = .returned (.bool true) ∧ Below w.heap.size w w' := by
  have HKP := Lib.hid C.keep
  obtain ⟨W0, hW0⟩ : ∃ W, ((((w.alloc (.cells (cellsB v b) 27)).alloc (.cells #[.int .i64 p, .int .i64 q, .int .i64 r, .int .i64 s] 33)).alloc (.cells #[.int .i64 p1, .int .i64 q1, .int .i64 r1] 45)).alloc (.cells #[.int .i64 p2, .int .i64 q2, .int .i64 r2, .int .i64 s2, .int .i64 t2, .int .i64 z2] 37)).alloc (.cells #[.int .i64 p3, .int .i64 q3] 47) = W := ⟨_, rfl⟩
  have HS0 := Lib.hid (show B5 K w v b #[.int .i64 p, .int .i64 q, .int .i64 r, .int .i64 s] #[.int .i64 p1, .int .i64 q1, .int .i64 r1] #[.int .i64 p2, .int .i64 q2, .int .i64 r2, .int .i64 s2, .int .i64 t2, .int .i64 z2] #[.int .i64 p3, .int .i64 q3] W0 by
    obtain ⟨f0, f1, f2, f3, f4, f5⟩ := five_alloc (w := w) (A := .cells (cellsB v b) 27) (B := .cells #[.int .i64 p, .int .i64 q, .int .i64 r, .int .i64 s] 33) (C := .cells #[.int .i64 p1, .int .i64 q1, .int .i64 r1] 45) (D := .cells #[.int .i64 p2, .int .i64 q2, .int .i64 r2, .int .i64 s2, .int .i64 t2, .int .i64 z2] 37) (E := .cells #[.int .i64 p3, .int .i64 q3] 47)
    rw [hW0] at f0 f1 f2 f3 f4 f5
    exact ⟨⟨HKP.out _ _ hK f5, f5, f0, hb.below f5⟩, f1, f2, f3, f4⟩)
  have HAL := Lib.hid (fun W (h : K W) => alive7B C W h)
  have HGR := Lib.hid (fun W => great8 v b W)
  have HI := Lib.hid (show (Try.prog.info? 27).map (·.size) = some (cellsB v b).size from info27)
  cases hg : greatT b with
  | true =>
    rw [hg] at HGR
    obtain ⟨cb, hcb⟩ : ∃ c, cellsB v b = c := ⟨_, rfl⟩
    have HX := Lib.hid (fun W (h : B5 K w v b #[.int .i64 p, .int .i64 q, .int .i64 r, .int .i64 s] #[.int .i64 p1, .int .i64 q1, .int .i64 r1] #[.int .i64 p2, .int .i64 q2, .int .i64 r2, .int .i64 s2, .int .i64 t2, .int .i64 z2] #[.int .i64 p3, .int .i64 q3] W) => (show W.heap[w.heap.size]? = some (.cells (cellsB v b) 27 (0, 0)) from h.bs.box))
    rw [hcb] at hW0 HGR HI HX ⊢
    clear hg hb hw hcb C hK
    go_enter Try.func5, Try.ntmps5
    go_wp2_with (first | (go_at_call 7; refine (HAL.out _ HS0.out.bs.k).mono ?_; rintro e w1 ⟨rfl, hb1⟩; have HS1 := Lib.hid (HS0.out.below HKP.out hb1); clear hb1 HS0) | ((with_reducible refine atLoad (ty := 27) (x := .tmp 5) rfl ?_); refine wpList_load_row rfl 27 (.tmp 5) rfl w.heap.size rfl 27 cb (0, 0) _ (HX.out _ HS1.out) Try.underlying27 rfl HI.out ?_) | (go_at_call 8; refine (HGR.out _).mono ?_; rintro e w2 ⟨rfl, hb2⟩; have HS2 := Lib.hid (HS1.out.below HKP.out hb2); clear hb2))
    go_ret
    exact ⟨rfl, HS2.out.bs.lo⟩
  | false =>
    have hk := ok_of_great hg hw
    have HRI := Lib.hid (fun W (h : B5 K w v b #[.int .i64 p, .int .i64 q, .int .i64 r, .int .i64 s] #[.int .i64 p1, .int .i64 q1, .int .i64 r1] #[.int .i64 p2, .int .i64 q2, .int .i64 r2, .int .i64 s2, .int .i64 t2, .int .i64 z2] #[.int .i64 p3, .int .i64 q3] W) => rise14 v b W h.bs.bin (hk.mono (by omega)))
    rw [hg] at HGR
    clear hg
    cases hr : riseT b with
    | false =>
      rw [hr] at HRI
      obtain ⟨cb, hcb⟩ : ∃ c, cellsB v b = c := ⟨_, rfl⟩
      have HX := Lib.hid (fun W (h : B5 K w v b #[.int .i64 p, .int .i64 q, .int .i64 r, .int .i64 s] #[.int .i64 p1, .int .i64 q1, .int .i64 r1] #[.int .i64 p2, .int .i64 q2, .int .i64 r2, .int .i64 s2, .int .i64 t2, .int .i64 z2] #[.int .i64 p3, .int .i64 q3] W) => (show W.heap[w.heap.size]? = some (.cells (cellsB v b) 27 (0, 0)) from h.bs.box))
      rw [hcb] at hW0 HGR HRI HI HX ⊢
      clear hr hb hw hk hcb C hK
      go_enter Try.func5, Try.ntmps5
      go_wp2_with (first | (go_at_call 7; refine (HAL.out _ HS0.out.bs.k).mono ?_; rintro e w1 ⟨rfl, hb1⟩; have HS1 := Lib.hid (HS0.out.below HKP.out hb1); clear hb1 HS0) | ((with_reducible refine atLoad (ty := 27) (x := .tmp 5) rfl ?_); refine wpList_load_rowG (by rfl) 27 (.tmp 5) rfl w.heap.size rfl 27 cb (0, 0) _ (HX.out _ HS2.out) Try.underlying27 rfl HI.out ?_) | ((with_reducible refine atLoad (ty := 27) (x := .tmp 5) rfl ?_); refine wpList_load_row rfl 27 (.tmp 5) rfl w.heap.size rfl 27 cb (0, 0) _ (HX.out _ HS1.out) Try.underlying27 rfl HI.out ?_) | (go_at_call 8; refine (HGR.out _).mono ?_; rintro e w2 ⟨rfl, hb2⟩; have HS2 := Lib.hid (HS1.out.below HKP.out hb2); clear hb2) | (go_at_call 14; refine (HRI.out _ HS2.out).mono ?_; rintro e w3 ⟨rfl, hb3⟩; have HS3 := Lib.hid (HS2.out.below HKP.out hb3); clear hb3))
      go_ret
      exact ⟨rfl, HS3.out.bs.lo⟩
    | true =>
      rw [hr] at HRI
      have hk4 : BookOk 400 b := hk.mono (by omega)
      have hk1 : BookOk 1000 b := hk.mono (by omega)
      have HSH := Lib.hid (fun W (h : B5 K w v b #[.int .i64 p, .int .i64 q, .int .i64 r, .int .i64 s] #[.int .i64 p1, .int .i64 q1, .int .i64 r1] #[.int .i64 p2, .int .i64 q2, .int .i64 r2, .int .i64 s2, .int .i64 t2, .int .i64 z2] #[.int .i64 p3, .int .i64 q3] W) => C.setHolder v b p q r s W h.bs.k h.bs.bin hcp hk4 hr ip iq ir is)
      have HSS := Lib.hid (fun W (h : B5 K w v b #[.int .i64 p, .int .i64 q, .int .i64 r, .int .i64 s] #[.int .i64 p1, .int .i64 q1, .int .i64 r1] #[.int .i64 p2, .int .i64 q2, .int .i64 r2, .int .i64 s2, .int .i64 t2, .int .i64 z2] #[.int .i64 p3, .int .i64 q3] W) => C.setStake v b p1 q1 r1 W h.bs.k h.bs.bin hcp hk4 hr ip1 iq1 ir1)
      have HSO := Lib.hid (fun W (h : B5 K w v b #[.int .i64 p, .int .i64 q, .int .i64 r, .int .i64 s] #[.int .i64 p1, .int .i64 q1, .int .i64 r1] #[.int .i64 p2, .int .i64 q2, .int .i64 r2, .int .i64 s2, .int .i64 t2, .int .i64 z2] #[.int .i64 p3, .int .i64 q3] W) => C.setOpen v b p2 q2 r2 s2 t2 z2 W h.bs.k h.bs.bin hcp hk4 hr ip2 iq2 ir2 is2 it2 iz2)
      have HSR := Lib.hid (fun W (h : B5 K w v b #[.int .i64 p, .int .i64 q, .int .i64 r, .int .i64 s] #[.int .i64 p1, .int .i64 q1, .int .i64 r1] #[.int .i64 p2, .int .i64 q2, .int .i64 r2, .int .i64 s2, .int .i64 t2, .int .i64 z2] #[.int .i64 p3, .int .i64 q3] W) => C.setRate v b p3 q3 W h.bs.k h.bs.bin hcp hk4 hr ip3 iq3)
      have RSH := Lib.hid (fun W (h : B5 K w v b #[.int .i64 p, .int .i64 q, .int .i64 r, .int .i64 s] #[.int .i64 p1, .int .i64 q1, .int .i64 r1] #[.int .i64 p2, .int .i64 q2, .int .i64 r2, .int .i64 s2, .int .i64 t2, .int .i64 z2] #[.int .i64 p3, .int .i64 q3] W) => setholder27 v b p q r s W h.bs.bin hk1.hs)
      have RSS := Lib.hid (fun W (h : B5 K w v b #[.int .i64 p, .int .i64 q, .int .i64 r, .int .i64 s] #[.int .i64 p1, .int .i64 q1, .int .i64 r1] #[.int .i64 p2, .int .i64 q2, .int .i64 r2, .int .i64 s2, .int .i64 t2, .int .i64 z2] #[.int .i64 p3, .int .i64 q3] W) => setstake28 v b p1 q1 r1 W h.bs.bin hk1.ss)
      have RSO := Lib.hid (fun W (h : B5 K w v b #[.int .i64 p, .int .i64 q, .int .i64 r, .int .i64 s] #[.int .i64 p1, .int .i64 q1, .int .i64 r1] #[.int .i64 p2, .int .i64 q2, .int .i64 r2, .int .i64 s2, .int .i64 t2, .int .i64 z2] #[.int .i64 p3, .int .i64 q3] W) => setopen29 v b p2 q2 r2 s2 t2 z2 W h.bs.bin hk1.os)
      have RSR := Lib.hid (fun W (h : B5 K w v b #[.int .i64 p, .int .i64 q, .int .i64 r, .int .i64 s] #[.int .i64 p1, .int .i64 q1, .int .i64 r1] #[.int .i64 p2, .int .i64 q2, .int .i64 r2, .int .i64 s2, .int .i64 t2, .int .i64 z2] #[.int .i64 p3, .int .i64 q3] W) => setrate30 v b p3 q3 W h.bs.bin hk1.rs)
      have HCP := Lib.hid (fun W (h : B5 K w v b #[.int .i64 p, .int .i64 q, .int .i64 r, .int .i64 s] #[.int .i64 p1, .int .i64 q1, .int .i64 r1] #[.int .i64 p2, .int .i64 q2, .int .i64 r2, .int .i64 s2, .int .i64 t2, .int .i64 z2] #[.int .i64 p3, .int .i64 q3] W) => C.copy v b W h.bs.k h.bs.bin hk4)
      have ko0 : BookOk 1000 (setHolderT b [p, q, r, s]) := (setHolder_ok hk ip iq ir is).mono (by omega)
      have ko1 : BookOk 1000 (setStakeT b [p1, q1, r1]) := (setStake_ok hk ip1 iq1 ir1).mono (by omega)
      have ko2 : BookOk 1000 (setOpenT b [p2, q2, r2, s2, t2, z2]) := (setOpen_ok hk ip2 iq2 ir2 is2 it2 iz2).mono (by omega)
      have ko3 : BookOk 1000 (setRateT b [p3, q3]) := (setRate_ok hk ip3 iq3).mono (by omega)
      have KO := Lib.hid (show BookOk 1000 (setHolderT b [p, q, r, s]) ∧ BookOk 1000 (setStakeT b [p1, q1, r1]) ∧ BookOk 1000 (setOpenT b [p2, q2, r2, s2, t2, z2]) ∧ BookOk 1000 (setRateT b [p3, q3]) from ⟨ko0, ko1, ko2, ko3⟩)
      have KR := Lib.hid (show riseT (setHolderT b [p, q, r, s]) = true ∧ riseT (setStakeT b [p1, q1, r1]) = true ∧ riseT (setOpenT b [p2, q2, r2, s2, t2, z2]) = true ∧ riseT (setRateT b [p3, q3]) = true from ⟨setHolder_rise _ hr, setStake_rise _ hr, setOpen_rise _ hr, setRate_rise _ hr⟩)
      have KB := Lib.hid hk1
      clear ko0 ko1 ko2 ko3
      generalize setHolderT b [p, q, r, s] = c0 at *
      generalize setStakeT b [p1, q1, r1] = c1 at *
      generalize setOpenT b [p2, q2, r2, s2, t2, z2] = c2 at *
      generalize setRateT b [p3, q3] = c3 at *
      have RC := Lib.hid (fun W (v0 : Slots) (h : B5 K w v b #[.int .i64 p, .int .i64 q, .int .i64 r, .int .i64 s] #[.int .i64 p1, .int .i64 q1, .int .i64 r1] #[.int .i64 p2, .int .i64 q2, .int .i64 r2, .int .i64 s2, .int .i64 t2, .int .i64 z2] #[.int .i64 p3, .int .i64 q3] W) (h2 : BookIn W v0 b) => same12 v v0 b b W h.bs.bin h2 hk1 hk1)
      rw [sameT_refl] at RC
      obtain ⟨cb, hcb⟩ : ∃ c, cellsB v b = c := ⟨_, rfl⟩
      have HX := Lib.hid (fun W (h : B5 K w v b #[.int .i64 p, .int .i64 q, .int .i64 r, .int .i64 s] #[.int .i64 p1, .int .i64 q1, .int .i64 r1] #[.int .i64 p2, .int .i64 q2, .int .i64 r2, .int .i64 s2, .int .i64 t2, .int .i64 z2] #[.int .i64 p3, .int .i64 q3] W) => (show W.heap[w.heap.size]? = some (.cells (cellsB v b) 27 (0, 0)) from h.bs.box))
      rw [hcb] at hW0 HGR HRI HI HX HSH HSS HSO HSR RSH RSS RSO RSR HCP RC ⊢
      clear hr hb hw hk hk4 hk1 hcb C hK hcp
      go_enter Try.func5, Try.ntmps5
      go_upto_region 5 with (first | (go_at_call 7; refine (HAL.out _ HS0.out.bs.k).mono ?_; rintro e w1 ⟨rfl, hb1⟩; have HS1 := Lib.hid (HS0.out.below HKP.out hb1); clear hb1 HS0) | ((with_reducible refine atLoad (ty := 27) (x := .tmp 5) rfl ?_); refine wpList_load_rowG (by rfl) 27 (.tmp 5) rfl w.heap.size rfl 27 cb (0, 0) _ (HX.out _ HS2.out) Try.underlying27 rfl HI.out ?_) | ((with_reducible refine atLoad (ty := 27) (x := .tmp 5) rfl ?_); refine wpList_load_row rfl 27 (.tmp 5) rfl w.heap.size rfl 27 cb (0, 0) _ (HX.out _ HS1.out) Try.underlying27 rfl HI.out ?_) | (go_at_call 8; refine (HGR.out _).mono ?_; rintro e w2 ⟨rfl, hb2⟩; have HS2 := Lib.hid (HS1.out.below HKP.out hb2); clear hb2) | (go_at_call 14; refine (HRI.out _ HS2.out).mono ?_; rintro e w3 ⟨rfl, hb3⟩; have HS3 := Lib.hid (HS2.out.below HKP.out hb3); clear hb3))
      refine at_world (Φ := fun W => B5 K w v b #[.int .i64 p, .int .i64 q, .int .i64 r, .int .i64 s] #[.int .i64 p1, .int .i64 q1, .int .i64 r1] #[.int .i64 p2, .int .i64 q2, .int .i64 r2, .int .i64 s2, .int .i64 t2, .int .i64 z2] #[.int .i64 p3, .int .i64 q3] W) HS3.out ?_
      clear HS3 HS2 HS1 HGR HRI HAL hW0
      rintro W5 hs5
      have HS5 := Lib.hid hs5
      clear hs5
      go_upto_region 6 with (first | ((with_reducible refine atStore (ty := 27) (x := .tmp 11) (y := .tmp 26) rfl ?_); refine wpList_store_row rfl 27 (.tmp 11) (.tmp 26) rfl y5.heap.size (cellsB v0 b) rfl rfl 27 #[.slice none 0 0, .slice none 0 0, .slice none 0 0, .slice none 0 0, .int .i64 0] (heap_alloc_new y5 _) info27 rfl (by simp [cellsB, Value.oneCell']) ?_) | ((with_reducible refine atLoad (ty := 27) (x := .tmp 5) rfl ?_); refine wpList_load_row rfl 27 (.tmp 5) rfl w.heap.size rfl 27 cb (0, 0) _ (HX.out _ HS5.out) Try.underlying27 rfl HI.out ?_) | (go_at_call 13; refine (HCP.out _ HS5.out).mono ?_; rintro e y5 ⟨⟨v0, rfl, hin0, _, _⟩, hy5⟩))
      have hbA : Below y5.heap.size y5 ((y5.alloc (.cells #[.slice none 0 0, .slice none 0 0, .slice none 0 0, .slice none 0 0, .int .i64 0] 27)).setRow y5.heap.size (cellsB v0 b)) := below_rowB ((Below.refl _ _).alloc (Nat.le_refl _) _) (Nat.le_refl _)
      refine at_world (Φ := fun W => C5 K w v b #[.int .i64 p, .int .i64 q, .int .i64 r, .int .i64 s] #[.int .i64 p1, .int .i64 q1, .int .i64 r1] #[.int .i64 p2, .int .i64 q2, .int .i64 r2, .int .i64 s2, .int .i64 t2, .int .i64 z2] #[.int .i64 p3, .int .i64 q3] y5.heap.size v0 W) ⟨HS5.out.below HKP.out (hy5.trans (hbA.mono hy5.size)), setRow_heap _ _ _ _ _ _ (heap_alloc_new y5 _), hin0.below hbA⟩ ?_
      clear hbA hy5 hin0 HS5 HCP
      generalize y5.heap.size = c
      rintro W6 hs6
      have HC := Lib.hid (fun W (h : Below W6.heap.size W6 W) => hs6.below HKP.out h)
      clear hs6
      obtain ⟨d0, hd0⟩ : ∃ d, cellsB v0 b = d := ⟨_, rfl⟩
      have HD0 := Lib.hid hd0
      rw [hd0]
      clear hd0
      simp only [Act.put]
      refine wp_region_held_drew (S := fun W => Below W6.heap.size W6 W) (by kernel_rfl) (below_drewN' (Below.refl _ _) 1) (fun hS => ?_)
      refine wpAnyH_take (i := 0) (v := .agg cb) rfl (by kernel_rfl) (by kernel_rfl) (by kernel_rfl) (fun _ _ _ h => h) (yieldsIf_row (wanted_none rfl) 27 (.tmp 5) rfl w.heap.size rfl 27 (fun W hW => HX.out W (HC.out W hW).b5) Try.underlying27 rfl HI.out) hS ?_
      simp only [List.getElem_toArray, List.getElem_cons_zero, Act.put, List.setIfInBounds_toArray, List.set_cons_zero, List.set_cons_succ]
      refine wpAnyH_take (i := 1) (v := .agg #[.int .i64 p, .int .i64 q, .int .i64 r, .int .i64 s]) rfl (by kernel_rfl) (by kernel_rfl) (by kernel_rfl) (fun _ _ _ h => h) (yieldsIf_row (wanted_none rfl) 33 (.tmp 6) rfl (w.heap.size + 1) rfl 33 (fun W hW => (HC.out W hW).b5.h1) Try.underlying33 rfl info33) hS ?_
      simp only [List.getElem_toArray, List.getElem_cons_zero, List.getElem_cons_succ, Act.put, List.setIfInBounds_toArray, List.set_cons_zero, List.set_cons_succ]
      refine wpAnyH_take (i := 3) (v := .agg cb) rfl (by kernel_rfl) (by kernel_rfl) (by kernel_rfl) (fun _ _ _ h => h) (yieldsIf_row (wanted_none rfl) 27 (.tmp 5) rfl w.heap.size rfl 27 (fun W hW => HX.out W (HC.out W hW).b5) Try.underlying27 rfl HI.out) hS ?_
      simp only [List.getElem_toArray, List.getElem_cons_zero, List.getElem_cons_succ, Act.put, List.setIfInBounds_toArray, List.set_cons_zero, List.set_cons_succ]
      refine wpAnyH_take (i := 4) (v := .agg #[.int .i64 p1, .int .i64 q1, .int .i64 r1]) rfl (by kernel_rfl) (by kernel_rfl) (by kernel_rfl) (fun _ _ _ h => h) (yieldsIf_row (wanted_none rfl) 45 (.tmp 7) rfl (w.heap.size + 1 + 1) rfl 45 (fun W hW => (HC.out W hW).b5.h2) Try.underlying45 rfl info45) hS ?_
      simp only [List.getElem_toArray, List.getElem_cons_zero, List.getElem_cons_succ, Act.put, List.setIfInBounds_toArray, List.set_cons_zero, List.set_cons_succ]
      refine wpAnyH_take (i := 6) (v := .agg cb) rfl (by kernel_rfl) (by kernel_rfl) (by kernel_rfl) (fun _ _ _ h => h) (yieldsIf_row (wanted_none rfl) 27 (.tmp 5) rfl w.heap.size rfl 27 (fun W hW => HX.out W (HC.out W hW).b5) Try.underlying27 rfl HI.out) hS ?_
      simp only [List.getElem_toArray, List.getElem_cons_zero, List.getElem_cons_succ, Act.put, List.setIfInBounds_toArray, List.set_cons_zero, List.set_cons_succ]
      refine wpAnyH_take (i := 7) (v := .agg #[.int .i64 p2, .int .i64 q2, .int .i64 r2, .int .i64 s2, .int .i64 t2, .int .i64 z2]) rfl (by kernel_rfl) (by kernel_rfl) (by kernel_rfl) (fun _ _ _ h => h) (yieldsIf_row (wanted_none rfl) 37 (.tmp 8) rfl (w.heap.size + 1 + 1 + 1) rfl 37 (fun W hW => (HC.out W hW).b5.h3) Try.underlying37 rfl info37) hS ?_
      simp only [List.getElem_toArray, List.getElem_cons_zero, List.getElem_cons_succ, Act.put, List.setIfInBounds_toArray, List.set_cons_zero, List.set_cons_succ]
      refine wpAnyH_take (i := 9) (v := .agg cb) rfl (by kernel_rfl) (by kernel_rfl) (by kernel_rfl) (fun _ _ _ h => h) (yieldsIf_row (wanted_none rfl) 27 (.tmp 5) rfl w.heap.size rfl 27 (fun W hW => HX.out W (HC.out W hW).b5) Try.underlying27 rfl HI.out) hS ?_
      simp only [List.getElem_toArray, List.getElem_cons_zero, List.getElem_cons_succ, Act.put, List.setIfInBounds_toArray, List.set_cons_zero, List.set_cons_succ]
      refine wpAnyH_take (i := 10) (v := .agg #[.int .i64 p3, .int .i64 q3]) rfl (by kernel_rfl) (by kernel_rfl) (by kernel_rfl) (fun _ _ _ h => h) (yieldsIf_row (wanted_none rfl) 47 (.tmp 9) rfl (w.heap.size + 1 + 1 + 1 + 1) rfl 47 (fun W hW => (HC.out W hW).b5.h4) Try.underlying47 rfl info47) hS ?_
      simp only [List.getElem_toArray, List.getElem_cons_zero, List.getElem_cons_succ, Act.put, List.setIfInBounds_toArray, List.set_cons_zero, List.set_cons_succ]
      refine wpAnyH_inv2 (fun l a W => ∃ k0 k1 k2 k3 a0 a1 a2 a3 : Bool, ∃ u0 u1 u2 u3 x0 x1 x2 x3 : Value, ∃ g0 g1 g2 g3 : Nat, l = L6 k0 k1 k2 k3 a0 a1 a2 a3 ∧ a = ⟨#[.agg cb, .agg #[.int .i64 p, .int .i64 q, .int .i64 r, .int .i64 s], .agg #[.int .i64 p1, .int .i64 q1, .int .i64 r1], .agg #[.int .i64 p2, .int .i64 q2, .int .i64 r2, .int .i64 s2, .int .i64 t2, .int .i64 z2], .agg #[.int .i64 p3, .int .i64 q3], .pointer (some ⟨w.heap.size, 0, none⟩), .pointer (some ⟨w.heap.size + 1, 0, none⟩), .pointer (some ⟨w.heap.size + 1 + 1, 0, none⟩), .pointer (some ⟨w.heap.size + 1 + 1 + 1, 0, none⟩), .pointer (some ⟨w.heap.size + 1 + 1 + 1 + 1, 0, none⟩), .bool false, .pointer (some ⟨c, 0, none⟩), x0, x1, x2, x3, .bool true, .bool false, .agg cb, .bool false, .bool false, .agg cb, .bool true, .bool false, .bool false, .agg cb, .agg d0, .agg cb, .agg #[.int .i64 p, .int .i64 q, .int .i64 r, .int .i64 s], u0, .agg cb, .agg #[.int .i64 p1, .int .i64 q1, .int .i64 r1], u1, .agg cb, .agg #[.int .i64 p2, .int .i64 q2, .int .i64 r2, .int .i64 s2, .int .i64 t2, .int .i64 z2], u2, .agg cb, .agg #[.int .i64 p3, .int .i64 q3], u3, undef, undef, undef, undef, undef, undef, undef, undef, undef, undef, undef, undef, undef, undef, undef, undef, undef, undef, undef, undef, undef, undef, undef, undef, undef, undef, undef, undef, undef, undef, undef, undef, undef, undef, undef, undef, undef, undef, undef, undef, undef, undef, undef, undef, undef, undef, undef, undef, undef], []⟩ ∧ S6 W6 c0 c1 c2 c3 k0 k1 k2 k3 a0 a1 a2 a3 u0 u1 u2 u3 x0 x1 x2 x3 g0 g1 g2 g3 W) ?_ _ _ _ _ ⟨false, false, false, false, false, false, false, false, undef, undef, undef, undef, undef, undef, undef, undef, 0, 0, 0, 0, rfl, rfl, ⟨hS, by simp, by simp, by simp, by simp, by simp, by simp, by simp, by simp, by simp, by simp, by simp, by simp, by simp, by simp, by simp, by simp, by simp⟩⟩ (by decide)
      clear hS
      rintro l a W ⟨k0, k1, k2, k3, a0, a1, a2, a3, u0, u1, u2, u3, x0, x1, x2, x3, g0, g1, g2, g3, rfl, rfl, h⟩
      have HH := Lib.hid h
      clear h
      cases hall : (k3 && a0 && a1 && a2 && a3) with
      | false =>
        refine .inr ⟨(ready_six (by kernel_rfl) k0 k1 k2 k3 a0 a1 a2 a3 HH.out.v1 HH.out.v2 HH.out.v3 hall).1, fun i hi => ?_⟩
        have hal := (ready_six (by kernel_rfl) k0 k1 k2 k3 a0 a1 a2 a3 HH.out.v1 HH.out.v2 HH.out.v3 hall).2 i hi
        clear hi hall
        rcases hal with ⟨rfl, e⟩ | ⟨rfl, e⟩ | ⟨rfl, e⟩ | ⟨rfl, e⟩ | ⟨rfl, e⟩ | ⟨rfl, e⟩ | ⟨rfl, e⟩ | ⟨rfl, e⟩
        · subst e
          refine ⟨rfl, ?_⟩
          refine wpOp_step rfl (fun KK hKK => ?_)
          have HKK := Lib.hid hKK
          clear hKK
          refine wanted_go rfl ?_
          go_wp2_with (go_at_call 23; refine (HSH.out _ (HC.out _ HH.out.lo).b5).mono ?_; rintro e y ⟨⟨vy, rfl, hiy, _, _⟩, hby⟩)
          exact HKK.out _ _ ⟨HH.out.lo.trans (hby.mono HH.out.lo.size), true, k1, k2, k3, a0, a1, a2, a3, _, u1, u2, u3, x0, x1, x2, x3, g0, g1, g2, g3, rfl, rfl, HH.out.got0 hby ⟨vy, rfl, hiy⟩⟩
        · obtain ⟨rfl, rfl⟩ := e
          refine ⟨rfl, ?_⟩
          refine wpOp_step rfl (fun KK hKK => ?_)
          have HKK := Lib.hid hKK
          clear hKK
          refine wanted_go rfl ?_
          go_wp2_with (go_at_call 24; refine (HSS.out _ (HC.out _ HH.out.lo).b5).mono ?_; rintro e y ⟨⟨vy, rfl, hiy, _, _⟩, hby⟩)
          exact HKK.out _ _ ⟨HH.out.lo.trans (hby.mono HH.out.lo.size), true, true, k2, k3, a0, a1, a2, a3, u0, _, u2, u3, x0, x1, x2, x3, g0, g1, g2, g3, rfl, rfl, HH.out.got1 hby ⟨vy, rfl, hiy⟩ rfl⟩
        · obtain ⟨rfl, rfl⟩ := e
          refine ⟨rfl, ?_⟩
          refine wpOp_step rfl (fun KK hKK => ?_)
          have HKK := Lib.hid hKK
          clear hKK
          refine wanted_go rfl ?_
          go_wp2_with (go_at_call 25; refine (HSO.out _ (HC.out _ HH.out.lo).b5).mono ?_; rintro e y ⟨⟨vy, rfl, hiy, _, _⟩, hby⟩)
          exact HKK.out _ _ ⟨HH.out.lo.trans (hby.mono HH.out.lo.size), k0, true, true, k3, a0, a1, a2, a3, u0, u1, _, u3, x0, x1, x2, x3, g0, g1, g2, g3, rfl, rfl, HH.out.got2 hby ⟨vy, rfl, hiy⟩ rfl⟩
        · obtain ⟨rfl, rfl⟩ := e
          refine ⟨rfl, ?_⟩
          refine wpOp_step rfl (fun KK hKK => ?_)
          have HKK := Lib.hid hKK
          clear hKK
          refine wanted_go rfl ?_
          go_wp2_with (go_at_call 26; refine (HSR.out _ (HC.out _ HH.out.lo).b5).mono ?_; rintro e y ⟨⟨vy, rfl, hiy, _, _⟩, hby⟩)
          exact HKK.out _ _ ⟨HH.out.lo.trans (hby.mono HH.out.lo.size), k0, k1, true, true, a0, a1, a2, a3, u0, u1, u2, _, x0, x1, x2, x3, g0, g1, g2, g3, rfl, rfl, HH.out.got3 hby ⟨vy, rfl, hiy⟩ rfl⟩
        · subst e
          refine ⟨rfl, ?_⟩
          refine wpOp_step rfl (fun KK hKK => ?_)
          have HKK := Lib.hid hKK
          clear hKK
          refine wanted_go rfl ?_
          go_wp2
          exact HKK.out _ _ ⟨HH.out.lo.alloc HH.out.lo.size _, k0, k1, k2, k3, true, a1, a2, a3, u0, u1, u2, u3, _, x1, x2, x3, _, g1, g2, g3, rfl, rfl, HH.out.mk0⟩
        · subst e
          refine ⟨rfl, ?_⟩
          refine wpOp_step rfl (fun KK hKK => ?_)
          have HKK := Lib.hid hKK
          clear hKK
          refine wanted_go rfl ?_
          go_wp2
          exact HKK.out _ _ ⟨HH.out.lo.alloc HH.out.lo.size _, k0, k1, k2, k3, a0, true, a2, a3, u0, u1, u2, u3, x0, _, x2, x3, g0, _, g2, g3, rfl, rfl, HH.out.mk1⟩
        · subst e
          refine ⟨rfl, ?_⟩
          refine wpOp_step rfl (fun KK hKK => ?_)
          have HKK := Lib.hid hKK
          clear hKK
          refine wanted_go rfl ?_
          go_wp2
          exact HKK.out _ _ ⟨HH.out.lo.alloc HH.out.lo.size _, k0, k1, k2, k3, a0, a1, true, a3, u0, u1, u2, u3, x0, x1, _, x3, g0, g1, _, g3, rfl, rfl, HH.out.mk2⟩
        · subst e
          refine ⟨rfl, ?_⟩
          refine wpOp_step rfl (fun KK hKK => ?_)
          have HKK := Lib.hid hKK
          clear hKK
          refine wanted_go rfl ?_
          go_wp2
          exact HKK.out _ _ ⟨HH.out.lo.alloc HH.out.lo.size _, k0, k1, k2, k3, a0, a1, a2, true, u0, u1, u2, u3, x0, x1, x2, _, g0, g1, g2, _, rfl, rfl, HH.out.mk3⟩
      | true =>
        refine .inl (fun fuel hf => ?_)
        simp only [Bool.and_eq_true] at hall
        obtain ⟨⟨⟨⟨rfl, rfl⟩, rfl⟩, rfl⟩, rfl⟩ := hall
        obtain rfl := HH.out.v3 rfl
        obtain rfl := HH.out.v2 rfl
        obtain rfl := HH.out.v1 rfl
        obtain ⟨m, rfl⟩ : ∃ m, fuel = m + 4 := ⟨fuel - 4, by have h4 : (L6 true true true true true true true true).toList.count false = 4 := (by decide); omega⟩
        clear hf
        obtain ⟨v1, rfl, hi0⟩ := HH.out.r0 rfl
        obtain rfl := (HH.out.p0 rfl).is
        obtain ⟨v2, rfl, hi1⟩ := HH.out.r1 rfl
        obtain rfl := (HH.out.p1 rfl).is
        obtain ⟨v3, rfl, hi2⟩ := HH.out.r2 rfl
        obtain rfl := (HH.out.p2 rfl).is
        obtain ⟨v4, rfl, hi3⟩ := HH.out.r3 rfl
        obtain rfl := (HH.out.p3 rfl).is
        have hE := S6.done HH.out HKP.out HC.out KO.out.1 KO.out.2.1 KO.out.2.2.1 KO.out.2.2.2 hi0 hi1 hi2 hi3
        unfold L6
        refine wpAnyH_ready (rs := [16]) (by kernel_rfl) (by simp) ?_
        refine AllReadyH.cons rfl (fun KK0 hKK0 => ?_) AllReadyH.nil
        refine wanted_go rfl ?_
        simp only [List.getElem_toArray, List.getElem_cons_zero, List.getElem_cons_succ]
        refine wp_store_row 27 (.tmp 12) (.tmp 29) rfl g0 (cellsB v1 c0) rfl rfl 27 #[.slice none 0 0, .slice none 0 0, .slice none 0 0, .slice none 0 0, .int .i64 0] ((HH.out.p0 rfl).hp) info27 rfl (by simp [cellsB, Value.oneCell']) ?_
        refine hKK0.out _ _ (below_rowB HH.out.lo (HH.out.p0 rfl).ge) (fun _ => ?_)
        refine wpAnyH_ready (rs := [17]) (by kernel_rfl) (by simp) ?_
        refine AllReadyH.cons rfl (fun KK1 hKK1 => ?_) AllReadyH.nil
        refine wanted_go rfl ?_
        simp only [List.getElem_toArray, List.getElem_cons_zero, List.getElem_cons_succ]
        refine wp_store_row 27 (.tmp 13) (.tmp 32) rfl g1 (cellsB v2 c1) rfl rfl 27 #[.slice none 0 0, .slice none 0 0, .slice none 0 0, .slice none 0 0, .int .i64 0] (((setRow_ne _ (HH.out.n01 rfl rfl).symm).trans ((HH.out.p1 rfl).hp))) info27 rfl (by simp [cellsB, Value.oneCell']) ?_
        refine hKK1.out _ _ (below_rowB (below_rowB HH.out.lo (HH.out.p0 rfl).ge) (HH.out.p1 rfl).ge) (fun _ => ?_)
        refine wpAnyH_ready (rs := [18]) (by kernel_rfl) (by simp) ?_
        refine AllReadyH.cons rfl (fun KK2 hKK2 => ?_) AllReadyH.nil
        refine wanted_go rfl ?_
        simp only [List.getElem_toArray, List.getElem_cons_zero, List.getElem_cons_succ]
        refine wp_store_row 27 (.tmp 14) (.tmp 35) rfl g2 (cellsB v3 c2) rfl rfl 27 #[.slice none 0 0, .slice none 0 0, .slice none 0 0, .slice none 0 0, .int .i64 0] (((setRow_ne _ (HH.out.n12 rfl rfl).symm).trans (((setRow_ne _ (HH.out.n02 rfl rfl).symm).trans ((HH.out.p2 rfl).hp))))) info27 rfl (by simp [cellsB, Value.oneCell']) ?_
        refine hKK2.out _ _ (below_rowB (below_rowB (below_rowB HH.out.lo (HH.out.p0 rfl).ge) (HH.out.p1 rfl).ge) (HH.out.p2 rfl).ge) (fun _ => ?_)
        refine wpAnyH_ready (rs := [19]) (by kernel_rfl) (by simp) ?_
        refine AllReadyH.cons rfl (fun KK3 hKK3 => ?_) AllReadyH.nil
        refine wanted_go rfl ?_
        simp only [List.getElem_toArray, List.getElem_cons_zero, List.getElem_cons_succ]
        refine wp_store_row 27 (.tmp 15) (.tmp 38) rfl g3 (cellsB v4 c3) rfl rfl 27 #[.slice none 0 0, .slice none 0 0, .slice none 0 0, .slice none 0 0, .int .i64 0] (((setRow_ne _ (HH.out.n23 rfl rfl).symm).trans (((setRow_ne _ (HH.out.n13 rfl rfl).symm).trans (((setRow_ne _ (HH.out.n03 rfl rfl).symm).trans ((HH.out.p3 rfl).hp))))))) info27 rfl (by simp [cellsB, Value.oneCell']) ?_
        refine hKK3.out _ _ (below_rowB (below_rowB (below_rowB (below_rowB HH.out.lo (HH.out.p0 rfl).ge) (HH.out.p1 rfl).ge) (HH.out.p2 rfl).ge) (HH.out.p3 rfl).ge) (fun _ => ?_)
        refine wpAnyH_done (by kernel_rfl) ?_ _
        go_upto_region 7 with (fail)
        refine at_world (Φ := fun W => E7 K w v b #[.int .i64 p, .int .i64 q, .int .i64 r, .int .i64 s] #[.int .i64 p1, .int .i64 q1, .int .i64 r1] #[.int .i64 p2, .int .i64 q2, .int .i64 r2, .int .i64 s2, .int .i64 t2, .int .i64 z2] #[.int .i64 p3, .int .i64 q3] c v0 g0 g1 g2 g3 v1 v2 v3 v4 c0 c1 c2 c3 W) hE ?_
        clear hE HC hi0 hi1 hi2 hi3 HH HSH HSS HSO HSR
        rintro W7 hs7
        have HS7 := Lib.hid (hs7.below HKP.out (below_drews 1))
        clear hs7
        simp only [Act.put]
        refine wp_region_held_drew (S := fun W => E7 K w v b #[.int .i64 p, .int .i64 q, .int .i64 r, .int .i64 s] #[.int .i64 p1, .int .i64 q1, .int .i64 r1] #[.int .i64 p2, .int .i64 q2, .int .i64 r2, .int .i64 s2, .int .i64 t2, .int .i64 z2] #[.int .i64 p3, .int .i64 q3] c v0 g0 g1 g2 g3 v1 v2 v3 v4 c0 c1 c2 c3 W) (by kernel_rfl) (HS7.out) (fun hS => ?_)
        refine wpAnyH_take (i := 0) (v := .agg (cellsB v1 c0)) rfl (by kernel_rfl) (by kernel_rfl) (by kernel_rfl) (fun _ _ _ h => h) (yieldsIf_row (wanted_none rfl) 27 (.tmp 12) rfl g0 rfl 27 (fun W hW => hW.x0) Try.underlying27 rfl info27) hS ?_
        simp only [List.getElem_toArray, List.getElem_cons_zero, Act.put, List.setIfInBounds_toArray, List.set_cons_zero, List.set_cons_succ]
        refine wpAnyH_take (i := 1) (v := .agg cb) rfl (by kernel_rfl) (by kernel_rfl) (by kernel_rfl) (fun _ _ _ h => h) (yieldsIf_row (wanted_none rfl) 27 (.tmp 5) rfl w.heap.size rfl 27 (fun W hW => HX.out W hW.c5.b5) Try.underlying27 rfl HI.out) hS ?_
        simp only [List.getElem_toArray, List.getElem_cons_zero, List.getElem_cons_succ, Act.put, List.setIfInBounds_toArray, List.set_cons_zero, List.set_cons_succ]
        refine wpAnyH_take (i := 2) (v := .agg #[.int .i64 p, .int .i64 q, .int .i64 r, .int .i64 s]) rfl (by kernel_rfl) (by kernel_rfl) (by kernel_rfl) (fun _ _ _ h => h) (yieldsIf_row (wanted_none rfl) 33 (.tmp 6) rfl (w.heap.size + 1) rfl 33 (fun W hW => hW.c5.b5.h1) Try.underlying33 rfl info33) hS ?_
        simp only [List.getElem_toArray, List.getElem_cons_zero, List.getElem_cons_succ, Act.put, List.setIfInBounds_toArray, List.set_cons_zero, List.set_cons_succ]
        refine wpAnyH_ready (rs := [3]) (by kernel_rfl) (by simp) ?_
        refine AllReadyH.cons rfl (fun K1 hK1 => ?_) AllReadyH.nil
        refine wanted_go rfl ?_
        simp only [List.getElem_toArray, List.getElem_cons_zero, List.getElem_cons_succ]
        go_wp2_with (go_at_call 27; refine (RSH.out _ hS.c5.b5).mono ?_; rintro e y0 ⟨⟨zz0, rfl, hz0⟩, hy0⟩)
        refine hK1.out _ _ (hS.below HKP.out hy0) (fun hS1 => ?_)
        refine wpAnyH_ready (rs := [4]) (by kernel_rfl) (by simp) ?_
        refine AllReadyH.cons rfl (fun K2 hK2 => ?_) AllReadyH.nil
        refine wanted_go rfl ?_
        simp only [List.getElem_toArray, List.getElem_cons_zero, List.getElem_cons_succ]
        go_wp2_with (go_at_call 12; refine (same_self v1 zz0 c0 _ hS1.i0 hz0 KO.out.1).mono ?_; rintro e yy0 ⟨rfl, hyy0⟩)
        refine hK2.out _ _ (hS1.below HKP.out hyy0) (fun hS2 => ?_)
        refine wpAnyH_take (i := 5) (v := .bool false) rfl (by kernel_rfl) (by kernel_rfl) (by kernel_rfl) (fun _ _ _ h => h) (Or.inl ⟨by simp [Region.wanted], fun W _ => by go_simp⟩) hS2 ?_
        simp only [List.getElem_toArray, List.getElem_cons_zero, List.getElem_cons_succ, Act.put, List.setIfInBounds_toArray, List.set_cons_zero, List.set_cons_succ]
        refine wpAnyH_take (i := 6) (v := .bool false) rfl (by kernel_rfl) (by kernel_rfl) (by kernel_rfl) (fun _ _ _ h => h) (Or.inl ⟨by simp [Region.wanted], fun W _ => by go_simp⟩) hS2 ?_
        simp only [List.getElem_toArray, List.getElem_cons_zero, List.getElem_cons_succ, Act.put, List.setIfInBounds_toArray, List.set_cons_zero, List.set_cons_succ]
        refine wpAnyH_take (i := 7) (v := .agg (cellsB v2 c1)) rfl (by kernel_rfl) (by kernel_rfl) (by kernel_rfl) (fun _ _ _ h => h) (yieldsIf_row (by rfl) 27 (.tmp 13) rfl g1 rfl 27 (fun W hW => hW.x1) Try.underlying27 rfl info27) hS2 ?_
        simp only [List.getElem_toArray, List.getElem_cons_zero, List.getElem_cons_succ, Act.put, List.setIfInBounds_toArray, List.set_cons_zero, List.set_cons_succ]
        refine wpAnyH_take (i := 8) (v := .agg cb) rfl (by kernel_rfl) (by kernel_rfl) (by kernel_rfl) (fun _ _ _ h => h) (yieldsIf_row (by rfl) 27 (.tmp 5) rfl w.heap.size rfl 27 (fun W hW => HX.out W hW.c5.b5) Try.underlying27 rfl HI.out) hS2 ?_
        simp only [List.getElem_toArray, List.getElem_cons_zero, List.getElem_cons_succ, Act.put, List.setIfInBounds_toArray, List.set_cons_zero, List.set_cons_succ]
        refine wpAnyH_take (i := 9) (v := .agg #[.int .i64 p1, .int .i64 q1, .int .i64 r1]) rfl (by kernel_rfl) (by kernel_rfl) (by kernel_rfl) (fun _ _ _ h => h) (yieldsIf_row (by rfl) 45 (.tmp 7) rfl (w.heap.size + 1 + 1) rfl 45 (fun W hW => hW.c5.b5.h2) Try.underlying45 rfl info45) hS2 ?_
        simp only [List.getElem_toArray, List.getElem_cons_zero, List.getElem_cons_succ, Act.put, List.setIfInBounds_toArray, List.set_cons_zero, List.set_cons_succ]
        refine wpAnyH_ready (rs := [10]) (by kernel_rfl) (by simp) ?_
        refine AllReadyH.cons rfl (fun K3 hK3 => ?_) AllReadyH.nil
        rw [if_pos (by rfl)]
        simp only [List.getElem_toArray, List.getElem_cons_zero, List.getElem_cons_succ]
        go_wp2_with (go_at_call 28; refine (RSS.out _ hS2.c5.b5).mono ?_; rintro e y1 ⟨⟨zz1, rfl, hz1⟩, hy1⟩)
        refine hK3.out _ _ (hS2.below HKP.out hy1) (fun hS3 => ?_)
        refine wpAnyH_ready (rs := [11]) (by kernel_rfl) (by simp) ?_
        refine AllReadyH.cons rfl (fun K4 hK4 => ?_) AllReadyH.nil
        rw [if_pos (by rfl)]
        simp only [List.getElem_toArray, List.getElem_cons_zero, List.getElem_cons_succ]
        go_wp2_with (go_at_call 12; refine (same_self v2 zz1 c1 _ hS3.i1 hz1 KO.out.2.1).mono ?_; rintro e yy1 ⟨rfl, hyy1⟩)
        refine hK4.out _ _ (hS3.below HKP.out hyy1) (fun hS4 => ?_)
        refine wpAnyH_take (i := 12) (v := .bool false) rfl (by kernel_rfl) (by kernel_rfl) (by kernel_rfl) (fun _ _ _ h => h) (Or.inl ⟨by rfl, fun W _ => by go_simp⟩) hS4 ?_
        simp only [List.getElem_toArray, List.getElem_cons_zero, List.getElem_cons_succ, Act.put, List.setIfInBounds_toArray, List.set_cons_zero, List.set_cons_succ]
        refine wpAnyH_take (i := 13) (v := .bool false) rfl (by kernel_rfl) (by kernel_rfl) (by kernel_rfl) (fun _ _ _ h => h) (Or.inl ⟨by simp [Region.wanted], fun W _ => by go_simp⟩) hS4 ?_
        simp only [List.getElem_toArray, List.getElem_cons_zero, List.getElem_cons_succ, Act.put, List.setIfInBounds_toArray, List.set_cons_zero, List.set_cons_succ]
        refine wpAnyH_take (i := 14) (v := .bool false) rfl (by kernel_rfl) (by kernel_rfl) (by kernel_rfl) (fun _ _ _ h => h) (Or.inl ⟨by simp [Region.wanted], fun W _ => by go_simp⟩) hS4 ?_
        simp only [List.getElem_toArray, List.getElem_cons_zero, List.getElem_cons_succ, Act.put, List.setIfInBounds_toArray, List.set_cons_zero, List.set_cons_succ]
        refine wpAnyH_take (i := 15) (v := .agg (cellsB v3 c2)) rfl (by kernel_rfl) (by kernel_rfl) (by kernel_rfl) (fun _ _ _ h => h) (yieldsIf_row (by rfl) 27 (.tmp 14) rfl g2 rfl 27 (fun W hW => hW.x2) Try.underlying27 rfl info27) hS4 ?_
        simp only [List.getElem_toArray, List.getElem_cons_zero, List.getElem_cons_succ, Act.put, List.setIfInBounds_toArray, List.set_cons_zero, List.set_cons_succ]
        refine wpAnyH_take (i := 16) (v := .agg cb) rfl (by kernel_rfl) (by kernel_rfl) (by kernel_rfl) (fun _ _ _ h => h) (yieldsIf_row (by rfl) 27 (.tmp 5) rfl w.heap.size rfl 27 (fun W hW => HX.out W hW.c5.b5) Try.underlying27 rfl HI.out) hS4 ?_
        simp only [List.getElem_toArray, List.getElem_cons_zero, List.getElem_cons_succ, Act.put, List.setIfInBounds_toArray, List.set_cons_zero, List.set_cons_succ]
        refine wpAnyH_take (i := 17) (v := .agg #[.int .i64 p2, .int .i64 q2, .int .i64 r2, .int .i64 s2, .int .i64 t2, .int .i64 z2]) rfl (by kernel_rfl) (by kernel_rfl) (by kernel_rfl) (fun _ _ _ h => h) (yieldsIf_row (by rfl) 37 (.tmp 8) rfl (w.heap.size + 1 + 1 + 1) rfl 37 (fun W hW => hW.c5.b5.h3) Try.underlying37 rfl info37) hS4 ?_
        simp only [List.getElem_toArray, List.getElem_cons_zero, List.getElem_cons_succ, Act.put, List.setIfInBounds_toArray, List.set_cons_zero, List.set_cons_succ]
        refine wpAnyH_ready (rs := [18]) (by kernel_rfl) (by simp) ?_
        refine AllReadyH.cons rfl (fun K5 hK5 => ?_) AllReadyH.nil
        rw [if_pos (by rfl)]
        simp only [List.getElem_toArray, List.getElem_cons_zero, List.getElem_cons_succ]
        go_wp2_with (go_at_call 29; refine (RSO.out _ hS4.c5.b5).mono ?_; rintro e y2 ⟨⟨zz2, rfl, hz2⟩, hy2⟩)
        refine hK5.out _ _ (hS4.below HKP.out hy2) (fun hS5 => ?_)
        refine wpAnyH_ready (rs := [19]) (by kernel_rfl) (by simp) ?_
        refine AllReadyH.cons rfl (fun K6 hK6 => ?_) AllReadyH.nil
        rw [if_pos (by rfl)]
        simp only [List.getElem_toArray, List.getElem_cons_zero, List.getElem_cons_succ]
        go_wp2_with (go_at_call 12; refine (same_self v3 zz2 c2 _ hS5.i2 hz2 KO.out.2.2.1).mono ?_; rintro e yy2 ⟨rfl, hyy2⟩)
        refine hK6.out _ _ (hS5.below HKP.out hyy2) (fun hS6 => ?_)
        refine wpAnyH_take (i := 20) (v := .bool false) rfl (by kernel_rfl) (by kernel_rfl) (by kernel_rfl) (fun _ _ _ h => h) (Or.inl ⟨by rfl, fun W _ => by go_simp⟩) hS6 ?_
        simp only [List.getElem_toArray, List.getElem_cons_zero, List.getElem_cons_succ, Act.put, List.setIfInBounds_toArray, List.set_cons_zero, List.set_cons_succ]
        refine wpAnyH_take (i := 21) (v := .bool false) rfl (by kernel_rfl) (by kernel_rfl) (by kernel_rfl) (fun _ _ _ h => h) (Or.inl ⟨by simp [Region.wanted], fun W _ => by go_simp⟩) hS6 ?_
        simp only [List.getElem_toArray, List.getElem_cons_zero, List.getElem_cons_succ, Act.put, List.setIfInBounds_toArray, List.set_cons_zero, List.set_cons_succ]
        refine wpAnyH_take (i := 22) (v := .bool false) rfl (by kernel_rfl) (by kernel_rfl) (by kernel_rfl) (fun _ _ _ h => h) (Or.inl ⟨by simp [Region.wanted], fun W _ => by go_simp⟩) hS6 ?_
        simp only [List.getElem_toArray, List.getElem_cons_zero, List.getElem_cons_succ, Act.put, List.setIfInBounds_toArray, List.set_cons_zero, List.set_cons_succ]
        refine wpAnyH_take (i := 23) (v := .agg (cellsB v4 c3)) rfl (by kernel_rfl) (by kernel_rfl) (by kernel_rfl) (fun _ _ _ h => h) (yieldsIf_row (by rfl) 27 (.tmp 15) rfl g3 rfl 27 (fun W hW => hW.x3) Try.underlying27 rfl info27) hS6 ?_
        simp only [List.getElem_toArray, List.getElem_cons_zero, List.getElem_cons_succ, Act.put, List.setIfInBounds_toArray, List.set_cons_zero, List.set_cons_succ]
        refine wpAnyH_take (i := 24) (v := .agg cb) rfl (by kernel_rfl) (by kernel_rfl) (by kernel_rfl) (fun _ _ _ h => h) (yieldsIf_row (by rfl) 27 (.tmp 5) rfl w.heap.size rfl 27 (fun W hW => HX.out W hW.c5.b5) Try.underlying27 rfl HI.out) hS6 ?_
        simp only [List.getElem_toArray, List.getElem_cons_zero, List.getElem_cons_succ, Act.put, List.setIfInBounds_toArray, List.set_cons_zero, List.set_cons_succ]
        refine wpAnyH_take (i := 25) (v := .agg #[.int .i64 p3, .int .i64 q3]) rfl (by kernel_rfl) (by kernel_rfl) (by kernel_rfl) (fun _ _ _ h => h) (yieldsIf_row (by rfl) 47 (.tmp 9) rfl (w.heap.size + 1 + 1 + 1 + 1) rfl 47 (fun W hW => hW.c5.b5.h4) Try.underlying47 rfl info47) hS6 ?_
        simp only [List.getElem_toArray, List.getElem_cons_zero, List.getElem_cons_succ, Act.put, List.setIfInBounds_toArray, List.set_cons_zero, List.set_cons_succ]
        refine wpAnyH_ready (rs := [26]) (by kernel_rfl) (by simp) ?_
        refine AllReadyH.cons rfl (fun K7 hK7 => ?_) AllReadyH.nil
        rw [if_pos (by rfl)]
        simp only [List.getElem_toArray, List.getElem_cons_zero, List.getElem_cons_succ]
        go_wp2_with (go_at_call 30; refine (RSR.out _ hS6.c5.b5).mono ?_; rintro e y3 ⟨⟨zz3, rfl, hz3⟩, hy3⟩)
        refine hK7.out _ _ (hS6.below HKP.out hy3) (fun hS7 => ?_)
        refine wpAnyH_ready (rs := [27]) (by kernel_rfl) (by simp) ?_
        refine AllReadyH.cons rfl (fun K8 hK8 => ?_) AllReadyH.nil
        rw [if_pos (by rfl)]
        simp only [List.getElem_toArray, List.getElem_cons_zero, List.getElem_cons_succ]
        go_wp2_with (go_at_call 12; refine (same_self v4 zz3 c3 _ hS7.i3 hz3 KO.out.2.2.2).mono ?_; rintro e yy3 ⟨rfl, hyy3⟩)
        refine hK8.out _ _ (hS7.below HKP.out hyy3) (fun hS8 => ?_)
        refine wpAnyH_take (i := 28) (v := .bool false) rfl (by kernel_rfl) (by kernel_rfl) (by kernel_rfl) (fun _ _ _ h => h) (Or.inl ⟨by rfl, fun W _ => by go_simp⟩) hS8 ?_
        simp only [List.getElem_toArray, List.getElem_cons_zero, List.getElem_cons_succ, Act.put, List.setIfInBounds_toArray, List.set_cons_zero, List.set_cons_succ]
        refine wpAnyH_take (i := 29) (v := .bool false) rfl (by kernel_rfl) (by kernel_rfl) (by kernel_rfl) (fun _ _ _ h => h) (Or.inl ⟨by simp [Region.wanted], fun W _ => by go_simp⟩) hS8 ?_
        simp only [List.getElem_toArray, List.getElem_cons_zero, List.getElem_cons_succ, Act.put, List.setIfInBounds_toArray, List.set_cons_zero, List.set_cons_succ]
        refine wpAnyH_done (by kernel_rfl) ?_ _
        go_upto_region 9 with (fail)
        refine at_world (Φ := fun W => E7 K w v b #[.int .i64 p, .int .i64 q, .int .i64 r, .int .i64 s] #[.int .i64 p1, .int .i64 q1, .int .i64 r1] #[.int .i64 p2, .int .i64 q2, .int .i64 r2, .int .i64 s2, .int .i64 t2, .int .i64 z2] #[.int .i64 p3, .int .i64 q3] c v0 g0 g1 g2 g3 v1 v2 v3 v4 c0 c1 c2 c3 W) hS8 ?_
        clear hS hS1 hS2 hS3 hS4 hS5 hS6 hS7 hS8 HS7 RSH RSS RSO RSR
        rintro W9 hs9
        have E0 := Lib.hid hs9
        clear hs9
        have RC2 := Lib.hid (fun W (h : E7 K w v b #[.int .i64 p, .int .i64 q, .int .i64 r, .int .i64 s] #[.int .i64 p1, .int .i64 q1, .int .i64 r1] #[.int .i64 p2, .int .i64 q2, .int .i64 r2, .int .i64 s2, .int .i64 t2, .int .i64 z2] #[.int .i64 p3, .int .i64 q3] c v0 g0 g1 g2 g3 v1 v2 v3 v4 c0 c1 c2 c3 W) => RC.out W v0 h.c5.b5 h.c5.bin)
        rw [HD0.out] at RC2
        clear RC
        have HD1 := Lib.hid (fun W (h : E7 K w v b #[.int .i64 p, .int .i64 q, .int .i64 r, .int .i64 s] #[.int .i64 p1, .int .i64 q1, .int .i64 r1] #[.int .i64 p2, .int .i64 q2, .int .i64 r2, .int .i64 s2, .int .i64 t2, .int .i64 z2] #[.int .i64 p3, .int .i64 q3] c v0 g0 g1 g2 g3 v1 v2 v3 v4 c0 c1 c2 c3 W) => (show W.heap[c]? = some (.cells (cellsB v0 b) 27 (0, 0)) from h.c5.box))
        rw [HD0.out] at HD1
        have HI0 := Lib.hid (show (Try.prog.info? 27).map (·.size) = some d0.size by rw [← HD0.out]; exact info27)
        go_wp2_with (first | (go_at_call 12; refine (RC2.out _ E4.out).mono ?_; rintro e y5 ⟨rfl, hy⟩; have E5 := Lib.hid (E4.out.below HKP.out hy); clear hy) | ((with_reducible refine atLoad (ty := 27) (x := .tmp 11) rfl ?_); refine wpList_load_rowG (by rfl) 27 (.tmp 11) rfl c rfl 27 d0 (0, 0) _ (HD1.out _ E4.out) Try.underlying27 rfl HI0.out ?_) | ((with_reducible refine atLoad (ty := 27) (x := .tmp 5) rfl ?_); refine wpList_load_rowG (by rfl) 27 (.tmp 5) rfl w.heap.size rfl 27 cb (0, 0) _ (HX.out _ E4.out.c5.b5) Try.underlying27 rfl HI.out ?_) | (go_at_call 14; refine (rise_self v4 c3 _ E3.out.i3 KO.out.2.2.2 KR.out.2.2.2).mono ?_; rintro e y ⟨rfl, hy⟩; have E4 := Lib.hid (E3.out.below HKP.out hy); clear hy) | ((with_reducible refine atLoad (ty := 27) (x := .tmp 15) rfl ?_); refine wpList_load_rowG (by rfl) 27 (.tmp 15) rfl g3 rfl 27 (cellsB v4 c3) (0, 0) _ (E3.out.x3) Try.underlying27 rfl info27 ?_) | (go_at_call 14; refine (rise_self v3 c2 _ E2.out.i2 KO.out.2.2.1 KR.out.2.2.1).mono ?_; rintro e y ⟨rfl, hy⟩; have E3 := Lib.hid (E2.out.below HKP.out hy); clear hy) | ((with_reducible refine atLoad (ty := 27) (x := .tmp 14) rfl ?_); refine wpList_load_rowG (by rfl) 27 (.tmp 14) rfl g2 rfl 27 (cellsB v3 c2) (0, 0) _ (E2.out.x2) Try.underlying27 rfl info27 ?_) | (go_at_call 14; refine (rise_self v2 c1 _ E1.out.i1 KO.out.2.1 KR.out.2.1).mono ?_; rintro e y ⟨rfl, hy⟩; have E2 := Lib.hid (E1.out.below HKP.out hy); clear hy) | ((with_reducible refine atLoad (ty := 27) (x := .tmp 13) rfl ?_); refine wpList_load_rowG (by rfl) 27 (.tmp 13) rfl g1 rfl 27 (cellsB v2 c1) (0, 0) _ (E1.out.x1) Try.underlying27 rfl info27 ?_) | (go_at_call 14; refine (rise_self v1 c0 _ E0.out.i0 KO.out.1 KR.out.1).mono ?_; rintro e y ⟨rfl, hy⟩; have E1 := Lib.hid (E0.out.below HKP.out hy); clear hy) | ((with_reducible refine atLoad (ty := 27) (x := .tmp 12) rfl ?_); refine wpList_load_row rfl 27 (.tmp 12) rfl g0 rfl 27 (cellsB v1 c0) (0, 0) _ (E0.out.x0) Try.underlying27 rfl info27 ?_))
        go_ret
        exact ⟨rfl, E5.out.c5.b5.bs.lo⟩
end Go.Proofs.Ytofmkbijhmbbcaa
