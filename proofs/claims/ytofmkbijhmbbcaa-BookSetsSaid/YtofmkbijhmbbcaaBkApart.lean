/- The walk of BookApart. -/
import Derived.Test.YtofmkbijhmbbcaaBkApartA
namespace Go.Proofs.Ytofmkbijhmbbcaa
open Go.RowKit Base Base2

structure B3 (K : World → Prop) (w : World) (v : Slots) (b : BookT) (hc rc : Array Value) (W : World) : Prop where
  bs : Bs K w w.heap.size v b W
  h1 : W.heap[w.heap.size + 1]? = some (.cells hc 33 (0, 0))
  h2 : W.heap[w.heap.size + 1 + 1]? = some (.cells rc 47 (0, 0))
theorem B3.below {K : World → Prop} (hK : ∀ (W W' : World), K W → Below W.heap.size W W' → K W') {w : World} {v : Slots} {b : BookT} {hc rc : Array Value} {W W' : World} (h : B3 K w v b hc rc W) (hb : Below W.heap.size W W') : B3 K w v b hc rc W' :=
  ⟨h.bs.below hK hb, blk_below h.h1 hb, blk_below h.h2 hb⟩
/-- Two calls and one box: or two boxes. -/
def L5 (k0 k1 a0 a1 : Bool) : Array Bool := #[true, k0, true, k1, a0, a1, false, false]
def ok5 (k0 k1 a0 a1 : Bool) (i : Nat) : Bool := (i == 1 && !k0) || (i == 3 && k0 && !k1) || (i == 4 && !a0) || (i == 5 && !a1)
def test5 (ops : Array Oper) : Bool := allB fun k0 => allB fun k1 => allB fun a0 => allB fun a1 => (!(!k1 || k0)) || (k1 && a0 && a1) || ((!(Region.ready .any ops (L5 k0 k1 a0 a1)).isEmpty) && (Region.ready .any ops (L5 k0 k1 a0 a1)).all (ok5 k0 k1 a0 a1))
theorem ready_five {ops : Array Oper} (h : test5 ops = true) (k0 k1 a0 a1 : Bool) (v1 : k1 = true → k0 = true) (hne : (k1 && a0 && a1) = false) :
    Region.ready .any ops (L5 k0 k1 a0 a1) ≠ [] ∧ ∀ i ∈ Region.ready .any ops (L5 k0 k1 a0 a1), (i = 1 ∧ k0 = false) ∨ (i = 3 ∧ k0 = true ∧ k1 = false) ∨ (i = 4 ∧ a0 = false) ∨ (i = 5 ∧ a1 = false) := by
  have h := allB_at (allB_at (allB_at (allB_at h k0) k1) a0) a1
  rw [hne, Bool.or_false] at h
  have hv : (!k1 || k0) = true := by cases k1 <;> simp_all
  rw [hv, Bool.not_true, Bool.false_or, Bool.and_eq_true] at h
  refine ⟨fun e => by rw [e] at h; simp at h, fun i hi => ?_⟩
  have h2 := List.all_eq_true.1 h.2 i hi
  simp only [ok5, Bool.or_eq_true, Bool.and_eq_true, beq_iff_eq, Bool.not_eq_true'] at h2
  rcases h2 with ((h | h) | h) | h
  · exact .inl h
  · exact .inr (.inl ⟨h.1.1, h.1.2, h.2⟩)
  · exact .inr (.inr (.inl h))
  · exact .inr (.inr (.inr h))
structure S5 (W5 : World) (b : BookT) (v0 v1 : Slots) (bc : Nat) (k0 k1 a0 a1 : Bool) (u0 u1 x0 x1 : Value) (g0 g1 : Nat) (W : World) : Prop where
  lo : Below W5.heap.size W5 W
  r0 : k0 = true → u0 = .agg (cellsB v0 b) ∧ BookIn W v0 b
  r1 : k1 = true → u1 = .agg (cellsB v1 b) ∧ BookIn W v1 b ∧ BookNew bc W v1 b ∧ BookLt bc v0 b ∧ W5.heap.size ≤ bc
  p0 : a0 = true → NewB W5.heap.size W x0 g0
  p1 : a1 = true → NewB W5.heap.size W x1 g1
  n01 : a0 = true → a1 = true → g0 ≠ g1
  v1 : k1 = true → k0 = true
theorem S5.got0 {W5 : World} {b : BookT} {v0 v1 z : Slots} {bc : Nat} {k1 a0 a1 : Bool} {u0 u1 x0 x1 : Value} {g0 g1 : Nat} {W W' : World} (h : S5 W5 b v0 v1 bc false k1 a0 a1 u0 u1 x0 x1 g0 g1 W) (hb : Below W.heap.size W W') (hn : BookIn W' z b) : S5 W5 b z v1 bc true false a0 a1 (.agg (cellsB z b)) u1 x0 x1 g0 g1 W' :=
  ⟨h.lo.trans (hb.mono h.lo.size), fun _ => ⟨rfl, hn⟩, fun e => by simp at e, fun e => (h.p0 e).below hb, fun e => (h.p1 e).below hb, h.n01, fun e => by simp at e⟩
theorem S5.got1 {W5 : World} {b : BookT} {v0 v1 z : Slots} {bc : Nat} {a0 a1 : Bool} {u0 u1 x0 x1 : Value} {g0 g1 : Nat} {W W' : World} (h : S5 W5 b v0 v1 bc true false a0 a1 u0 u1 x0 x1 g0 g1 W) (hb : Below W.heap.size W W') (hn : BookIn W' z b) (hw : BookNew W.heap.size W' z b) : S5 W5 b v0 z W.heap.size true true a0 a1 u0 (.agg (cellsB z b)) x0 x1 g0 g1 W' :=
  ⟨h.lo.trans (hb.mono h.lo.size), fun e => ⟨(h.r0 e).1, (h.r0 e).2.below hb⟩, fun _ => ⟨rfl, hn, hw, book_lt (h.r0 rfl).2, h.lo.size⟩, fun e => (h.p0 e).below hb, fun e => (h.p1 e).below hb, h.n01, fun _ => rfl⟩
theorem S5.mk0 {W5 : World} {b : BookT} {v0 v1 : Slots} {bc : Nat} {k0 k1 a0 a1 : Bool} {u0 u1 x0 x1 : Value} {g0 g1 : Nat} {W : World} (h : S5 W5 b v0 v1 bc k0 k1 a0 a1 u0 u1 x0 x1 g0 g1 W) : S5 W5 b v0 v1 bc k0 k1 true a1 u0 u1 (.pointer (some ⟨W.heap.size, 0, none⟩)) x1 W.heap.size g1 (W.alloc (.cells #[.slice none 0 0, .slice none 0 0, .slice none 0 0, .slice none 0 0, .int .i64 0] 27)) :=
  have hb : Below W.heap.size W (W.alloc (.cells #[.slice none 0 0, .slice none 0 0, .slice none 0 0, .slice none 0 0, .int .i64 0] 27)) := (Below.refl _ _).alloc (Nat.le_refl _) _
  ⟨h.lo.alloc h.lo.size _, fun e => ⟨(h.r0 e).1, (h.r0 e).2.below hb⟩, fun e => ⟨(h.r1 e).1, (h.r1 e).2.1.below hb, (h.r1 e).2.2.1.below (h.r1 e).2.1 hb, (h.r1 e).2.2.2⟩, fun _ => ⟨rfl, h.lo.size, heap_alloc_new W _⟩, fun e => (h.p1 e).below hb, fun _ e => by have := (h.p1 e).lt; omega, h.v1⟩
theorem S5.mk1 {W5 : World} {b : BookT} {v0 v1 : Slots} {bc : Nat} {k0 k1 a0 a1 : Bool} {u0 u1 x0 x1 : Value} {g0 g1 : Nat} {W : World} (h : S5 W5 b v0 v1 bc k0 k1 a0 a1 u0 u1 x0 x1 g0 g1 W) : S5 W5 b v0 v1 bc k0 k1 a0 true u0 u1 x0 (.pointer (some ⟨W.heap.size, 0, none⟩)) g0 W.heap.size (W.alloc (.cells #[.slice none 0 0, .slice none 0 0, .slice none 0 0, .slice none 0 0, .int .i64 0] 27)) :=
  have hb : Below W.heap.size W (W.alloc (.cells #[.slice none 0 0, .slice none 0 0, .slice none 0 0, .slice none 0 0, .int .i64 0] 27)) := (Below.refl _ _).alloc (Nat.le_refl _) _
  ⟨h.lo.alloc h.lo.size _, fun e => ⟨(h.r0 e).1, (h.r0 e).2.below hb⟩, fun e => ⟨(h.r1 e).1, (h.r1 e).2.1.below hb, (h.r1 e).2.2.1.below (h.r1 e).2.1 hb, (h.r1 e).2.2.2⟩, fun e => (h.p0 e).below hb, fun _ => ⟨rfl, h.lo.size, heap_alloc_new W _⟩, fun e _ => by have := (h.p0 e).lt; omega, h.v1⟩
/-- Behind the copies. -/
structure F6 (W5 : World) (b : BookT) (v0 v1 : Slots) (bc g0 g1 : Nat) (W : World) : Prop where
  lo : Below W5.heap.size W5 W
  x0 : BoxB W g0 v0 b
  x1 : BoxB W g1 v1 b
  i0 : BookIn W v0 b
  i1 : BookIn W v1 b
  w1 : BookNew bc W v1 b
theorem F6.below {W5 : World} {b : BookT} {v0 v1 : Slots} {bc g0 g1 : Nat} {W W' : World} (h : F6 W5 b v0 v1 bc g0 g1 W) (hb : Below W.heap.size W W') : F6 W5 b v0 v1 bc g0 g1 W' :=
  ⟨h.lo.trans (hb.mono h.lo.size), blk_below h.x0 hb, blk_below h.x1 hb, h.i0.below hb, h.i1.below hb, h.w1.below h.i1 hb⟩
theorem S5.done {W5 : World} {b : BookT} {v0 v1 : Slots} {bc : Nat} {u0 u1 x0 x1 : Value} {g0 g1 : Nat} {W : World} (h : S5 W5 b v0 v1 bc true true true true u0 u1 x0 x1 g0 g1 W) (hk : BookOk 1000 b) : F6 W5 b v0 v1 bc g0 g1 ((W.setRow g0 (cellsB v0 b)).setRow g1 (cellsB v1 b)) := by
  have p0 := h.p0 rfl
  have p1 := h.p1 rfl
  have n01 := h.n01 rfl rfl
  have b0 : BoxB W g0 ⟨none, none, none, none, 0, 0, 0, 0⟩ ⟨[], [], [], [], 0⟩ := p0.hp
  have b1 : BoxB W g1 ⟨none, none, none, none, 0, 0, 0, 0⟩ ⟨[], [], [], [], 0⟩ := p1.hp
  have hs : ∀ i : Nat, ((W.setRow g0 (cellsB v0 b)).setRow g1 (cellsB v1 b)).heap[i]? = W.heap[i]? ∨ ∃ u c, BoxB W i u c := by
    intro i
    by_cases e1 : i = g1
    · exact .inr ⟨_, _, by rw [e1]; exact b1⟩
    by_cases e0 : i = g0
    · exact .inr ⟨_, _, by rw [e0]; exact b0⟩
    exact .inl (by rw [setRow_ne _ e1, setRow_ne _ e0])
  obtain ⟨_, i1, w1, _, _⟩ := h.r1 rfl
  have q0 : (W.setRow g0 (cellsB v0 b)).heap[g0]? = some (.cells (cellsB v0 b) 27 (0, 0)) := setRow_heap _ _ _ _ _ _ p0.hp
  have q1 : ((W.setRow g0 (cellsB v0 b)).setRow g1 (cellsB v1 b)).heap[g1]? = some (.cells (cellsB v1 b) 27 (0, 0)) := setRow_heap _ _ _ _ _ _ ((setRow_ne _ n01.symm).trans p1.hp)
  exact ⟨below_rowB (below_rowB h.lo p0.ge) p1.ge, (setRow_ne _ n01).trans q0, q1, book_off2 (h.r0 rfl).2 hk (by simp) hs, book_off2 i1 hk (by simp) hs, booknew_off w1 i1 hk hs⟩
/-- Two sets, one behind the other, and a box. -/
def L7 (k0 k1 a0 : Bool) : Array Bool := #[true, true, k0, true, k1, a0, false]
def ok7 (k0 k1 a0 : Bool) (i : Nat) : Bool := (i == 2 && !k0) || (i == 4 && k0 && !k1) || (i == 5 && !a0)
def test7 (ops : Array Oper) : Bool := allB fun k0 => allB fun k1 => allB fun a0 => (!(!k1 || k0)) || (k1 && a0) || ((!(Region.ready .any ops (L7 k0 k1 a0)).isEmpty) && (Region.ready .any ops (L7 k0 k1 a0)).all (ok7 k0 k1 a0))
theorem ready_seven {ops : Array Oper} (h : test7 ops = true) (k0 k1 a0 : Bool) (v1 : k1 = true → k0 = true) (hne : (k1 && a0) = false) :
    Region.ready .any ops (L7 k0 k1 a0) ≠ [] ∧ ∀ i ∈ Region.ready .any ops (L7 k0 k1 a0), (i = 2 ∧ k0 = false) ∨ (i = 4 ∧ k0 = true ∧ k1 = false) ∨ (i = 5 ∧ a0 = false) := by
  have h := allB_at (allB_at (allB_at h k0) k1) a0
  rw [hne, Bool.or_false] at h
  have hv : (!k1 || k0) = true := by cases k1 <;> simp_all
  rw [hv, Bool.not_true, Bool.false_or, Bool.and_eq_true] at h
  refine ⟨fun e => by rw [e] at h; simp at h, fun i hi => ?_⟩
  have h2 := List.all_eq_true.1 h.2 i hi
  simp only [ok7, Bool.or_eq_true, Bool.and_eq_true, beq_iff_eq, Bool.not_eq_true'] at h2
  rcases h2 with (h | h) | h
  · exact .inl h
  · exact .inr (.inl ⟨h.1.1, h.1.2, h.2⟩)
  · exact .inr (.inr h)
structure S7 (W6 : World) (b2 b3 : BookT) (v2 v3 : Slots) (k0 k1 a0 : Bool) (u0 u1 x0 : Value) (g2 : Nat) (W : World) : Prop where
  lo : Below W6.heap.size W6 W
  r0 : k0 = true → u0 = .agg (cellsB v2 b2) ∧ BookIn W v2 b2 ∧ CapOk v2 b2
  r1 : k1 = true → u1 = .agg (cellsB v3 b3) ∧ BookIn W v3 b3 ∧ BookNew W6.heap.size W v3 b3
  p0 : a0 = true → NewB W6.heap.size W x0 g2
  v1 : k1 = true → k0 = true
theorem S7.got0 {W6 : World} {b2 b3 : BookT} {v2 v3 z : Slots} {k1 a0 : Bool} {u0 u1 x0 : Value} {g2 : Nat} {W W' : World} (h : S7 W6 b2 b3 v2 v3 false k1 a0 u0 u1 x0 g2 W) (hb : Below W.heap.size W W') (hn : BookIn W' z b2) (hc : CapOk z b2) : S7 W6 b2 b3 z v3 true false a0 (.agg (cellsB z b2)) u1 x0 g2 W' :=
  ⟨h.lo.trans (hb.mono h.lo.size), fun _ => ⟨rfl, hn, hc⟩, fun e => by simp at e, fun e => (h.p0 e).below hb, fun e => by simp at e⟩
theorem S7.got1 {W6 : World} {b2 b3 : BookT} {v2 v3 z : Slots} {a0 : Bool} {u0 u1 x0 : Value} {g2 : Nat} {W W' : World} (h : S7 W6 b2 b3 v2 v3 true false a0 u0 u1 x0 g2 W) (hb : Below W.heap.size W W') (hn : BookIn W' z b3) (hw : BookNew W.heap.size W' z b3) : S7 W6 b2 b3 v2 z true true a0 u0 (.agg (cellsB z b3)) x0 g2 W' :=
  ⟨h.lo.trans (hb.mono h.lo.size), fun e => ⟨(h.r0 e).1, (h.r0 e).2.1.below hb, (h.r0 e).2.2⟩, fun _ => ⟨rfl, hn, hw.from h.lo.size⟩, fun e => (h.p0 e).below hb, fun _ => rfl⟩
theorem S7.mk0 {W6 : World} {b2 b3 : BookT} {v2 v3 : Slots} {k0 k1 a0 : Bool} {u0 u1 x0 : Value} {g2 : Nat} {W : World} (h : S7 W6 b2 b3 v2 v3 k0 k1 a0 u0 u1 x0 g2 W) : S7 W6 b2 b3 v2 v3 k0 k1 true u0 u1 (.pointer (some ⟨W.heap.size, 0, none⟩)) W.heap.size (W.alloc (.cells #[.slice none 0 0, .slice none 0 0, .slice none 0 0, .slice none 0 0, .int .i64 0] 27)) :=
  have hb : Below W.heap.size W (W.alloc (.cells #[.slice none 0 0, .slice none 0 0, .slice none 0 0, .slice none 0 0, .int .i64 0] 27)) := (Below.refl _ _).alloc (Nat.le_refl _) _
  ⟨h.lo.alloc h.lo.size _, fun e => ⟨(h.r0 e).1, (h.r0 e).2.1.below hb, (h.r0 e).2.2⟩, fun e => ⟨(h.r1 e).1, (h.r1 e).2.1.below hb, (h.r1 e).2.2.below (h.r1 e).2.1 hb⟩, fun _ => ⟨rfl, h.lo.size, heap_alloc_new W _⟩, h.v1⟩
theorem S7.done {W5 W6 : World} {b b2 b3 : BookT} {v0 v1 v2 v3 : Slots} {bc g0 g1 : Nat} {u0 u1 x0 : Value} {g2 : Nat} {W : World} (h : S7 W6 b2 b3 v2 v3 true true true u0 u1 x0 g2 W) (hF : ∀ W, Below W6.heap.size W6 W → F6 W5 b v0 v1 bc g0 g1 W) (hk : BookOk 1000 b) (hk3 : BookOk 1000 b3) (hlt : BookLt bc v0 b) (hm : W5.heap.size ≤ bc) :
    Fin7 W5.heap.size g0 g1 g2 v0 v1 v3 b b3 W5 (W.setRow g2 (cellsB v3 b3)) (W.setRow g2 (cellsB v3 b3)) ∧ F6 W5 b v0 v1 bc g0 g1 (W.setRow g2 (cellsB v3 b3)) ∧ BoxB (W.setRow g2 (cellsB v3 b3)) g2 v3 b3 := by
  have p0 := h.p0 rfl
  have hW6 := hF W6 (Below.refl _ _)
  have F := hF _ (below_rowB h.lo p0.ge (ks := cellsB v3 b3))
  have b0 : BoxB W g2 ⟨none, none, none, none, 0, 0, 0, 0⟩ ⟨[], [], [], [], 0⟩ := p0.hp
  have hs : ∀ i : Nat, (W.setRow g2 (cellsB v3 b3)).heap[i]? = W.heap[i]? ∨ ∃ u c, BoxB W i u c := by
    intro i
    by_cases e0 : i = g2
    · exact .inr ⟨_, _, by rw [e0]; exact b0⟩
    exact .inl (by rw [setRow_ne _ e0])
  obtain ⟨_, i3, w3⟩ := h.r1 rfl
  have i3' := book_off2 i3 hk3 (by simp) hs
  have w3' := booknew_off w3 i3 hk3 hs
  have q2 : BoxB (W.setRow g2 (cellsB v3 b3)) g2 v3 b3 := setRow_heap _ _ _ _ _ _ p0.hp
  have hlt6 : BookLt W6.heap.size v0 b := book_lt hW6.i0
  exact ⟨⟨F.lo, rfl, fun _ _ => rfl, any_of F.i1.hs F.w1.hs (by decide) (fun x hx => (hk.hs.2 x hx).1) hm hlt F.x0 F.x1 q2, any_of F.i1.ss F.w1.ss (by decide) (fun x hx => (hk.ss.2 x hx).1) hm hlt F.x0 F.x1 q2,
    any_of i3'.os w3'.os (by decide) (fun x hx => (hk3.os.2 x hx).1) hW6.lo.size hlt6 F.x0 F.x1 q2, any_of i3'.rs w3'.rs (by decide) (fun x hx => (hk3.rs.2 x hx).1) hW6.lo.size hlt6 F.x0 F.x1 q2,
    any_of i3'.hs w3'.hs (by decide) (fun x hx => (hk3.hs.2 x hx).1) hW6.lo.size hlt6 F.x0 F.x1 q2, any_of i3'.ss w3'.ss (by decide) (fun x hx => (hk3.ss.2 x hx).1) hW6.lo.size hlt6 F.x0 F.x1 q2⟩, F, q2⟩

set_option maxRecDepth 100000 in
set_option maxHeartbeats 16000000 in
theorem bk6 {K : World → Prop} (C : BookC K) (v : Slots) (b : BookT) (p q r s p3 q3 : Int) (w : World) (hK : K w) (hb : BookIn w v b) (hcp : CapOk v b) (hw : BookWf b) (ip : in6 p) (iq : in6 q) (ir : in6 r) (is : in6 s) (ip3 : in6 p3) (iq3 : in6 q3) :
    Calls Try.prog 6 #[.agg (cellsB v b), .agg #[.int .i64 p, .int .i64 q, .int .i64 r, .int .i64 s], .agg #[.int .i64 p3, .int .i64 q3]] w fun e w' => e = .returned (.bool true) ∧ Below w.heap.size w w' := by
  have HKP := Lib.hid C.keep
  obtain ⟨W0, hW0⟩ : ∃ W, ((w.alloc (.cells (cellsB v b) 27)).alloc (.cells #[.int .i64 p, .int .i64 q, .int .i64 r, .int .i64 s] 33)).alloc (.cells #[.int .i64 p3, .int .i64 q3] 47) = W := ⟨_, rfl⟩
  have HS0 := Lib.hid (show B3 K w v b #[.int .i64 p, .int .i64 q, .int .i64 r, .int .i64 s] #[.int .i64 p3, .int .i64 q3] W0 by
    obtain ⟨f0, f1, f2, f5⟩ := three_alloc (w := w) (A := .cells (cellsB v b) 27) (B := .cells #[.int .i64 p, .int .i64 q, .int .i64 r, .int .i64 s] 33) (C := .cells #[.int .i64 p3, .int .i64 q3] 47)
    rw [hW0] at f0 f1 f2 f5
    exact ⟨⟨HKP.out _ _ hK f5, f5, f0, hb.below f5⟩, f1, f2⟩)
  have HAL := Lib.hid (fun W (h : K W) => alive7B C W h)
  have HGR := Lib.hid (fun W => great8 v b W)
  have HI := Lib.hid (show (Try.prog.info? 27).map (·.size) = some (cellsB v b).size from info27)
  cases hg : greatT b with
  | true =>
    rw [hg] at HGR
    obtain ⟨cb, hcb⟩ : ∃ c, cellsB v b = c := ⟨_, rfl⟩
    have HX := Lib.hid (fun W (h : B3 K w v b #[.int .i64 p, .int .i64 q, .int .i64 r, .int .i64 s] #[.int .i64 p3, .int .i64 q3] W) => (show W.heap[w.heap.size]? = some (.cells (cellsB v b) 27 (0, 0)) from h.bs.box))
    rw [hcb] at hW0 HGR HI HX ⊢
    clear hg hb hw hcb C hK
    go_enter Try.func6, Try.ntmps6
    go_wp2_with (first | (go_at_call 7; refine (HAL.out _ HS0.out.bs.k).mono ?_; rintro e w1 ⟨rfl, hb1⟩; have HS1 := Lib.hid (HS0.out.below HKP.out hb1); clear hb1 HS0) | ((with_reducible refine atLoad (ty := 27) (x := .tmp 3) rfl ?_); refine wpList_load_row rfl 27 (.tmp 3) rfl w.heap.size rfl 27 cb (0, 0) _ (HX.out _ HS1.out) Try.underlying27 rfl HI.out ?_) | (go_at_call 8; refine (HGR.out _).mono ?_; rintro e w2 ⟨rfl, hb2⟩; have HS2 := Lib.hid (HS1.out.below HKP.out hb2); clear hb2))
    go_ret
    exact ⟨rfl, HS2.out.bs.lo⟩
  | false =>
    have hk := ok_of_great hg hw
    have HRI := Lib.hid (fun W (h : B3 K w v b #[.int .i64 p, .int .i64 q, .int .i64 r, .int .i64 s] #[.int .i64 p3, .int .i64 q3] W) => rise14 v b W h.bs.bin (hk.mono (by omega)))
    rw [hg] at HGR
    clear hg
    cases hr : riseT b with
    | false =>
      rw [hr] at HRI
      obtain ⟨cb, hcb⟩ : ∃ c, cellsB v b = c := ⟨_, rfl⟩
      have HX := Lib.hid (fun W (h : B3 K w v b #[.int .i64 p, .int .i64 q, .int .i64 r, .int .i64 s] #[.int .i64 p3, .int .i64 q3] W) => (show W.heap[w.heap.size]? = some (.cells (cellsB v b) 27 (0, 0)) from h.bs.box))
      rw [hcb] at hW0 HGR HRI HI HX ⊢
      clear hr hb hw hk hcb C hK
      go_enter Try.func6, Try.ntmps6
      go_wp2_with (first | (go_at_call 7; refine (HAL.out _ HS0.out.bs.k).mono ?_; rintro e w1 ⟨rfl, hb1⟩; have HS1 := Lib.hid (HS0.out.below HKP.out hb1); clear hb1 HS0) | ((with_reducible refine atLoad (ty := 27) (x := .tmp 3) rfl ?_); refine wpList_load_rowG (by rfl) 27 (.tmp 3) rfl w.heap.size rfl 27 cb (0, 0) _ (HX.out _ HS2.out) Try.underlying27 rfl HI.out ?_) | ((with_reducible refine atLoad (ty := 27) (x := .tmp 3) rfl ?_); refine wpList_load_row rfl 27 (.tmp 3) rfl w.heap.size rfl 27 cb (0, 0) _ (HX.out _ HS1.out) Try.underlying27 rfl HI.out ?_) | (go_at_call 8; refine (HGR.out _).mono ?_; rintro e w2 ⟨rfl, hb2⟩; have HS2 := Lib.hid (HS1.out.below HKP.out hb2); clear hb2) | (go_at_call 14; refine (HRI.out _ HS2.out).mono ?_; rintro e w3 ⟨rfl, hb3⟩; have HS3 := Lib.hid (HS2.out.below HKP.out hb3); clear hb3))
      go_ret
      exact ⟨rfl, HS3.out.bs.lo⟩
    | true =>
      rw [hr] at HRI
      have hk4 : BookOk 400 b := hk.mono (by omega)
      have hk1 : BookOk 1000 b := hk.mono (by omega)
      have ko2 : BookOk 201 (setHolderT b [p, q, r, s]) := setHolder_ok hk ip iq ir is
      have kr2 := setHolder_rise [p, q, r, s] hr
      have ko3 : BookOk 202 (setRateT (setHolderT b [p, q, r, s]) [p3, q3]) := setRate_ok ko2 ip3 iq3
      have HSH := Lib.hid (fun W (h : B3 K w v b #[.int .i64 p, .int .i64 q, .int .i64 r, .int .i64 s] #[.int .i64 p3, .int .i64 q3] W) => C.setHolder v b p q r s W h.bs.k h.bs.bin hcp hk4 hr ip iq ir is)
      have HSR := Lib.hid (fun (v2 : Slots) W (hk : K W) (h : BookIn W v2 (setHolderT b [p, q, r, s])) (hc : CapOk v2 (setHolderT b [p, q, r, s])) => C.setRate v2 (setHolderT b [p, q, r, s]) p3 q3 W hk h hc (ko2.mono (by omega)) kr2 ip3 iq3)
      have HCP := Lib.hid (fun W (h : B3 K w v b #[.int .i64 p, .int .i64 q, .int .i64 r, .int .i64 s] #[.int .i64 p3, .int .i64 q3] W) => C.copy v b W h.bs.k h.bs.bin hk4)
      have RC := Lib.hid (fun W (v0 : Slots) (h : BookIn W v b) (h2 : BookIn W v0 b) => same12 v v0 b b W h h2 hk1 hk1)
      rw [sameT_refl] at RC
      have KB := Lib.hid hk1
      have K3 := Lib.hid (show BookOk 1000 (setRateT (setHolderT b [p, q, r, s]) [p3, q3]) from ko3.mono (by omega))
      generalize setRateT (setHolderT b [p, q, r, s]) [p3, q3] = b3 at *
      generalize setHolderT b [p, q, r, s] = b2 at *
      obtain ⟨cb, hcb⟩ : ∃ c, cellsB v b = c := ⟨_, rfl⟩
      have HX := Lib.hid (fun W (h : B3 K w v b #[.int .i64 p, .int .i64 q, .int .i64 r, .int .i64 s] #[.int .i64 p3, .int .i64 q3] W) => (show W.heap[w.heap.size]? = some (.cells (cellsB v b) 27 (0, 0)) from h.bs.box))
      rw [hcb] at hW0 HGR HRI HI HX HSH HCP RC ⊢
      clear hr hb hw hk hk4 hk1 hcb C hK hcp ko2 ko3 kr2
      go_enter Try.func6, Try.ntmps6
      go_upto_region 5 with (first | (go_at_call 7; refine (HAL.out _ HS0.out.bs.k).mono ?_; rintro e w1 ⟨rfl, hb1⟩; have HS1 := Lib.hid (HS0.out.below HKP.out hb1); clear hb1 HS0) | ((with_reducible refine atLoad (ty := 27) (x := .tmp 3) rfl ?_); refine wpList_load_rowG (by rfl) 27 (.tmp 3) rfl w.heap.size rfl 27 cb (0, 0) _ (HX.out _ HS2.out) Try.underlying27 rfl HI.out ?_) | ((with_reducible refine atLoad (ty := 27) (x := .tmp 3) rfl ?_); refine wpList_load_row rfl 27 (.tmp 3) rfl w.heap.size rfl 27 cb (0, 0) _ (HX.out _ HS1.out) Try.underlying27 rfl HI.out ?_) | (go_at_call 8; refine (HGR.out _).mono ?_; rintro e w2 ⟨rfl, hb2⟩; have HS2 := Lib.hid (HS1.out.below HKP.out hb2); clear hb2) | (go_at_call 14; refine (HRI.out _ HS2.out).mono ?_; rintro e w3 ⟨rfl, hb3⟩; have HS3 := Lib.hid (HS2.out.below HKP.out hb3); clear hb3))
      refine at_world (Φ := fun W => B3 K w v b #[.int .i64 p, .int .i64 q, .int .i64 r, .int .i64 s] #[.int .i64 p3, .int .i64 q3] W) HS3.out ?_
      clear HS3 HS2 HS1 HGR HRI HAL hW0
      rintro W5 hs5
      have HC := Lib.hid (fun W (h : Below W5.heap.size W5 W) => hs5.below HKP.out h)
      clear hs5
      refine wp_region_held_drew (S := fun W => Below W5.heap.size W5 W) (by kernel_rfl) (below_drewN' (Below.refl _ _) 1) (fun hS => ?_)
      refine wpAnyH_take (i := 0) (v := .agg cb) rfl (by kernel_rfl) (by kernel_rfl) (by kernel_rfl) (fun _ _ _ h => h) (yieldsIf_row (wanted_none rfl) 27 (.tmp 3) rfl w.heap.size rfl 27 (fun W hW => HX.out W (HC.out W hW)) Try.underlying27 rfl HI.out) hS ?_
      simp only [List.getElem_toArray, List.getElem_cons_zero, Act.put, List.setIfInBounds_toArray, List.set_cons_zero, List.set_cons_succ]
      refine wpAnyH_take (i := 2) (v := .agg cb) rfl (by kernel_rfl) (by kernel_rfl) (by kernel_rfl) (fun _ _ _ h => h) (yieldsIf_row (wanted_none rfl) 27 (.tmp 3) rfl w.heap.size rfl 27 (fun W hW => HX.out W (HC.out W hW)) Try.underlying27 rfl HI.out) hS ?_
      simp only [List.getElem_toArray, List.getElem_cons_zero, List.getElem_cons_succ, Act.put, List.setIfInBounds_toArray, List.set_cons_zero, List.set_cons_succ]
      refine wpAnyH_inv2 (fun l a W => ∃ k0 k1 a0 a1 : Bool, ∃ u0 u1 x0 x1 : Value, ∃ g0 g1 bc : Nat, ∃ v0 v1 : Slots, l = L5 k0 k1 a0 a1 ∧ a = ⟨#[.agg cb, .agg #[.int .i64 p, .int .i64 q, .int .i64 r, .int .i64 s], .agg #[.int .i64 p3, .int .i64 q3], .pointer (some ⟨w.heap.size, 0, none⟩), .pointer (some ⟨w.heap.size + 1, 0, none⟩), .pointer (some ⟨w.heap.size + 1 + 1, 0, none⟩), .bool false, x0, x1, undef, undef, undef, undef, undef, undef, undef, .bool true, .bool false, .agg cb, .bool false, .bool false, .agg cb, .bool true, .bool false, .bool false, .agg cb, u0, .agg cb, u1, undef, undef, undef, undef, undef, undef, undef, undef, undef, undef, undef, undef, undef, undef, undef, undef, undef, undef, undef, undef, undef, undef, undef, undef, undef, undef, undef, undef, undef, undef, undef, undef, undef, undef, undef, undef, undef, undef, undef, undef, undef, undef, undef, undef, undef, undef, undef, undef, undef, undef, undef, undef, undef, undef, undef, undef, undef, undef, undef, undef, undef, undef, undef, undef, undef, undef, undef, undef, undef, undef, undef, undef, undef, undef, undef, undef, undef, undef, undef, undef, undef, undef, undef, undef, undef, undef, undef, undef, undef, undef, undef, undef, undef, undef, undef, undef, undef, undef, undef, undef, undef, undef, undef, undef], []⟩ ∧ S5 W5 b v0 v1 bc k0 k1 a0 a1 u0 u1 x0 x1 g0 g1 W) ?_ _ _ _ _ ⟨false, false, false, false, undef, undef, undef, undef, 0, 0, 0, v, v, rfl, rfl, ⟨hS, by simp, by simp, by simp, by simp, by simp, by simp⟩⟩ (by decide)
      clear hS
      rintro l a W ⟨k0, k1, a0, a1, u0, u1, x0, x1, g0, g1, bc, v0, v1, rfl, rfl, h⟩
      have HH := Lib.hid h
      clear h
      cases hall : (k1 && a0 && a1) with
      | false =>
        refine .inr ⟨(ready_five (by kernel_rfl) k0 k1 a0 a1 HH.out.v1 hall).1, fun i hi => ?_⟩
        have hal := (ready_five (by kernel_rfl) k0 k1 a0 a1 HH.out.v1 hall).2 i hi
        clear hi hall
        rcases hal with ⟨rfl, e⟩ | ⟨rfl, e⟩ | ⟨rfl, e⟩ | ⟨rfl, e⟩
        · subst e
          have ek : k1 = false := by cases hk : k1; rfl; exact absurd (HH.out.v1 hk) (by simp)
          subst ek
          refine ⟨rfl, ?_⟩
          refine wpOp_step rfl (fun KK hKK => ?_)
          have HKK := Lib.hid hKK
          clear hKK
          refine wanted_go rfl ?_
          go_wp2_with (go_at_call 13; refine (HCP.out _ (HC.out _ HH.out.lo)).mono ?_; rintro e y ⟨⟨vy, rfl, hiy, hny, _⟩, hby⟩)
          exact HKK.out _ _ ⟨HH.out.lo.trans (hby.mono HH.out.lo.size), true, false, a0, a1, _, u1, x0, x1, g0, g1, bc, vy, v1, rfl, rfl, HH.out.got0 hby hiy⟩
        · obtain ⟨rfl, rfl⟩ := e
          refine ⟨rfl, ?_⟩
          refine wpOp_step rfl (fun KK hKK => ?_)
          have HKK := Lib.hid hKK
          clear hKK
          refine wanted_go rfl ?_
          go_wp2_with (go_at_call 13; refine (HCP.out _ (HC.out _ HH.out.lo)).mono ?_; rintro e y ⟨⟨vy, rfl, hiy, hny, _⟩, hby⟩)
          exact HKK.out _ _ ⟨HH.out.lo.trans (hby.mono HH.out.lo.size), true, true, a0, a1, u0, _, x0, x1, g0, g1, W.heap.size, v0, vy, rfl, rfl, HH.out.got1 hby hiy hny⟩
        · subst e
          refine ⟨rfl, ?_⟩
          refine wpOp_step rfl (fun KK hKK => ?_)
          have HKK := Lib.hid hKK
          clear hKK
          refine wanted_go rfl ?_
          go_wp2
          exact HKK.out _ _ ⟨HH.out.lo.alloc HH.out.lo.size _, k0, k1, true, a1, u0, u1, _, x1, _, g1, bc, v0, v1, rfl, rfl, HH.out.mk0⟩
        · subst e
          refine ⟨rfl, ?_⟩
          refine wpOp_step rfl (fun KK hKK => ?_)
          have HKK := Lib.hid hKK
          clear hKK
          refine wanted_go rfl ?_
          go_wp2
          exact HKK.out _ _ ⟨HH.out.lo.alloc HH.out.lo.size _, k0, k1, a0, true, u0, u1, x0, _, g0, _, bc, v0, v1, rfl, rfl, HH.out.mk1⟩
      | true =>
        refine .inl (fun fuel hf => ?_)
        simp only [Bool.and_eq_true] at hall
        obtain ⟨⟨rfl, rfl⟩, rfl⟩ := hall
        obtain rfl := HH.out.v1 rfl
        obtain ⟨m, rfl⟩ : ∃ m, fuel = m + 2 := ⟨fuel - 2, by have h4 : (L5 true true true true).toList.count false = 2 := (by decide); omega⟩
        clear hf
        obtain rfl := (HH.out.r0 rfl).1
        obtain rfl := (HH.out.r1 rfl).1
        obtain rfl := (HH.out.p0 rfl).is
        obtain rfl := (HH.out.p1 rfl).is
        have hE := S5.done HH.out KB.out
        have HLT := Lib.hid (HH.out.r1 rfl).2.2.2.1
        have HM := Lib.hid (HH.out.r1 rfl).2.2.2.2
        unfold L5
        refine wpAnyH_ready (rs := [6]) (by kernel_rfl) (by simp) ?_
        refine AllReadyH.cons rfl (fun KA hKA => ?_) AllReadyH.nil
        refine wanted_go rfl ?_
        simp only [List.getElem_toArray, List.getElem_cons_zero, List.getElem_cons_succ]
        refine wp_store_row 27 (.tmp 7) (.tmp 26) rfl g0 (cellsB v0 b) rfl rfl 27 #[.slice none 0 0, .slice none 0 0, .slice none 0 0, .slice none 0 0, .int .i64 0] ((HH.out.p0 rfl).hp) info27 rfl (by simp [cellsB, Value.oneCell']) ?_
        refine hKA.out _ _ (below_rowB HH.out.lo (HH.out.p0 rfl).ge) (fun _ => ?_)
        refine wpAnyH_ready (rs := [7]) (by kernel_rfl) (by simp) ?_
        refine AllReadyH.cons rfl (fun KC hKC => ?_) AllReadyH.nil
        refine wanted_go rfl ?_
        simp only [List.getElem_toArray, List.getElem_cons_zero, List.getElem_cons_succ]
        refine wp_store_row 27 (.tmp 8) (.tmp 28) rfl g1 (cellsB v1 b) rfl rfl 27 #[.slice none 0 0, .slice none 0 0, .slice none 0 0, .slice none 0 0, .int .i64 0] ((setRow_ne _ (HH.out.n01 rfl rfl).symm).trans (HH.out.p1 rfl).hp) info27 rfl (by simp [cellsB, Value.oneCell']) ?_
        refine hKC.out _ _ (below_rowB (below_rowB HH.out.lo (HH.out.p0 rfl).ge) (HH.out.p1 rfl).ge) (fun _ => ?_)
        refine wpAnyH_done (by kernel_rfl) ?_ _
        go_upto_region 6 with (fail)
        refine at_world (Φ := fun W => F6 W5 b v0 v1 bc g0 g1 W) hE ?_
        clear hE HH HCP
        rintro W6 hf6
        have HF := Lib.hid (fun W (h : Below W6.heap.size W6 W) => hf6.below h)
        clear hf6
        obtain ⟨d0, hd0⟩ : ∃ d, cellsB v0 b = d := ⟨_, rfl⟩
        obtain ⟨d1, hd1⟩ : ∃ d, cellsB v1 b = d := ⟨_, rfl⟩
        have HD0 := Lib.hid hd0
        have HD1 := Lib.hid hd1
        rw [hd0, hd1]
        clear hd0 hd1
        simp only [Act.put]
        refine wp_region_held_drew (S := fun W => Below W6.heap.size W6 W) (by kernel_rfl) (below_drewN' (Below.refl _ _) 1) (fun hS => ?_)
        refine wpAnyH_take (i := 0) (v := .agg cb) rfl (by kernel_rfl) (by kernel_rfl) (by kernel_rfl) (fun _ _ _ h => h) (yieldsIf_row (wanted_none rfl) 27 (.tmp 3) rfl w.heap.size rfl 27 (fun W hW => HX.out W (HC.out W (HF.out W hW).lo)) Try.underlying27 rfl HI.out) hS ?_
        simp only [List.getElem_toArray, List.getElem_cons_zero, Act.put, List.setIfInBounds_toArray, List.set_cons_zero, List.set_cons_succ]
        refine wpAnyH_take (i := 1) (v := .agg #[.int .i64 p, .int .i64 q, .int .i64 r, .int .i64 s]) rfl (by kernel_rfl) (by kernel_rfl) (by kernel_rfl) (fun _ _ _ h => h) (yieldsIf_row (wanted_none rfl) 33 (.tmp 4) rfl (w.heap.size + 1) rfl 33 (fun W hW => (HC.out W (HF.out W hW).lo).h1) Try.underlying33 rfl info33) hS ?_
        simp only [List.getElem_toArray, List.getElem_cons_zero, List.getElem_cons_succ, Act.put, List.setIfInBounds_toArray, List.set_cons_zero, List.set_cons_succ]
        refine wpAnyH_take (i := 3) (v := .agg #[.int .i64 p3, .int .i64 q3]) rfl (by kernel_rfl) (by kernel_rfl) (by kernel_rfl) (fun _ _ _ h => h) (yieldsIf_row (wanted_none rfl) 47 (.tmp 5) rfl (w.heap.size + 1 + 1) rfl 47 (fun W hW => (HC.out W (HF.out W hW).lo).h2) Try.underlying47 rfl info47) hS ?_
        simp only [List.getElem_toArray, List.getElem_cons_zero, List.getElem_cons_succ, Act.put, List.setIfInBounds_toArray, List.set_cons_zero, List.set_cons_succ]
        refine wpAnyH_inv2 (fun l a W => ∃ k0 k1 a0 : Bool, ∃ u0 u1 x0 : Value, ∃ g2 : Nat, ∃ v2 v3 : Slots, l = L7 k0 k1 a0 ∧ a = ⟨#[.agg cb, .agg #[.int .i64 p, .int .i64 q, .int .i64 r, .int .i64 s], .agg #[.int .i64 p3, .int .i64 q3], .pointer (some ⟨w.heap.size, 0, none⟩), .pointer (some ⟨w.heap.size + 1, 0, none⟩), .pointer (some ⟨w.heap.size + 1 + 1, 0, none⟩), .bool false, .pointer (some ⟨g0, 0, none⟩), .pointer (some ⟨g1, 0, none⟩), x0, undef, undef, undef, undef, undef, undef, .bool true, .bool false, .agg cb, .bool false, .bool false, .agg cb, .bool true, .bool false, .bool false, .agg cb, .agg d0, .agg cb, .agg d1, .agg cb, .agg #[.int .i64 p, .int .i64 q, .int .i64 r, .int .i64 s], u0, .agg #[.int .i64 p3, .int .i64 q3], u1, undef, undef, undef, undef, undef, undef, undef, undef, undef, undef, undef, undef, undef, undef, undef, undef, undef, undef, undef, undef, undef, undef, undef, undef, undef, undef, undef, undef, undef, undef, undef, undef, undef, undef, undef, undef, undef, undef, undef, undef, undef, undef, undef, undef, undef, undef, undef, undef, undef, undef, undef, undef, undef, undef, undef, undef, undef, undef, undef, undef, undef, undef, undef, undef, undef, undef, undef, undef, undef, undef, undef, undef, undef, undef, undef, undef, undef, undef, undef, undef, undef, undef, undef, undef, undef, undef, undef, undef, undef, undef, undef, undef, undef, undef, undef, undef, undef, undef, undef], []⟩ ∧ S7 W6 b2 b3 v2 v3 k0 k1 a0 u0 u1 x0 g2 W) ?_ _ _ _ _ ⟨false, false, false, undef, undef, undef, 0, v, v, rfl, rfl, ⟨hS, by simp, by simp, by simp, by simp⟩⟩ (by decide)
        clear hS
        rintro l a W ⟨k0, k1, a0, u0, u1, x0, g2, v2, v3, rfl, rfl, h⟩
        have HH := Lib.hid h
        clear h
        cases hall : (k1 && a0) with
        | false =>
          refine .inr ⟨(ready_seven (by kernel_rfl) k0 k1 a0 HH.out.v1 hall).1, fun i hi => ?_⟩
          have hal := (ready_seven (by kernel_rfl) k0 k1 a0 HH.out.v1 hall).2 i hi
          clear hi hall
          rcases hal with ⟨rfl, e⟩ | ⟨rfl, e⟩ | ⟨rfl, e⟩
          · subst e
            have ek : k1 = false := by cases hk : k1; rfl; exact absurd (HH.out.v1 hk) (by simp)
            subst ek
            refine ⟨rfl, ?_⟩
            refine wpOp_step rfl (fun KK hKK => ?_)
            have HKK := Lib.hid hKK
            clear hKK
            refine wanted_go rfl ?_
            go_wp2_with (go_at_call 23; refine (HSH.out _ (HC.out _ (HF.out _ HH.out.lo).lo)).mono ?_; rintro e y ⟨⟨vy, rfl, hiy, _, hcy⟩, hby⟩)
            exact HKK.out _ _ ⟨HH.out.lo.trans (hby.mono HH.out.lo.size), true, false, a0, _, u1, x0, g2, vy, v3, rfl, rfl, HH.out.got0 hby hiy hcy⟩
          · obtain ⟨rfl, rfl⟩ := e
            obtain ⟨rfl, hi2, hc2⟩ := HH.out.r0 rfl
            refine ⟨rfl, ?_⟩
            refine wpOp_step rfl (fun KK hKK => ?_)
            have HKK := Lib.hid hKK
            clear hKK
            refine wanted_go rfl ?_
            go_wp2_with (go_at_call 26; refine (HSR.out v2 _ (HC.out _ (HF.out _ HH.out.lo).lo).bs.k hi2 hc2).mono ?_; rintro e y ⟨⟨vy, rfl, hiy, hny, _⟩, hby⟩)
            exact HKK.out _ _ ⟨HH.out.lo.trans (hby.mono HH.out.lo.size), true, true, a0, _, _, x0, g2, v2, vy, rfl, rfl, HH.out.got1 hby hiy hny⟩
          · subst e
            refine ⟨rfl, ?_⟩
            refine wpOp_step rfl (fun KK hKK => ?_)
            have HKK := Lib.hid hKK
            clear hKK
            refine wanted_go rfl ?_
            go_wp2
            exact HKK.out _ _ ⟨HH.out.lo.alloc HH.out.lo.size _, k0, k1, true, u0, u1, _, _, v2, v3, rfl, rfl, HH.out.mk0⟩
        | true =>
          refine .inl (fun fuel hf => ?_)
          simp only [Bool.and_eq_true] at hall
          obtain ⟨rfl, rfl⟩ := hall
          obtain rfl := HH.out.v1 rfl
          obtain ⟨m, rfl⟩ : ∃ m, fuel = m + 1 := ⟨fuel - 1, by have h4 : (L7 true true true).toList.count false = 1 := (by decide); omega⟩
          clear hf
          obtain rfl := (HH.out.r0 rfl).1
          obtain rfl := (HH.out.r1 rfl).1
          obtain rfl := (HH.out.p0 rfl).is
          have hE := S7.done HH.out HF.out KB.out K3.out HLT.out HM.out
          unfold L7
          refine wpAnyH_ready (rs := [6]) (by kernel_rfl) (by simp) ?_
          refine AllReadyH.cons rfl (fun KD hKD => ?_) AllReadyH.nil
          refine wanted_go rfl ?_
          simp only [List.getElem_toArray, List.getElem_cons_zero, List.getElem_cons_succ]
          refine wp_store_row 27 (.tmp 9) (.tmp 33) rfl g2 (cellsB v3 b3) rfl rfl 27 #[.slice none 0 0, .slice none 0 0, .slice none 0 0, .slice none 0 0, .int .i64 0] ((HH.out.p0 rfl).hp) info27 rfl (by simp [cellsB, Value.oneCell']) ?_
          refine hKD.out _ _ (below_rowB HH.out.lo (HH.out.p0 rfl).ge) (fun _ => ?_)
          refine wpAnyH_done (by kernel_rfl) ?_ _
          go_upto_region 7 with (fail)
          refine at_world (Φ := fun W => Fin7 W5.heap.size g0 g1 g2 v0 v1 v3 b b3 W5 W W ∧ F6 W5 b v0 v1 bc g0 g1 W ∧ BoxB W g2 v3 b3) hE ?_
          clear hE HH HSH HSR HF HLT HM
          rintro W7 ⟨hfin, hf7, hx2⟩
          have HB1 := Lib.hid (fun W (h : Fin7 W5.heap.size g0 g1 g2 v0 v1 v3 b b3 W5 W7 W) => (h.box1 hf7.x1).cells)
          have HB2 := Lib.hid (fun W (h : Fin7 W5.heap.size g0 g1 g2 v0 v1 v3 b b3 W5 W7 W) => (h.box2 hx2).cells)
          have HB0 := Lib.hid (fun W (h : Fin7 W5.heap.size g0 g1 g2 v0 v1 v3 b b3 W5 W7 W) => (show W.heap[g0]? = some (.cells (cellsB v0 b) 27 (0, 0)) from h.box0 hf7.x0))
          have HWA := Lib.hid (fun W (h : Fin7 W5.heap.size g0 g1 g2 v0 v1 v3 b b3 W5 W7 W) => h.was hf7.i0)
          have HFN := Lib.hid hfin
          clear hfin hf7 hx2
          have l1 := KB.out.hs.1
          have l2 := KB.out.ss.1
          have l3 := K3.out.os.1
          have l4 := K3.out.rs.1
          have l5 := K3.out.hs.1
          have l6 := K3.out.ss.1
          simp only [Act.put]
          go_wp2
          go_loopw [10] (fun vi W => ∃ i : Nat, vi = .int .i64 (i : Int) ∧ i ≤ b.hs.length ∧ Fin7 W5.heap.size g0 g1 g2 v0 v1 v3 b b3 W5 W7 W) (fun vi _ => b.hs.length - (intOf vi).toNat)
          case atStart => exact ⟨0, rfl, Nat.zero_le _, HFN.out⟩
          case round =>
            clear HFN
            obtain ⟨i, rfl, hi, hfn⟩ := hrel
            have HFN := Lib.hid hfn
            clear hfn
            obtain ⟨e0, e1, e2, e3, e4⟩ := HB1.out _ HFN.out
            by_cases hlt : i < b.hs.length
            · rcases HFN.out.r1 with hz0 | ⟨blk, off, ha, hnk, hfr, hcl⟩
              · omega
              obtain ⟨z, hz⟩ := hcl i 1 hlt (by decide)
              have hfz := hfr (off + i * 4 + 1)
              have HNK := Lib.hid hnk
              rw [ha] at e0
              clear hfr hcl hnk ha
              go_wp2
              go_roundw
              case rel => exact ⟨i + 1, by go_num, hlt, HFN.out.set HNK.out _ _⟩
              case measure => simp [intOf]; omega
            · go_wp2
              clear hlt hi e0 e1 e2 e3 e4
              go_loopw [11] (fun vi W => ∃ i : Nat, vi = .int .i64 (i : Int) ∧ i ≤ b.ss.length ∧ Fin7 W5.heap.size g0 g1 g2 v0 v1 v3 b b3 W5 W7 W) (fun vi _ => b.ss.length - (intOf vi).toNat)
              case atStart => exact ⟨0, rfl, Nat.zero_le _, HFN.out⟩
              case round =>
                clear HFN
                obtain ⟨i, rfl, hi, hfn⟩ := hrel
                have HFN := Lib.hid hfn
                clear hfn
                obtain ⟨e0, e1, e2, e3, e4⟩ := HB1.out _ HFN.out
                by_cases hlt : i < b.ss.length
                · rcases HFN.out.r2 with hz0 | ⟨blk, off, ha, hnk, hfr, hcl⟩
                  · omega
                  obtain ⟨z, hz⟩ := hcl i 2 hlt (by decide)
                  have hfz := hfr (off + i * 3 + 2)
                  have HNK := Lib.hid hnk
                  rw [ha] at e1
                  clear hfr hcl hnk ha
                  go_wp2
                  go_roundw
                  case rel => exact ⟨i + 1, by go_num, hlt, HFN.out.set HNK.out _ _⟩
                  case measure => simp [intOf]; omega
                · go_wp2
                  clear hlt hi e0 e1 e2 e3 e4
                  go_loopw [12] (fun vi W => ∃ i : Nat, vi = .int .i64 (i : Int) ∧ i ≤ b3.os.length ∧ Fin7 W5.heap.size g0 g1 g2 v0 v1 v3 b b3 W5 W7 W) (fun vi _ => b3.os.length - (intOf vi).toNat)
                  case atStart => exact ⟨0, rfl, Nat.zero_le _, HFN.out⟩
                  case round =>
                    clear HFN
                    obtain ⟨i, rfl, hi, hfn⟩ := hrel
                    have HFN := Lib.hid hfn
                    clear hfn
                    obtain ⟨e0, e1, e2, e3, e4⟩ := HB2.out _ HFN.out
                    by_cases hlt : i < b3.os.length
                    · rcases HFN.out.r3 with hz0 | ⟨blk, off, ha, hnk, hfr, hcl⟩
                      · omega
                      obtain ⟨z, hz⟩ := hcl i 4 hlt (by decide)
                      have hfz := hfr (off + i * 6 + 4)
                      have HNK := Lib.hid hnk
                      rw [ha] at e2
                      clear hfr hcl hnk ha
                      go_wp2
                      go_roundw
                      case rel => exact ⟨i + 1, by go_num, hlt, HFN.out.set HNK.out _ _⟩
                      case measure => simp [intOf]; omega
                    · go_wp2
                      clear hlt hi e0 e1 e2 e3 e4
                      go_loopw [13] (fun vi W => ∃ i : Nat, vi = .int .i64 (i : Int) ∧ i ≤ b3.rs.length ∧ Fin7 W5.heap.size g0 g1 g2 v0 v1 v3 b b3 W5 W7 W) (fun vi _ => b3.rs.length - (intOf vi).toNat)
                      case atStart => exact ⟨0, rfl, Nat.zero_le _, HFN.out⟩
                      case round =>
                        clear HFN
                        obtain ⟨i, rfl, hi, hfn⟩ := hrel
                        have HFN := Lib.hid hfn
                        clear hfn
                        obtain ⟨e0, e1, e2, e3, e4⟩ := HB2.out _ HFN.out
                        by_cases hlt : i < b3.rs.length
                        · rcases HFN.out.r4 with hz0 | ⟨blk, off, ha, hnk, hfr, hcl⟩
                          · omega
                          obtain ⟨z, hz⟩ := hcl i 1 hlt (by decide)
                          have hfz := hfr (off + i * 2 + 1)
                          have HNK := Lib.hid hnk
                          rw [ha] at e3
                          clear hfr hcl hnk ha
                          go_wp2
                          go_roundw
                          case rel => exact ⟨i + 1, by go_num, hlt, HFN.out.set HNK.out _ _⟩
                          case measure => simp [intOf]; omega
                        · go_wp2
                          clear hlt hi e0 e1 e2 e3 e4
                          go_loopw [14] (fun vi W => ∃ i : Nat, vi = .int .i64 (i : Int) ∧ i ≤ b3.hs.length ∧ Fin7 W5.heap.size g0 g1 g2 v0 v1 v3 b b3 W5 W7 W) (fun vi _ => b3.hs.length - (intOf vi).toNat)
                          case atStart => exact ⟨0, rfl, Nat.zero_le _, HFN.out⟩
                          case round =>
                            clear HFN
                            obtain ⟨i, rfl, hi, hfn⟩ := hrel
                            have HFN := Lib.hid hfn
                            clear hfn
                            obtain ⟨e0, e1, e2, e3, e4⟩ := HB2.out _ HFN.out
                            by_cases hlt : i < b3.hs.length
                            · rcases HFN.out.r5 with hz0 | ⟨blk, off, ha, hnk, hfr, hcl⟩
                              · omega
                              obtain ⟨z, hz⟩ := hcl i 1 hlt (by decide)
                              have hfz := hfr (off + i * 4 + 1)
                              have HNK := Lib.hid hnk
                              rw [ha] at e0
                              clear hfr hcl hnk ha
                              go_wp2
                              go_roundw
                              case rel => exact ⟨i + 1, by go_num, hlt, HFN.out.set HNK.out _ _⟩
                              case measure => simp [intOf]; omega
                            · go_wp2
                              clear hlt hi e0 e1 e2 e3 e4
                              go_loopw [15] (fun vi W => ∃ i : Nat, vi = .int .i64 (i : Int) ∧ i ≤ b3.ss.length ∧ Fin7 W5.heap.size g0 g1 g2 v0 v1 v3 b b3 W5 W7 W) (fun vi _ => b3.ss.length - (intOf vi).toNat)
                              case atStart => exact ⟨0, rfl, Nat.zero_le _, HFN.out⟩
                              case round =>
                                clear HFN
                                obtain ⟨i, rfl, hi, hfn⟩ := hrel
                                have HFN := Lib.hid hfn
                                clear hfn
                                obtain ⟨e0, e1, e2, e3, e4⟩ := HB2.out _ HFN.out
                                by_cases hlt : i < b3.ss.length
                                · rcases HFN.out.r6 with hz0 | ⟨blk, off, ha, hnk, hfr, hcl⟩
                                  · omega
                                  obtain ⟨z, hz⟩ := hcl i 2 hlt (by decide)
                                  have hfz := hfr (off + i * 3 + 2)
                                  have HNK := Lib.hid hnk
                                  rw [ha] at e1
                                  clear hfr hcl hnk ha
                                  go_wp2
                                  go_roundw
                                  case rel => exact ⟨i + 1, by go_num, hlt, HFN.out.set HNK.out _ _⟩
                                  case measure => simp [intOf]; omega
                                · have HSM := Lib.hid (fun W (h : Fin7 W5.heap.size g0 g1 g2 v0 v1 v3 b b3 W5 W7 W) => RC.out W v0 (HC.out W h.lo).bs.bin (HWA.out W h))
                                  rw [HD0.out] at HSM HB0
                                  have HI0 := Lib.hid (show (Try.prog.info? 27).map (·.size) = some d0.size by rw [← HD0.out]; exact info27)
                                  go_wp2_with (first | ((with_reducible refine atLoad (ty := 27) (x := .tmp 7) rfl ?_); refine wpList_load_row rfl 27 (.tmp 7) rfl g0 rfl 27 d0 (0, 0) _ (HB0.out _ HFN.out) Try.underlying27 rfl HI0.out ?_) | ((with_reducible refine atLoad (ty := 27) (x := .tmp 3) rfl ?_); refine wpList_load_row rfl 27 (.tmp 3) rfl w.heap.size rfl 27 cb (0, 0) _ (HX.out _ (HC.out _ HFN.out.lo)) Try.underlying27 rfl HI.out ?_) | (go_at_call 12; refine (HSM.out _ HFN.out).mono ?_; rintro e y ⟨rfl, hy⟩))
                                  go_ret
                                  exact ⟨rfl, (HC.out _ HFN.out.lo).bs.lo.trans (hy.mono (HC.out _ HFN.out.lo).bs.lo.size)⟩
end Go.Proofs.Ytofmkbijhmbbcaa
