/- The program's Copy: its contract. -/
import Derived.Test.YtofmkbijhmbbcaaBkQ5
import Derived.Test.YtofmkbijhmbbcaaRegInv
import Derived.Test.YtofmkbijhmbbcaaBkLaw
namespace Go.Proofs.Ytofmkbijhmbbcaa
open Go.RowKit Base Base2

theorem own_below {W W' : World} {B n k : Nat} {T : TypeId} {v : Value} {xs : List Value} (h : W.ownsRow B T k v n xs) (hb : Below W.heap.size W W') : W'.ownsRow B T k v n xs := by
  obtain ⟨e, h0⟩ := h
  refine ⟨e, ?_⟩
  rcases h0 with h0 | ⟨g, cap, cur, rfl, a1, a2, a3⟩
  · exact .inl h0
  · exact .inr ⟨g, cap, cur, rfl, a1, (hb.block g (Array.getElem?_eq_some_iff.1 a2).1).trans a2, a3⟩
theorem own_from {W : World} {B B' n k : Nat} {T : TypeId} {v : Value} {xs : List Value} (h : W.ownsRow B' T k v n xs) (hb : B ≤ B') : W.ownsRow B T k v n xs := by
  obtain ⟨e, h0⟩ := h
  refine ⟨e, ?_⟩
  rcases h0 with h0 | ⟨g, cap, cur, rfl, a1, a2⟩
  · exact .inl h0
  · exact .inr ⟨g, cap, cur, rfl, Nat.le_trans hb a1, a2⟩
/-- A row that is owned, for others. -/
theorem rows_new {k : Nat} (hk0 : 0 < k) {W : World} {base : Nat} {T : TypeId} {v : Value} {l : List Item} (hk : ∀ x ∈ l, x.length = k) (h : W.ownsRow base T k v l.length (flatI l)) : ∃ a c, v = .slice a l.length c ∧ RowsOf k W a l ∧ RowNew base W a l ∧ l.length ≤ c := by
  obtain ⟨a, c, rfl, hr⟩ := rows_own hk0 hk h
  refine ⟨a, c, rfl, hr, ?_, ?_⟩
  · rcases h.2 with ⟨hv, hn⟩ | ⟨g, cap, cur, hv, a1, a2, _⟩
    · exact .inl (List.eq_nil_of_length_eq_zero hn)
    · obtain ⟨rfl, rfl⟩ : a = some ⟨g, 0, none⟩ ∧ c = cap := by simpa using hv
      exact .inr ⟨g, 0, rfl, a1, fun i => free_of_blkN a2 i⟩
  · rcases h.2 with ⟨hv, hn⟩ | ⟨g, cap, cur, hv, a1, a2, a3, _⟩
    · omega
    · obtain ⟨rfl, rfl⟩ : a = some ⟨g, 0, none⟩ ∧ c = cap := by simpa using hv
      exact a3
/-- A row of one slice, made for a call. -/
def OneSl (W : World) (u : Value) (a : Option Addr) (n c : Nat) : Prop := ∃ g, u = .slice (some ⟨g, 0, none⟩) 1 1 ∧ g < W.heap.size ∧ W.cell? ⟨g, 0, none⟩ = some (.slice a n c)
theorem OneSl.below {W W' : World} {u : Value} {a : Option Addr} {n c : Nat} (h : OneSl W u a n c) (hb : Below W.heap.size W W') : OneSl W' u a n c := by
  obtain ⟨g, rfl, h1, h2⟩ := h
  exact ⟨g, rfl, Nat.lt_of_lt_of_le h1 hb.size, (hb.cell (p := ⟨g, 0, none⟩) h1).trans h2⟩
theorem OneSl.new (W : World) (a : Option Addr) (n c : Nat) (T : TypeId) : OneSl (W.alloc (.cells #[.slice a n c] T)) (.slice (some ⟨W.heap.size, 0, none⟩) 1 1) a n c :=
  ⟨W.heap.size, rfl, by simp, cell_of_row _ _ 0 _ T (0, 0) (heap_alloc_new W _)⟩
def LC (b0 k0 b1 k1 b2 k2 b3 k3 : Bool) : Array Bool := #[true, true, b0, k0, true, true, b1, k1, true, true, b2, k2, true, true, b3, k3, true, true, false, false]
def okC (b0 k0 b1 k1 b2 k2 b3 : Bool) (i : Nat) : Bool := (i == 2 && !b0) || (i == 3 && b0 && !k0) || (i == 6 && !b1) || (i == 7 && b1 && k0 && !k1) || (i == 10 && !b2) || (i == 11 && b2 && k1 && !k2) || (i == 14 && !b3) || (i == 15 && b3 && k2)
def testC (ops : Array Oper) : Bool := allB fun b0 => allB fun k0 => allB fun b1 => allB fun k1 => allB fun b2 => allB fun k2 => allB fun b3 => (!(Region.ready .any ops (LC b0 k0 b1 k1 b2 k2 b3 false)).isEmpty) && (Region.ready .any ops (LC b0 k0 b1 k1 b2 k2 b3 false)).all (okC b0 k0 b1 k1 b2 k2 b3)
theorem ready_copy {ops : Array Oper} (h : testC ops = true) (b0 k0 b1 k1 b2 k2 b3 : Bool) : Region.ready .any ops (LC b0 k0 b1 k1 b2 k2 b3 false) ≠ [] ∧ ∀ i ∈ Region.ready .any ops (LC b0 k0 b1 k1 b2 k2 b3 false),
    (i = 2 ∧ b0 = false) ∨ (i = 3 ∧ b0 = true ∧ k0 = false) ∨ (i = 6 ∧ b1 = false) ∨ (i = 7 ∧ b1 = true ∧ k0 = true ∧ k1 = false) ∨ (i = 10 ∧ b2 = false) ∨ (i = 11 ∧ b2 = true ∧ k1 = true ∧ k2 = false) ∨ (i = 14 ∧ b3 = false) ∨ (i = 15 ∧ b3 = true ∧ k2 = true) := by
  have h := allB_at (allB_at (allB_at (allB_at (allB_at (allB_at (allB_at h b0) k0) b1) k1) b2) k2) b3
  rw [Bool.and_eq_true] at h
  refine ⟨fun e => by rw [e] at h; simp at h, fun i hi => ?_⟩
  have h2 := List.all_eq_true.1 h.2 i hi
  simp only [okC, Bool.or_eq_true, Bool.and_eq_true, beq_iff_eq, Bool.not_eq_true'] at h2
  rcases h2 with ((((((h | h) | h) | h) | h) | h) | h) | h
  · exact .inl h
  · exact .inr (.inl ⟨h.1.1, h.1.2, h.2⟩)
  · exact .inr (.inr (.inl h))
  · exact .inr (.inr (.inr (.inl ⟨h.1.1.1, h.1.1.2, h.1.2, h.2⟩)))
  · exact .inr (.inr (.inr (.inr (.inl h))))
  · exact .inr (.inr (.inr (.inr (.inr (.inl ⟨h.1.1.1, h.1.1.2, h.1.2, h.2⟩)))))
  · exact .inr (.inr (.inr (.inr (.inr (.inr (.inl h))))))
  · exact .inr (.inr (.inr (.inr (.inr (.inr (.inr ⟨h.1.1, h.1.2, h.2⟩))))))
/-- Which of the operations have come up, and what lies where. -/
structure CpS (v : Slots) (b : BookT) (n : Nat) (W0 : World) (b0 k0 b1 k1 b2 k2 b3 k3 : Bool) (u5 u6 u9 u10 u13 u14 u17 u18 : Value) (W : World) : Prop where
  lo : Below (n + 2) W0 W
  sz : n + 2 ≤ W.heap.size
  s0 : b0 = true → OneSl W u5 v.h b.hs.length v.ch
  r0 : k0 = true → W.ownsRow (n + 2) 33 4 u6 b.hs.length (flatI b.hs)
  s1 : b1 = true → OneSl W u9 v.s b.ss.length v.cs
  r1 : k1 = true → W.ownsRow (n + 2) 45 3 u10 b.ss.length (flatI b.ss)
  s2 : b2 = true → OneSl W u13 v.o b.os.length v.co
  r2 : k2 = true → W.ownsRow (n + 2) 37 6 u14 b.os.length (flatI b.os)
  s3 : b3 = true → OneSl W u17 v.r b.rs.length v.cr
  r3 : k3 = true → W.ownsRow (n + 2) 47 2 u18 b.rs.length (flatI b.rs)
  v0 : k0 = true → b0 = true
  v1 : k1 = true → b1 = true ∧ k0 = true
  v2 : k2 = true → b2 = true ∧ k1 = true
  v3 : k3 = true → b3 = true ∧ k2 = true
def InvC (cb : Array Value) (v : Slots) (b : BookT) (n : Nat) (W0 : World) (l : Array Bool) (a : Act) (W : World) : Prop := ∃ b0 k0 b1 k1 b2 k2 b3 k3 : Bool, ∃ u5 u6 u9 u10 u13 u14 u17 u18 : Value,
  l = LC b0 k0 b1 k1 b2 k2 b3 k3 ∧ a = ⟨#[.agg cb, .pointer (some ⟨n, 0, none⟩), .pointer (some ⟨n + 1, 0, none⟩), .pointer (some ⟨n, 0, none⟩), .slice v.h b.hs.length v.ch, u5, u6, .pointer (some ⟨n, 1, none⟩), .slice v.s b.ss.length v.cs, u9, u10, .pointer (some ⟨n, 2, none⟩), .slice v.o b.os.length v.co, u13, u14, .pointer (some ⟨n, 3, none⟩), .slice v.r b.rs.length v.cr, u17, u18, .pointer (some ⟨n, 4, none⟩), .int .i64 b.co, undef], []⟩ ∧ CpS v b n W0 b0 k0 b1 k1 b2 k2 b3 k3 u5 u6 u9 u10 u13 u14 u17 u18 W
theorem CpS.mk0 {v : Slots} {b : BookT} {n : Nat} {W0 : World} {b0 k0 b1 k1 b2 k2 b3 k3 : Bool} {u5 u6 u9 u10 u13 u14 u17 u18 u : Value} {W W' : World} (h : CpS v b n W0 b0 k0 b1 k1 b2 k2 b3 k3 u5 u6 u9 u10 u13 u14 u17 u18 W) (hb : Below W.heap.size W W') (hn : OneSl W' u v.h b.hs.length v.ch) :
    CpS v b n W0 true k0 b1 k1 b2 k2 b3 k3 u u6 u9 u10 u13 u14 u17 u18 W' :=
  ⟨h.lo.trans (hb.mono h.sz), Nat.le_trans h.sz hb.size, fun _ => hn, fun e => own_below (h.r0 e) hb, fun e => (h.s1 e).below hb, fun e => own_below (h.r1 e) hb, fun e => (h.s2 e).below hb, fun e => own_below (h.r2 e) hb, fun e => (h.s3 e).below hb, fun e => own_below (h.r3 e) hb, fun _ => rfl, h.v1, h.v2, h.v3⟩
theorem CpS.got0 {v : Slots} {b : BookT} {n : Nat} {W0 : World} {b0 k0 b1 k1 b2 k2 b3 k3 : Bool} {u5 u6 u9 u10 u13 u14 u17 u18 u : Value} {W W' : World} (h : CpS v b n W0 b0 k0 b1 k1 b2 k2 b3 k3 u5 u6 u9 u10 u13 u14 u17 u18 W) (hb : Below W.heap.size W W') (hn : W'.ownsRow (n + 2) 33 4 u b.hs.length (flatI b.hs)) (hv : b0 = true) :
    CpS v b n W0 b0 true b1 k1 b2 k2 b3 k3 u5 u u9 u10 u13 u14 u17 u18 W' :=
  ⟨h.lo.trans (hb.mono h.sz), Nat.le_trans h.sz hb.size, fun e => (h.s0 e).below hb, fun _ => hn, fun e => (h.s1 e).below hb, fun e => own_below (h.r1 e) hb, fun e => (h.s2 e).below hb, fun e => own_below (h.r2 e) hb, fun e => (h.s3 e).below hb, fun e => own_below (h.r3 e) hb, fun _ => hv, fun e => ⟨(h.v1 e).1, rfl⟩, h.v2, h.v3⟩
theorem CpS.mk1 {v : Slots} {b : BookT} {n : Nat} {W0 : World} {b0 k0 b1 k1 b2 k2 b3 k3 : Bool} {u5 u6 u9 u10 u13 u14 u17 u18 u : Value} {W W' : World} (h : CpS v b n W0 b0 k0 b1 k1 b2 k2 b3 k3 u5 u6 u9 u10 u13 u14 u17 u18 W) (hb : Below W.heap.size W W') (hn : OneSl W' u v.s b.ss.length v.cs) :
    CpS v b n W0 b0 k0 true k1 b2 k2 b3 k3 u5 u6 u u10 u13 u14 u17 u18 W' :=
  ⟨h.lo.trans (hb.mono h.sz), Nat.le_trans h.sz hb.size, fun e => (h.s0 e).below hb, fun e => own_below (h.r0 e) hb, fun _ => hn, fun e => own_below (h.r1 e) hb, fun e => (h.s2 e).below hb, fun e => own_below (h.r2 e) hb, fun e => (h.s3 e).below hb, fun e => own_below (h.r3 e) hb, h.v0, fun e => ⟨rfl, (h.v1 e).2⟩, h.v2, h.v3⟩
theorem CpS.got1 {v : Slots} {b : BookT} {n : Nat} {W0 : World} {b0 k0 b1 k1 b2 k2 b3 k3 : Bool} {u5 u6 u9 u10 u13 u14 u17 u18 u : Value} {W W' : World} (h : CpS v b n W0 b0 k0 b1 k1 b2 k2 b3 k3 u5 u6 u9 u10 u13 u14 u17 u18 W) (hb : Below W.heap.size W W') (hn : W'.ownsRow (n + 2) 45 3 u b.ss.length (flatI b.ss)) (hv : b1 = true ∧ k0 = true) :
    CpS v b n W0 b0 k0 b1 true b2 k2 b3 k3 u5 u6 u9 u u13 u14 u17 u18 W' :=
  ⟨h.lo.trans (hb.mono h.sz), Nat.le_trans h.sz hb.size, fun e => (h.s0 e).below hb, fun e => own_below (h.r0 e) hb, fun e => (h.s1 e).below hb, fun _ => hn, fun e => (h.s2 e).below hb, fun e => own_below (h.r2 e) hb, fun e => (h.s3 e).below hb, fun e => own_below (h.r3 e) hb, h.v0, fun _ => hv, fun e => ⟨(h.v2 e).1, rfl⟩, h.v3⟩
theorem CpS.mk2 {v : Slots} {b : BookT} {n : Nat} {W0 : World} {b0 k0 b1 k1 b2 k2 b3 k3 : Bool} {u5 u6 u9 u10 u13 u14 u17 u18 u : Value} {W W' : World} (h : CpS v b n W0 b0 k0 b1 k1 b2 k2 b3 k3 u5 u6 u9 u10 u13 u14 u17 u18 W) (hb : Below W.heap.size W W') (hn : OneSl W' u v.o b.os.length v.co) :
    CpS v b n W0 b0 k0 b1 k1 true k2 b3 k3 u5 u6 u9 u10 u u14 u17 u18 W' :=
  ⟨h.lo.trans (hb.mono h.sz), Nat.le_trans h.sz hb.size, fun e => (h.s0 e).below hb, fun e => own_below (h.r0 e) hb, fun e => (h.s1 e).below hb, fun e => own_below (h.r1 e) hb, fun _ => hn, fun e => own_below (h.r2 e) hb, fun e => (h.s3 e).below hb, fun e => own_below (h.r3 e) hb, h.v0, h.v1, fun e => ⟨rfl, (h.v2 e).2⟩, h.v3⟩
theorem CpS.got2 {v : Slots} {b : BookT} {n : Nat} {W0 : World} {b0 k0 b1 k1 b2 k2 b3 k3 : Bool} {u5 u6 u9 u10 u13 u14 u17 u18 u : Value} {W W' : World} (h : CpS v b n W0 b0 k0 b1 k1 b2 k2 b3 k3 u5 u6 u9 u10 u13 u14 u17 u18 W) (hb : Below W.heap.size W W') (hn : W'.ownsRow (n + 2) 37 6 u b.os.length (flatI b.os)) (hv : b2 = true ∧ k1 = true) :
    CpS v b n W0 b0 k0 b1 k1 b2 true b3 k3 u5 u6 u9 u10 u13 u u17 u18 W' :=
  ⟨h.lo.trans (hb.mono h.sz), Nat.le_trans h.sz hb.size, fun e => (h.s0 e).below hb, fun e => own_below (h.r0 e) hb, fun e => (h.s1 e).below hb, fun e => own_below (h.r1 e) hb, fun e => (h.s2 e).below hb, fun _ => hn, fun e => (h.s3 e).below hb, fun e => own_below (h.r3 e) hb, h.v0, h.v1, fun _ => hv, fun e => ⟨(h.v3 e).1, rfl⟩⟩
theorem CpS.mk3 {v : Slots} {b : BookT} {n : Nat} {W0 : World} {b0 k0 b1 k1 b2 k2 b3 k3 : Bool} {u5 u6 u9 u10 u13 u14 u17 u18 u : Value} {W W' : World} (h : CpS v b n W0 b0 k0 b1 k1 b2 k2 b3 k3 u5 u6 u9 u10 u13 u14 u17 u18 W) (hb : Below W.heap.size W W') (hn : OneSl W' u v.r b.rs.length v.cr) :
    CpS v b n W0 b0 k0 b1 k1 b2 k2 true k3 u5 u6 u9 u10 u13 u14 u u18 W' :=
  ⟨h.lo.trans (hb.mono h.sz), Nat.le_trans h.sz hb.size, fun e => (h.s0 e).below hb, fun e => own_below (h.r0 e) hb, fun e => (h.s1 e).below hb, fun e => own_below (h.r1 e) hb, fun e => (h.s2 e).below hb, fun e => own_below (h.r2 e) hb, fun _ => hn, fun e => own_below (h.r3 e) hb, h.v0, h.v1, h.v2, fun e => ⟨rfl, (h.v3 e).2⟩⟩
theorem CpS.got3 {v : Slots} {b : BookT} {n : Nat} {W0 : World} {b0 k0 b1 k1 b2 k2 b3 k3 : Bool} {u5 u6 u9 u10 u13 u14 u17 u18 u : Value} {W W' : World} (h : CpS v b n W0 b0 k0 b1 k1 b2 k2 b3 k3 u5 u6 u9 u10 u13 u14 u17 u18 W) (hb : Below W.heap.size W W') (hn : W'.ownsRow (n + 2) 47 2 u b.rs.length (flatI b.rs)) (hv : b3 = true ∧ k2 = true) :
    CpS v b n W0 b0 k0 b1 k1 b2 k2 b3 true u5 u6 u9 u10 u13 u14 u17 u W' :=
  ⟨h.lo.trans (hb.mono h.sz), Nat.le_trans h.sz hb.size, fun e => (h.s0 e).below hb, fun e => own_below (h.r0 e) hb, fun e => (h.s1 e).below hb, fun e => own_below (h.r1 e) hb, fun e => (h.s2 e).below hb, fun e => own_below (h.r2 e) hb, fun e => (h.s3 e).below hb, fun _ => hn, h.v0, h.v1, h.v2, fun _ => hv⟩
theorem oneHolder {W : World} {u : Value} {a : Option Addr} {c : Nat} {l : List Item} (h : OneSl W u a l.length c) (hr : RowsOf 4 W a l) (hk : ItemsOk 4 1000 l) :
    Calls Try.prog 39 #[u] W fun e w' => ∃ v, e = .returned v ∧ w'.ownsRow W.heap.size 33 4 v l.length (flatI l) ∧ Below W.heap.size W w' := by
  obtain ⟨g, rfl, hg, hc⟩ := h
  have hcat : catP [⟨a, c, l⟩] = l := by simp [catP]
  refine (concatHolder g 1 [⟨a, c, l⟩] W hg (fun i p hi => ?_) (fun p hp => ?_) (fun p hp => ?_) ?_ (by simp)).mono ?_
  · match i, hi with
    | 0, hi => simp at hi; subst hi; exact hc
    | i + 1, hi => simp at hi
  · rw [List.mem_singleton.1 hp]; exact hr
  · rw [List.mem_singleton.1 hp]; exact fun x hx => (hk.2 x hx).1
  · rw [hcat]; have := hk.1; omega
  · rintro e w' ⟨v, rfl, hs⟩
    rw [hcat] at hs
    exact ⟨v, rfl, hs.row, hs.lo⟩
theorem oneStake {W : World} {u : Value} {a : Option Addr} {c : Nat} {l : List Item} (h : OneSl W u a l.length c) (hr : RowsOf 3 W a l) (hk : ItemsOk 3 1000 l) :
    Calls Try.prog 40 #[u] W fun e w' => ∃ v, e = .returned v ∧ w'.ownsRow W.heap.size 45 3 v l.length (flatI l) ∧ Below W.heap.size W w' := by
  obtain ⟨g, rfl, hg, hc⟩ := h
  have hcat : catP [⟨a, c, l⟩] = l := by simp [catP]
  refine (concatStake g 1 [⟨a, c, l⟩] W hg (fun i p hi => ?_) (fun p hp => ?_) (fun p hp => ?_) ?_ (by simp)).mono ?_
  · match i, hi with
    | 0, hi => simp at hi; subst hi; exact hc
    | i + 1, hi => simp at hi
  · rw [List.mem_singleton.1 hp]; exact hr
  · rw [List.mem_singleton.1 hp]; exact fun x hx => (hk.2 x hx).1
  · rw [hcat]; have := hk.1; omega
  · rintro e w' ⟨v, rfl, hs⟩
    rw [hcat] at hs
    exact ⟨v, rfl, hs.row, hs.lo⟩
theorem oneOpen {W : World} {u : Value} {a : Option Addr} {c : Nat} {l : List Item} (h : OneSl W u a l.length c) (hr : RowsOf 6 W a l) (hk : ItemsOk 6 1000 l) :
    Calls Try.prog 41 #[u] W fun e w' => ∃ v, e = .returned v ∧ w'.ownsRow W.heap.size 37 6 v l.length (flatI l) ∧ Below W.heap.size W w' := by
  obtain ⟨g, rfl, hg, hc⟩ := h
  have hcat : catP [⟨a, c, l⟩] = l := by simp [catP]
  refine (concatOpen g 1 [⟨a, c, l⟩] W hg (fun i p hi => ?_) (fun p hp => ?_) (fun p hp => ?_) ?_ (by simp)).mono ?_
  · match i, hi with
    | 0, hi => simp at hi; subst hi; exact hc
    | i + 1, hi => simp at hi
  · rw [List.mem_singleton.1 hp]; exact hr
  · rw [List.mem_singleton.1 hp]; exact fun x hx => (hk.2 x hx).1
  · rw [hcat]; have := hk.1; omega
  · rintro e w' ⟨v, rfl, hs⟩
    rw [hcat] at hs
    exact ⟨v, rfl, hs.row, hs.lo⟩
theorem oneRate {W : World} {u : Value} {a : Option Addr} {c : Nat} {l : List Item} (h : OneSl W u a l.length c) (hr : RowsOf 2 W a l) (hk : ItemsOk 2 1000 l) :
    Calls Try.prog 42 #[u] W fun e w' => ∃ v, e = .returned v ∧ w'.ownsRow W.heap.size 47 2 v l.length (flatI l) ∧ Below W.heap.size W w' := by
  obtain ⟨g, rfl, hg, hc⟩ := h
  have hcat : catP [⟨a, c, l⟩] = l := by simp [catP]
  refine (concatRate g 1 [⟨a, c, l⟩] W hg (fun i p hi => ?_) (fun p hp => ?_) (fun p hp => ?_) ?_ (by simp)).mono ?_
  · match i, hi with
    | 0, hi => simp at hi; subst hi; exact hc
    | i + 1, hi => simp at hi
  · rw [List.mem_singleton.1 hp]; exact hr
  · rw [List.mem_singleton.1 hp]; exact fun x hx => (hk.2 x hx).1
  · rw [hcat]; have := hk.1; omega
  · rintro e w' ⟨v, rfl, hs⟩
    rw [hcat] at hs
    exact ⟨v, rfl, hs.row, hs.lo⟩

set_option maxRecDepth 100000 in
set_option maxHeartbeats 8000000 in
theorem copy13 (v : Slots) (b : BookT) (w : World) (hb : BookIn w v b) (hk : BookOk 1000 b) : Calls Try.prog 13 #[.agg (cellsB v b)] w (BookOut w b) := by
  obtain ⟨W0, hW0⟩ : ∃ W, (w.alloc (.cells (cellsB v b) 27)).alloc (.cells #[.slice none 0 0, .slice none 0 0, .slice none 0 0, .slice none 0 0, .int .i64 0] 27) = W := ⟨_, rfl⟩
  have hlo : Below w.heap.size w W0 := by rw [← hW0]; exact ((Below.refl _ w).alloc (Nat.le_refl _) _).alloc (by simp) _
  have hsz : W0.heap.size = w.heap.size + 2 := by rw [← hW0]; simp
  have hx : BoxB W0 w.heap.size v b ∧ W0.heap[w.heap.size + 1]? = some (.cells #[.slice none 0 0, .slice none 0 0, .slice none 0 0, .slice none 0 0, .int .i64 0] 27) := by rw [← hW0]; exact two_new
  have HC := Lib.hid (show ∀ W, Below (w.heap.size + 1) W0 W → _ from fun W h => (hx.1.below h (by omega)).cells)
  have HG := Lib.hid (show ∀ W, Below (w.heap.size + 2) W0 W → W.heap[w.heap.size + 1]? = some (.cells #[.slice none 0 0, .slice none 0 0, .slice none 0 0, .slice none 0 0, .int .i64 0] 27 (0, 0)) from fun W h => (h.block _ (by omega)).trans hx.2)
  have HLO := Lib.hid (show ∀ W, Below (w.heap.size + 2) W0 W → Below w.heap.size w W from fun W h => hlo.trans (h.mono (by omega)))
  have HS0 := Lib.hid (show w.heap.size + 2 ≤ W0.heap.size by omega)
  have HB := Lib.hid (fun W (h : Below (w.heap.size + 2) W0 W) => hb.below (HLO.out W h))
  have HK := Lib.hid hk
  obtain ⟨POST, hP⟩ : ∃ P, BookOut w b = P := ⟨_, rfl⟩
  rw [hP]
  have HPO := Lib.hid hP
  obtain ⟨CB, hCB⟩ : ∃ C, cellsB v b = C := ⟨_, rfl⟩
  rw [hCB] at hW0 ⊢
  have HCC := Lib.hid hCB
  clear hx hlo hsz hb hk hP hCB
  go_enter Try.func13, Try.ntmps13
  go_wp2
  clear hW0
  refine wp_region_held_drew (S := fun W => Below (w.heap.size + 1) W0 W) (by kernel_rfl) (below_drewN' (Below.refl _ _) 1) (fun hS => ?_)
  refine wpAnyH_take (i := 0) (v := .pointer (some ⟨w.heap.size, 0, none⟩)) rfl (by kernel_rfl) (by kernel_rfl) (by kernel_rfl) (fun _ _ _ h => h) (Or.inl ⟨by simp [Region.wanted], fun W _ => by go_simp⟩) hS ?_
  simp only [List.getElem_toArray, List.getElem_cons_zero, Act.put, List.setIfInBounds_toArray, List.set_cons_zero, List.set_cons_succ]
  refine wpAnyH_take (i := 1) (v := .slice v.h b.hs.length v.ch) rfl (by kernel_rfl) (by kernel_rfl) (by kernel_rfl) (fun _ _ _ h => h) (Or.inl ⟨by simp [Region.wanted], fun W hW => by obtain ⟨c0, c1, c2, c3, c4⟩ := HC.out W hW; go_simp⟩) hS ?_
  simp only [List.getElem_toArray, List.getElem_cons_zero, List.getElem_cons_succ, Act.put, List.setIfInBounds_toArray, List.set_cons_zero, List.set_cons_succ]
  refine wpAnyH_take (i := 4) (v := .pointer (some ⟨w.heap.size, 1, none⟩)) rfl (by kernel_rfl) (by kernel_rfl) (by kernel_rfl) (fun _ _ _ h => h) (Or.inl ⟨by simp [Region.wanted], fun W _ => by go_simp⟩) hS ?_
  simp only [List.getElem_toArray, List.getElem_cons_zero, List.getElem_cons_succ, Act.put, List.setIfInBounds_toArray, List.set_cons_zero, List.set_cons_succ]
  refine wpAnyH_take (i := 5) (v := .slice v.s b.ss.length v.cs) rfl (by kernel_rfl) (by kernel_rfl) (by kernel_rfl) (fun _ _ _ h => h) (Or.inl ⟨by simp [Region.wanted], fun W hW => by obtain ⟨c0, c1, c2, c3, c4⟩ := HC.out W hW; go_simp⟩) hS ?_
  simp only [List.getElem_toArray, List.getElem_cons_zero, List.getElem_cons_succ, Act.put, List.setIfInBounds_toArray, List.set_cons_zero, List.set_cons_succ]
  refine wpAnyH_take (i := 8) (v := .pointer (some ⟨w.heap.size, 2, none⟩)) rfl (by kernel_rfl) (by kernel_rfl) (by kernel_rfl) (fun _ _ _ h => h) (Or.inl ⟨by simp [Region.wanted], fun W _ => by go_simp⟩) hS ?_
  simp only [List.getElem_toArray, List.getElem_cons_zero, List.getElem_cons_succ, Act.put, List.setIfInBounds_toArray, List.set_cons_zero, List.set_cons_succ]
  refine wpAnyH_take (i := 9) (v := .slice v.o b.os.length v.co) rfl (by kernel_rfl) (by kernel_rfl) (by kernel_rfl) (fun _ _ _ h => h) (Or.inl ⟨by simp [Region.wanted], fun W hW => by obtain ⟨c0, c1, c2, c3, c4⟩ := HC.out W hW; go_simp⟩) hS ?_
  simp only [List.getElem_toArray, List.getElem_cons_zero, List.getElem_cons_succ, Act.put, List.setIfInBounds_toArray, List.set_cons_zero, List.set_cons_succ]
  refine wpAnyH_take (i := 12) (v := .pointer (some ⟨w.heap.size, 3, none⟩)) rfl (by kernel_rfl) (by kernel_rfl) (by kernel_rfl) (fun _ _ _ h => h) (Or.inl ⟨by simp [Region.wanted], fun W _ => by go_simp⟩) hS ?_
  simp only [List.getElem_toArray, List.getElem_cons_zero, List.getElem_cons_succ, Act.put, List.setIfInBounds_toArray, List.set_cons_zero, List.set_cons_succ]
  refine wpAnyH_take (i := 13) (v := .slice v.r b.rs.length v.cr) rfl (by kernel_rfl) (by kernel_rfl) (by kernel_rfl) (fun _ _ _ h => h) (Or.inl ⟨by simp [Region.wanted], fun W hW => by obtain ⟨c0, c1, c2, c3, c4⟩ := HC.out W hW; go_simp⟩) hS ?_
  simp only [List.getElem_toArray, List.getElem_cons_zero, List.getElem_cons_succ, Act.put, List.setIfInBounds_toArray, List.set_cons_zero, List.set_cons_succ]
  refine wpAnyH_take (i := 16) (v := .pointer (some ⟨w.heap.size, 4, none⟩)) rfl (by kernel_rfl) (by kernel_rfl) (by kernel_rfl) (fun _ _ _ h => h) (Or.inl ⟨by simp [Region.wanted], fun W _ => by go_simp⟩) hS ?_
  simp only [List.getElem_toArray, List.getElem_cons_zero, List.getElem_cons_succ, Act.put, List.setIfInBounds_toArray, List.set_cons_zero, List.set_cons_succ]
  refine wpAnyH_take (i := 17) (v := .int .i64 b.co) rfl (by kernel_rfl) (by kernel_rfl) (by kernel_rfl) (fun _ _ _ h => h) (Or.inl ⟨by simp [Region.wanted], fun W hW => by obtain ⟨c0, c1, c2, c3, c4⟩ := HC.out W hW; go_simp⟩) hS ?_
  simp only [List.getElem_toArray, List.getElem_cons_zero, List.getElem_cons_succ, Act.put, List.setIfInBounds_toArray, List.set_cons_zero, List.set_cons_succ]
  refine wpAnyH_inv2 (InvC CB v b w.heap.size W0) ?_ _ _ _ _ ⟨false, false, false, false, false, false, false, false, undef, undef, undef, undef, undef, undef, undef, undef, rfl, rfl, ⟨below_drewN' (Below.refl _ _) 1, HS0.out, by simp, by simp, by simp, by simp, by simp, by simp, by simp, by simp, by simp, by simp, by simp, by simp⟩⟩ (by decide)
  clear hS
  rintro l a W ⟨b0, k0, b1, k1, b2, k2, b3, k3, u5, u6, u9, u10, u13, u14, u17, u18, rfl, rfl, h⟩
  have HH := Lib.hid h
  clear h
  cases k3 with
  | true =>
    refine .inl (fun fuel hf => ?_)
    obtain ⟨rfl, rfl⟩ := HH.out.v3 rfl
    obtain ⟨rfl, rfl⟩ := HH.out.v2 rfl
    obtain ⟨rfl, rfl⟩ := HH.out.v1 rfl
    obtain rfl := HH.out.v0 rfl
    obtain ⟨m, rfl⟩ : ∃ m, fuel = m + 2 := ⟨fuel - 2, by have : (LC true true true true true true true true).toList.count false = 2 := by decide
                                                         omega⟩
    clear hf
    obtain ⟨a0, d0, rfl⟩ := own_formK (HH.out.r0 rfl)
    obtain ⟨a1, d1, rfl⟩ := own_formK (HH.out.r1 rfl)
    obtain ⟨a2, d2, rfl⟩ := own_formK (HH.out.r2 rfl)
    obtain ⟨a3, d3, rfl⟩ := own_formK (HH.out.r3 rfl)
    have hS := HH.out.lo.mono (show w.heap.size + 1 ≤ w.heap.size + 2 by omega)
    have HGG := Lib.hid (HG.out _ HH.out.lo)
    clear HS0 HC
    obtain ⟨KS, hKS⟩ : ∃ k : Array Value, k = #[.slice a0 b.hs.length d0, .slice a1 b.ss.length d1, .slice a2 b.os.length d2, .slice a3 b.rs.length d3, .int .i64 b.co] := ⟨_, rfl⟩
    unfold LC
    refine wpAnyH_take (i := 18) (v := .agg #[.slice a0 b.hs.length d0, .slice a1 b.ss.length d1, .slice a2 b.os.length d2, .slice a3 b.rs.length d3, .int .i64 b.co]) rfl (by kernel_rfl) (by kernel_rfl) (by kernel_rfl) (fun _ _ _ h => h) (Or.inl ⟨by simp [Region.wanted], fun W _ => by go_simp⟩) hS ?_
    simp only [List.getElem_toArray, List.getElem_cons_zero, List.getElem_cons_succ, Act.put, List.setIfInBounds_toArray, List.set_cons_zero, List.set_cons_succ]
    refine wpAnyH_ready (rs := [19]) (by kernel_rfl) (by simp) ?_
    refine AllReadyH.cons rfl (fun K19 hK19 => ?_) AllReadyH.nil
    refine wanted_go rfl ?_
    simp only [List.getElem_toArray, List.getElem_cons_zero, List.getElem_cons_succ]
    refine wp_store_row 27 (.tmp 2) (.tmp 21) rfl (w.heap.size + 1) #[.slice a0 b.hs.length d0, .slice a1 b.ss.length d1, .slice a2 b.os.length d2, .slice a3 b.rs.length d3, .int .i64 b.co] rfl rfl 27 #[.slice none 0 0, .slice none 0 0, .slice none 0 0, .slice none 0 0, .int .i64 0] HGG.out info27 rfl (by simp [Value.oneCell']) ?_
    refine hK19.out _ _ (below_rowB hS (Nat.le_refl _)) (fun _ => ?_)
    refine wpAnyH_done (by kernel_rfl) ?_ _
    go_wp2
    refine ret_cell rfl rfl rfl (setRow_heap _ _ _ _ _ _ HGG.out) Try.underlying27 rfl info27 ?_
    rw [← hKS]
    have hlow : ∀ i, w.heap.size + 2 ≤ i → (W.setRow (w.heap.size + 1) KS).heap[i]? = W.heap[i]? := fun i hi => setRow_ne KS (by omega)
    obtain ⟨a0', d0', hv0, q0, n0, e0⟩ := rows_new (by decide) (fun x hx => (HK.out.hs.2 x hx).1) (own_from (own_low (HH.out.r0 rfl) hlow) (show w.heap.size ≤ w.heap.size + 2 by omega))
    obtain ⟨a1', d1', hv1, q1, n1, e1⟩ := rows_new (by decide) (fun x hx => (HK.out.ss.2 x hx).1) (own_from (own_low (HH.out.r1 rfl) hlow) (show w.heap.size ≤ w.heap.size + 2 by omega))
    obtain ⟨a2', d2', hv2, q2, n2, e2⟩ := rows_new (by decide) (fun x hx => (HK.out.os.2 x hx).1) (own_from (own_low (HH.out.r2 rfl) hlow) (show w.heap.size ≤ w.heap.size + 2 by omega))
    obtain ⟨a3', d3', hv3, q3, n3, e3⟩ := rows_new (by decide) (fun x hx => (HK.out.rs.2 x hx).1) (own_from (own_low (HH.out.r3 rfl) hlow) (show w.heap.size ≤ w.heap.size + 2 by omega))
    obtain ⟨rfl, rfl⟩ : a0 = a0' ∧ d0 = d0' := by simpa using hv0
    obtain ⟨rfl, rfl⟩ : a1 = a1' ∧ d1 = d1' := by simpa using hv1
    obtain ⟨rfl, rfl⟩ : a2 = a2' ∧ d2 = d2' := by simpa using hv2
    obtain ⟨rfl, rfl⟩ : a3 = a3' ∧ d3 = d3' := by simpa using hv3
    rw [← HPO.out]
    exact ⟨⟨⟨a0, a1, a2, a3, d0, d1, d2, d3⟩, by rw [hKS]; rfl, ⟨q0, q1, q2, q3⟩, ⟨n0, n1, n2, n3⟩, ⟨e0, e1, e2, e3⟩⟩, below_rowB (HLO.out _ HH.out.lo) (by omega)⟩
  | false =>
    refine .inr ⟨(ready_copy (by kernel_rfl) b0 k0 b1 k1 b2 k2 b3).1, fun i hi => ?_⟩
    have hall := (ready_copy (by kernel_rfl) b0 k0 b1 k1 b2 k2 b3).2 i hi
    clear hi
    rcases hall with ⟨rfl, e⟩ | ⟨rfl, e⟩ | ⟨rfl, e⟩ | ⟨rfl, e⟩ | ⟨rfl, e⟩ | ⟨rfl, e⟩ | ⟨rfl, e⟩ | ⟨rfl, e⟩
    · subst e
      refine ⟨rfl, ?_⟩
      refine wpOp_step rfl (fun KK hKK => ?_)
      have HKK := Lib.hid hKK
      clear hKK
      refine wanted_go rfl ?_
      go_wp2
      refine HKK.out _ _ ⟨(HH.out.lo.alloc HH.out.sz _).mono (by omega), true, k0, b1, k1, b2, k2, b3, false, _, u6, u9, u10, u13, u14, u17, u18, rfl, rfl, HH.out.mk0 ((Below.refl _ _).alloc (Nat.le_refl _) _) (OneSl.new _ _ _ _ _)⟩
    · obtain ⟨rfl, rfl⟩ := e
      refine ⟨rfl, ?_⟩
      refine wpOp_step rfl (fun KK hKK => ?_)
      have HKK := Lib.hid hKK
      clear hKK
      refine wanted_go rfl ?_
      go_wp2_with (go_at_call 39; refine (oneHolder (HH.out.s0 rfl) (HB.out _ HH.out.lo).hs HK.out.hs).mono ?_; rintro e y ⟨vy, rfl, hown, hby⟩)
      refine HKK.out _ _ ⟨(HH.out.lo.trans (hby.mono HH.out.sz)).mono (by omega), true, true, b1, k1, b2, k2, b3, false, u5, _, u9, u10, u13, u14, u17, u18, rfl, rfl, HH.out.got0 hby (own_from hown HH.out.sz) rfl⟩
    · subst e
      refine ⟨rfl, ?_⟩
      refine wpOp_step rfl (fun KK hKK => ?_)
      have HKK := Lib.hid hKK
      clear hKK
      refine wanted_go rfl ?_
      go_wp2
      refine HKK.out _ _ ⟨(HH.out.lo.alloc HH.out.sz _).mono (by omega), b0, k0, true, k1, b2, k2, b3, false, u5, u6, _, u10, u13, u14, u17, u18, rfl, rfl, HH.out.mk1 ((Below.refl _ _).alloc (Nat.le_refl _) _) (OneSl.new _ _ _ _ _)⟩
    · obtain ⟨rfl, rfl, rfl⟩ := e
      refine ⟨rfl, ?_⟩
      refine wpOp_step rfl (fun KK hKK => ?_)
      have HKK := Lib.hid hKK
      clear hKK
      refine wanted_go rfl ?_
      go_wp2_with (go_at_call 40; refine (oneStake (HH.out.s1 rfl) (HB.out _ HH.out.lo).ss HK.out.ss).mono ?_; rintro e y ⟨vy, rfl, hown, hby⟩)
      refine HKK.out _ _ ⟨(HH.out.lo.trans (hby.mono HH.out.sz)).mono (by omega), b0, true, true, true, b2, k2, b3, false, u5, u6, u9, _, u13, u14, u17, u18, rfl, rfl, HH.out.got1 hby (own_from hown HH.out.sz) ⟨rfl, rfl⟩⟩
    · subst e
      refine ⟨rfl, ?_⟩
      refine wpOp_step rfl (fun KK hKK => ?_)
      have HKK := Lib.hid hKK
      clear hKK
      refine wanted_go rfl ?_
      go_wp2
      refine HKK.out _ _ ⟨(HH.out.lo.alloc HH.out.sz _).mono (by omega), b0, k0, b1, k1, true, k2, b3, false, u5, u6, u9, u10, _, u14, u17, u18, rfl, rfl, HH.out.mk2 ((Below.refl _ _).alloc (Nat.le_refl _) _) (OneSl.new _ _ _ _ _)⟩
    · obtain ⟨rfl, rfl, rfl⟩ := e
      refine ⟨rfl, ?_⟩
      refine wpOp_step rfl (fun KK hKK => ?_)
      have HKK := Lib.hid hKK
      clear hKK
      refine wanted_go rfl ?_
      go_wp2_with (go_at_call 41; refine (oneOpen (HH.out.s2 rfl) (HB.out _ HH.out.lo).os HK.out.os).mono ?_; rintro e y ⟨vy, rfl, hown, hby⟩)
      refine HKK.out _ _ ⟨(HH.out.lo.trans (hby.mono HH.out.sz)).mono (by omega), b0, k0, b1, true, true, true, b3, false, u5, u6, u9, u10, u13, _, u17, u18, rfl, rfl, HH.out.got2 hby (own_from hown HH.out.sz) ⟨rfl, rfl⟩⟩
    · subst e
      refine ⟨rfl, ?_⟩
      refine wpOp_step rfl (fun KK hKK => ?_)
      have HKK := Lib.hid hKK
      clear hKK
      refine wanted_go rfl ?_
      go_wp2
      refine HKK.out _ _ ⟨(HH.out.lo.alloc HH.out.sz _).mono (by omega), b0, k0, b1, k1, b2, k2, true, false, u5, u6, u9, u10, u13, u14, _, u18, rfl, rfl, HH.out.mk3 ((Below.refl _ _).alloc (Nat.le_refl _) _) (OneSl.new _ _ _ _ _)⟩
    · obtain ⟨rfl, rfl⟩ := e
      refine ⟨rfl, ?_⟩
      refine wpOp_step rfl (fun KK hKK => ?_)
      have HKK := Lib.hid hKK
      clear hKK
      refine wanted_go rfl ?_
      go_wp2_with (go_at_call 42; refine (oneRate (HH.out.s3 rfl) (HB.out _ HH.out.lo).rs HK.out.rs).mono ?_; rintro e y ⟨vy, rfl, hown, hby⟩)
      refine HKK.out _ _ ⟨(HH.out.lo.trans (hby.mono HH.out.sz)).mono (by omega), b0, k0, b1, k1, b2, true, true, true, u5, u6, u9, u10, u13, u14, u17, _, rfl, rfl, HH.out.got3 hby (own_from hown HH.out.sz) ⟨rfl, rfl⟩⟩
end Go.Proofs.Ytofmkbijhmbbcaa
