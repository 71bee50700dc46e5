/- The walk of BookFinds. A book that comes in, and its things. -/
import Derived.Test.YtellifcjamedkaaGreatMAm
import Derived.Deep.Slices
import Derived.OpenShut
import Derived.WideShapes
import Derived.ChangeAt
namespace Go.Proofs.YtellifcjamedkaaGreat
open Go.RowKit Base Base2
/-- Things of so many numbers of 64 bits each, however many. -/
def ItemsWf (k : Nat) (l : List Item) : Prop := ∀ x ∈ l, x.length = k ∧ ∀ z ∈ x, in6 z
structure BookWf (b : BookT) : Prop where
  hs : ItemsWf 4 b.hs
  ss : ItemsWf 3 b.ss
  os : ItemsWf 6 b.os
  rs : ItemsWf 2 b.rs
  co : in6 b.co
theorem ok_of_great {b : BookT} (h : greatT b = false) (hw : BookWf b) : BookOk 200 b := by
  unfold greatT at h
  simp only [Bool.or_eq_false_iff, decide_eq_false_iff_not] at h
  obtain ⟨⟨⟨h1, h2⟩, h3⟩, h4⟩ := h
  exact ⟨⟨by omega, hw.hs⟩, ⟨by omega, hw.ss⟩, ⟨by omega, hw.os⟩, ⟨by omega, hw.rs⟩, hw.co⟩
/-- A law's book in its box, while the law goes on. -/
structure Bs (K : World → Prop) (w : World) (g : Nat) (v : Slots) (b : BookT) (W : World) : Prop where
  k : K W
  lo : Below w.heap.size w W
  box : BoxB W g v b
  bin : BookIn W v b
theorem lt_blkB {W : World} {g : Nat} {o : Obj} (h : W.heap[g]? = some o) : g < W.heap.size := (Array.getElem?_eq_some_iff.1 h).1
theorem Bs.below {K : World → Prop} (hK : ∀ (W W' : World), K W → Below W.heap.size W W' → K W') {w : World} {g : Nat} {v : Slots} {b : BookT} {W W' : World} (h : Bs K w g v b W) (hb : Below W.heap.size W W') : Bs K w g v b W' :=
  ⟨hK _ _ h.k hb, h.lo.trans (hb.mono h.lo.size), (hb.block _ (lt_blkB h.box)).trans h.box, h.bin.below hb⟩
end Go.Proofs.YtellifcjamedkaaGreat
namespace Go.Proofs.YtellifcjamedkaaGreat
open Go.ChangeShapes Go.WideShapes Go.ChangeAt Go.RowKit Go.Lib Base Base2
theorem cellsN64 : Tryz.prog.cellsOf 2 = 1 := by kernel_rfl
theorem cellsNi : Tryz.prog.cellsOf 3 = 1 := by kernel_rfl
def IWf (k : Nat) (x : Item) : Prop := x.length = k ∧ ∀ z ∈ x, in6 z
def itemVals (x : Item) : List Value := x.map (Value.int .i64)
theorem in6_of {z : Int} (h : (Lit.int .i64 z).wf = true) : in6 z := by
  simpa [Lit.wf, IntKind.min, IntKind.max, IntKind.signed, IntKind.bits, in6] using h
/-- Things of k numbers in a row that comes in. -/
theorem open_rows {k : Nat} {T E : TypeId} (hT : Tryz.prog.underlying T = some (.slice E)) (hE : Tryz.prog.cellsOf E = k) (hk : 0 < k)
    {H : Type} {enc : TypeId × Value → H} {W : World} {base : Nat} {spare : Nat → Bool} {held : Bool}
    (hIt : ∀ (fuel : Nat) (cs : List Value) (x : DataW H × List MemPlace), DataW.trod enc Tryz.prog W base spare held fuel E cs = some x → ∃ g : Item, cs = itemVals g ∧ IWf k g)
    {fuel : Nat} {cs : List Value} {x : DataW H × List MemPlace} (hf : DataW.trod enc Tryz.prog W base spare held fuel T cs = some x) :
    ∃ (a : Option Addr) (c : Nat) (l : List Item), cs = [.slice a l.length c] ∧ RowsOf k W a l ∧ (∀ g ∈ l, IWf k g) ∧ l.length ≤ c := by
  rcases Go.Deep.open_slice hT hf with ⟨rfl, _⟩ | ⟨x, len, c, m, n, D, Pl, rfl, _, hl, hm, hmm, _, hcells⟩
  · exact ⟨none, 0, [], rfl, .inl rfl, by simp, Nat.le_refl _⟩
  · have hlm : len ≤ m := by rw [hmm]; split <;> omega
    rw [hE] at hcells
    have hv1 : ∀ i, i < len → ∃ g : Item, IWf k g ∧ ∀ j, j < k → W.cell? (x.add (i * k + j)) = (itemVals g)[j]? := fun i hi => by
      obtain ⟨cs, h1, h2⟩ := hcells i (by omega)
      obtain ⟨g, rfl, hw⟩ := hIt _ _ _ h2
      obtain ⟨_, _, h3⟩ := World.cells?_some h1
      exact ⟨g, hw, fun j hj => by rw [← h3 j hj, Addr.add_add]⟩
    obtain ⟨f, hf2⟩ : ∃ f : Nat → Item, ∀ i, i < len → IWf k (f i) ∧ ∀ j, j < k → W.cell? (x.add (i * k + j)) = (itemVals (f i))[j]? := by
      refine ⟨fun i => if h : i < len then (hv1 i h).choose else [], fun i hi => ?_⟩
      simp only [dif_pos hi]
      exact (hv1 i hi).choose_spec
    refine ⟨some x, c, (List.range len).map f, by simp, ?_, fun g hg => ?_, by simpa using hl⟩
    · by_cases h00 : len = 0
      · subst h00; exact .inl rfl
      · obtain ⟨b, off, spot⟩ := x
        have h0 := hf2 0 (by omega)
        obtain ⟨z0, hz0⟩ : ∃ z, (f 0)[0]? = some z := ⟨(f 0)[0]'(by rw [h0.1.1]; exact hk), by simp⟩
        have hc0 : W.cell? ((⟨b, off, spot⟩ : Addr).add (0 * k + 0)) = some (.int .i64 z0) := by
          rw [h0.2 0 hk]; simp [itemVals, hz0]
        have hspot : spot = none := by
          have h := World.cell?_spot hc0
          simpa [Addr.add] using h
        subst hspot
        refine .inr ⟨b, off, rfl, ?_, fun i g hi j z hz => ?_⟩
        · rw [Addr.add_mid] at hc0
          exact World.block_lt_of_cell? W _ hc0
        · have hin : i < len := by simpa using (List.getElem?_eq_some_iff.1 hi).1
          simp [hin] at hi
          subst hi
          have hjk : j < k := by
            have := (List.getElem?_eq_some_iff.1 hz).1
            rw [(hf2 i hin).1.1] at this; exact this
          have h := (hf2 i hin).2 j hjk
          rw [Addr.add_mid] at h
          rw [show off + i * k + j = off + (i * k + j) by omega, h]
          simp [itemVals, hz]
    · obtain ⟨i, hi, rfl⟩ := List.mem_map.1 hg
      exact (hf2 i (by simpa using hi)).1
theorem iwf_rows {k : Nat} {l : List Item} (h : ∀ g ∈ l, IWf k g) : ItemsWf k l := fun g hg => h g hg
theorem cellsTHolder : Tryz.prog.cellsOf 71 = 4 := by kernel_rfl
set_option maxRecDepth 100000 in
theorem trod_holder {H : Type} {enc : TypeId × Value → H} {w : World} {base : Nat} {sp : Nat → Bool} {held : Bool} (fuel : Nat) (cs : List Value) (x : DataW H × List MemPlace)
    (h : DataW.trod enc Tryz.prog w base sp held fuel 71 cs = some x) : ∃ g : Item, cs = itemVals g ∧ IWf 4 g := by
  obtain ⟨xs, m, _, rfl, hl, hxl, hi⟩ := DataW.trod_struct Tryz.underlying71 h
  obtain ⟨y0, y1, y2, y3, rfl⟩ : ∃ y0 y1 y2 y3, xs = [y0, y1, y2, y3] := by
    match xs, hxl with
    | [y0, y1, y2, y3], _ => exact ⟨_, _, _, _, rfl⟩
  rw [cellsTHolder] at hl
  obtain ⟨v0, v1, v2, v3, rfl⟩ : ∃ v0 v1 v2 v3, cs = [v0, v1, v2, v3] := by
    match cs, hl with
    | [v0, v1, v2, v3], _ => exact ⟨_, _, _, _, rfl⟩
  have e0 : DataW.trod enc Tryz.prog w base sp held m 2 (([v0, v1, v2, v3].drop 0).take (Tryz.prog.cellsOf 2)) = some y0 := hi 0 _ rfl
  rw [cellsN64] at e0
  obtain ⟨z0, hz0, rfl, w0⟩ := DataW.trod_int Tryz.underlying2 e0
  obtain rfl : v0 = .int .i64 z0 := by simpa using hz0
  have e1 : DataW.trod enc Tryz.prog w base sp held m 2 (([.int .i64 z0, v1, v2, v3].drop 1).take (Tryz.prog.cellsOf 2)) = some y1 := hi 1 _ rfl
  rw [cellsN64] at e1
  obtain ⟨z1, hz1, rfl, w1⟩ := DataW.trod_int Tryz.underlying2 e1
  obtain rfl : v1 = .int .i64 z1 := by simpa using hz1
  have e2 : DataW.trod enc Tryz.prog w base sp held m 2 (([.int .i64 z0, .int .i64 z1, v2, v3].drop 2).take (Tryz.prog.cellsOf 2)) = some y2 := hi 2 _ rfl
  rw [cellsN64] at e2
  obtain ⟨z2, hz2, rfl, w2⟩ := DataW.trod_int Tryz.underlying2 e2
  obtain rfl : v2 = .int .i64 z2 := by simpa using hz2
  have e3 : DataW.trod enc Tryz.prog w base sp held m 2 (([.int .i64 z0, .int .i64 z1, .int .i64 z2, v3].drop 3).take (Tryz.prog.cellsOf 2)) = some y3 := hi 3 _ rfl
  rw [cellsN64] at e3
  obtain ⟨z3, hz3, rfl, w3⟩ := DataW.trod_int Tryz.underlying2 e3
  obtain rfl : v3 = .int .i64 z3 := by simpa using hz3
  refine ⟨[z0, z1, z2, z3], rfl, rfl, fun z hz => ?_⟩
  simp only [List.mem_cons, List.not_mem_nil, or_false] at hz
  rcases hz with rfl | rfl | rfl | rfl
  · exact in6_of w0
  · exact in6_of w1
  · exact in6_of w2
  · exact in6_of w3
theorem cellsTStake : Tryz.prog.cellsOf 73 = 3 := by kernel_rfl
set_option maxRecDepth 100000 in
theorem trod_stake {H : Type} {enc : TypeId × Value → H} {w : World} {base : Nat} {sp : Nat → Bool} {held : Bool} (fuel : Nat) (cs : List Value) (x : DataW H × List MemPlace)
    (h : DataW.trod enc Tryz.prog w base sp held fuel 73 cs = some x) : ∃ g : Item, cs = itemVals g ∧ IWf 3 g := by
  obtain ⟨xs, m, _, rfl, hl, hxl, hi⟩ := DataW.trod_struct Tryz.underlying73 h
  obtain ⟨y0, y1, y2, rfl⟩ : ∃ y0 y1 y2, xs = [y0, y1, y2] := by
    match xs, hxl with
    | [y0, y1, y2], _ => exact ⟨_, _, _, rfl⟩
  rw [cellsTStake] at hl
  obtain ⟨v0, v1, v2, rfl⟩ : ∃ v0 v1 v2, cs = [v0, v1, v2] := by
    match cs, hl with
    | [v0, v1, v2], _ => exact ⟨_, _, _, rfl⟩
  have e0 : DataW.trod enc Tryz.prog w base sp held m 2 (([v0, v1, v2].drop 0).take (Tryz.prog.cellsOf 2)) = some y0 := hi 0 _ rfl
  rw [cellsN64] at e0
  obtain ⟨z0, hz0, rfl, w0⟩ := DataW.trod_int Tryz.underlying2 e0
  obtain rfl : v0 = .int .i64 z0 := by simpa using hz0
  have e1 : DataW.trod enc Tryz.prog w base sp held m 2 (([.int .i64 z0, v1, v2].drop 1).take (Tryz.prog.cellsOf 2)) = some y1 := hi 1 _ rfl
  rw [cellsN64] at e1
  obtain ⟨z1, hz1, rfl, w1⟩ := DataW.trod_int Tryz.underlying2 e1
  obtain rfl : v1 = .int .i64 z1 := by simpa using hz1
  have e2 : DataW.trod enc Tryz.prog w base sp held m 2 (([.int .i64 z0, .int .i64 z1, v2].drop 2).take (Tryz.prog.cellsOf 2)) = some y2 := hi 2 _ rfl
  rw [cellsN64] at e2
  obtain ⟨z2, hz2, rfl, w2⟩ := DataW.trod_int Tryz.underlying2 e2
  obtain rfl : v2 = .int .i64 z2 := by simpa using hz2
  refine ⟨[z0, z1, z2], rfl, rfl, fun z hz => ?_⟩
  simp only [List.mem_cons, List.not_mem_nil, or_false] at hz
  rcases hz with rfl | rfl | rfl
  · exact in6_of w0
  · exact in6_of w1
  · exact in6_of w2
theorem cellsTOpen : Tryz.prog.cellsOf 76 = 6 := by kernel_rfl
set_option maxRecDepth 100000 in
theorem trod_open {H : Type} {enc : TypeId × Value → H} {w : World} {base : Nat} {sp : Nat → Bool} {held : Bool} (fuel : Nat) (cs : List Value) (x : DataW H × List MemPlace)
    (h : DataW.trod enc Tryz.prog w base sp held fuel 76 cs = some x) : ∃ g : Item, cs = itemVals g ∧ IWf 6 g := by
  obtain ⟨xs, m, _, rfl, hl, hxl, hi⟩ := DataW.trod_struct Tryz.underlying76 h
  obtain ⟨y0, y1, y2, y3, y4, y5, rfl⟩ : ∃ y0 y1 y2 y3 y4 y5, xs = [y0, y1, y2, y3, y4, y5] := by
    match xs, hxl with
    | [y0, y1, y2, y3, y4, y5], _ => exact ⟨_, _, _, _, _, _, rfl⟩
  rw [cellsTOpen] at hl
  obtain ⟨v0, v1, v2, v3, v4, v5, rfl⟩ : ∃ v0 v1 v2 v3 v4 v5, cs = [v0, v1, v2, v3, v4, v5] := by
    match cs, hl with
    | [v0, v1, v2, v3, v4, v5], _ => exact ⟨_, _, _, _, _, _, rfl⟩
  have e0 : DataW.trod enc Tryz.prog w base sp held m 2 (([v0, v1, v2, v3, v4, v5].drop 0).take (Tryz.prog.cellsOf 2)) = some y0 := hi 0 _ rfl
  rw [cellsN64] at e0
  obtain ⟨z0, hz0, rfl, w0⟩ := DataW.trod_int Tryz.underlying2 e0
  obtain rfl : v0 = .int .i64 z0 := by simpa using hz0
  have e1 : DataW.trod enc Tryz.prog w base sp held m 2 (([.int .i64 z0, v1, v2, v3, v4, v5].drop 1).take (Tryz.prog.cellsOf 2)) = some y1 := hi 1 _ rfl
  rw [cellsN64] at e1
  obtain ⟨z1, hz1, rfl, w1⟩ := DataW.trod_int Tryz.underlying2 e1
  obtain rfl : v1 = .int .i64 z1 := by simpa using hz1
  have e2 : DataW.trod enc Tryz.prog w base sp held m 2 (([.int .i64 z0, .int .i64 z1, v2, v3, v4, v5].drop 2).take (Tryz.prog.cellsOf 2)) = some y2 := hi 2 _ rfl
  rw [cellsN64] at e2
  obtain ⟨z2, hz2, rfl, w2⟩ := DataW.trod_int Tryz.underlying2 e2
  obtain rfl : v2 = .int .i64 z2 := by simpa using hz2
  have e3 : DataW.trod enc Tryz.prog w base sp held m 3 (([.int .i64 z0, .int .i64 z1, .int .i64 z2, v3, v4, v5].drop 3).take (Tryz.prog.cellsOf 3)) = some y3 := hi 3 _ rfl
  rw [cellsNi] at e3
  obtain ⟨z3, hz3, rfl, w3⟩ := DataW.trod_int Tryz.underlying3 e3
  obtain rfl : v3 = .int .i64 z3 := by simpa using hz3
  have e4 : DataW.trod enc Tryz.prog w base sp held m 2 (([.int .i64 z0, .int .i64 z1, .int .i64 z2, .int .i64 z3, v4, v5].drop 4).take (Tryz.prog.cellsOf 2)) = some y4 := hi 4 _ rfl
  rw [cellsN64] at e4
  obtain ⟨z4, hz4, rfl, w4⟩ := DataW.trod_int Tryz.underlying2 e4
  obtain rfl : v4 = .int .i64 z4 := by simpa using hz4
  have e5 : DataW.trod enc Tryz.prog w base sp held m 2 (([.int .i64 z0, .int .i64 z1, .int .i64 z2, .int .i64 z3, .int .i64 z4, v5].drop 5).take (Tryz.prog.cellsOf 2)) = some y5 := hi 5 _ rfl
  rw [cellsN64] at e5
  obtain ⟨z5, hz5, rfl, w5⟩ := DataW.trod_int Tryz.underlying2 e5
  obtain rfl : v5 = .int .i64 z5 := by simpa using hz5
  refine ⟨[z0, z1, z2, z3, z4, z5], rfl, rfl, fun z hz => ?_⟩
  simp only [List.mem_cons, List.not_mem_nil, or_false] at hz
  rcases hz with rfl | rfl | rfl | rfl | rfl | rfl
  · exact in6_of w0
  · exact in6_of w1
  · exact in6_of w2
  · exact in6_of w3
  · exact in6_of w4
  · exact in6_of w5
theorem cellsTRate : Tryz.prog.cellsOf 50 = 2 := by kernel_rfl
set_option maxRecDepth 100000 in
theorem trod_rate {H : Type} {enc : TypeId × Value → H} {w : World} {base : Nat} {sp : Nat → Bool} {held : Bool} (fuel : Nat) (cs : List Value) (x : DataW H × List MemPlace)
    (h : DataW.trod enc Tryz.prog w base sp held fuel 50 cs = some x) : ∃ g : Item, cs = itemVals g ∧ IWf 2 g := by
  obtain ⟨xs, m, _, rfl, hl, hxl, hi⟩ := DataW.trod_struct Tryz.underlying50 h
  obtain ⟨y0, y1, rfl⟩ : ∃ y0 y1, xs = [y0, y1] := by
    match xs, hxl with
    | [y0, y1], _ => exact ⟨_, _, rfl⟩
  rw [cellsTRate] at hl
  obtain ⟨v0, v1, rfl⟩ : ∃ v0 v1, cs = [v0, v1] := by
    match cs, hl with
    | [v0, v1], _ => exact ⟨_, _, rfl⟩
  have e0 : DataW.trod enc Tryz.prog w base sp held m 2 (([v0, v1].drop 0).take (Tryz.prog.cellsOf 2)) = some y0 := hi 0 _ rfl
  rw [cellsN64] at e0
  obtain ⟨z0, hz0, rfl, w0⟩ := DataW.trod_int Tryz.underlying2 e0
  obtain rfl : v0 = .int .i64 z0 := by simpa using hz0
  have e1 : DataW.trod enc Tryz.prog w base sp held m 2 (([.int .i64 z0, v1].drop 1).take (Tryz.prog.cellsOf 2)) = some y1 := hi 1 _ rfl
  rw [cellsN64] at e1
  obtain ⟨z1, hz1, rfl, w1⟩ := DataW.trod_int Tryz.underlying2 e1
  obtain rfl : v1 = .int .i64 z1 := by simpa using hz1
  refine ⟨[z0, z1], rfl, rfl, fun z hz => ?_⟩
  simp only [List.mem_cons, List.not_mem_nil, or_false] at hz
  rcases hz with rfl | rfl
  · exact in6_of w0
  · exact in6_of w1
theorem cellsTBook : Tryz.prog.cellsOf 27 = 5 := by kernel_rfl
theorem cellsLHolder : Tryz.prog.cellsOf 22 = 1 := by kernel_rfl
theorem cellsLStake : Tryz.prog.cellsOf 23 = 1 := by kernel_rfl
theorem cellsLOpen : Tryz.prog.cellsOf 24 = 1 := by kernel_rfl
theorem cellsLRate : Tryz.prog.cellsOf 25 = 1 := by kernel_rfl
set_option maxRecDepth 100000 in
theorem open_book {H : Type} {enc : TypeId × Value → H} {w : World} {base : Nat} {sp : Nat → Bool} {held : Bool} {r : Reach} {b0 : Nat} {v : Value} {d : DataW H} {p : List MemPlace}
    (hv' : Value.okWide Tryz.prog w r b0 27 v) (h : DataW.Trod enc Tryz.prog w base sp held 27 v d p) : ∃ (s : Slots) (b : BookT), v = .agg (cellsB s b) ∧ BookIn w s b ∧ BookWf b ∧ CapOk s b := by
  obtain ⟨cs0, rfl, _⟩ := okWide_struct Tryz.underlying27 hv'
  obtain ⟨fuel, h⟩ := h
  obtain ⟨cs, hcs⟩ : ∃ cs, cs0.toList = cs := ⟨_, rfl⟩
  have h : DataW.trod enc Tryz.prog w base sp held fuel 27 cs0.toList = some (d, p) := h
  rw [hcs] at h
  obtain ⟨xs, m, _, hx, hl, hxl, hi⟩ := DataW.trod_struct Tryz.underlying27 h
  obtain ⟨y0, y1, y2, y3, y4, rfl⟩ : ∃ y0 y1 y2 y3 y4, xs = [y0, y1, y2, y3, y4] := by
    match xs, hxl with
    | [y0, y1, y2, y3, y4], _ => exact ⟨_, _, _, _, _, rfl⟩
  rw [cellsTBook] at hl
  obtain ⟨v0, v1, v2, v3, v4, rfl⟩ : ∃ v0 v1 v2 v3 v4, cs = [v0, v1, v2, v3, v4] := by
    match cs, hl with
    | [v0, v1, v2, v3, v4], _ => exact ⟨_, _, _, _, _, rfl⟩
  have e0 : DataW.trod enc Tryz.prog w base sp held m 22 (([v0, v1, v2, v3, v4].drop 0).take (Tryz.prog.cellsOf 22)) = some y0 := hi 0 _ rfl
  rw [cellsLHolder] at e0
  obtain ⟨a0, c0, l0, q0, r0, g0, p0⟩ := open_rows Tryz.underlying22 cellsTHolder (by decide) trod_holder e0
  have u0 : v0 = .slice a0 l0.length c0 := by simpa using q0
  have e1 : DataW.trod enc Tryz.prog w base sp held m 23 (([v0, v1, v2, v3, v4].drop 1).take (Tryz.prog.cellsOf 23)) = some y1 := hi 1 _ rfl
  rw [cellsLStake] at e1
  obtain ⟨a1, c1, l1, q1, r1, g1, p1⟩ := open_rows Tryz.underlying23 cellsTStake (by decide) trod_stake e1
  have u1 : v1 = .slice a1 l1.length c1 := by simpa using q1
  have e2 : DataW.trod enc Tryz.prog w base sp held m 24 (([v0, v1, v2, v3, v4].drop 2).take (Tryz.prog.cellsOf 24)) = some y2 := hi 2 _ rfl
  rw [cellsLOpen] at e2
  obtain ⟨a2, c2, l2, q2, r2, g2, p2⟩ := open_rows Tryz.underlying24 cellsTOpen (by decide) trod_open e2
  have u2 : v2 = .slice a2 l2.length c2 := by simpa using q2
  have e3 : DataW.trod enc Tryz.prog w base sp held m 25 (([v0, v1, v2, v3, v4].drop 3).take (Tryz.prog.cellsOf 25)) = some y3 := hi 3 _ rfl
  rw [cellsLRate] at e3
  obtain ⟨a3, c3, l3, q3, r3, g3, p3⟩ := open_rows Tryz.underlying25 cellsTRate (by decide) trod_rate e3
  have u3 : v3 = .slice a3 l3.length c3 := by simpa using q3
  have e4 : DataW.trod enc Tryz.prog w base sp held m 2 (([v0, v1, v2, v3, v4].drop 4).take (Tryz.prog.cellsOf 2)) = some y4 := hi 4 _ rfl
  rw [cellsN64] at e4
  obtain ⟨z, hz, _, w4⟩ := DataW.trod_int Tryz.underlying2 e4
  have u4 : v4 = .int .i64 z := by simpa using hz
  subst u0 u1 u2 u3 u4
  refine ⟨⟨a0, a1, a2, a3, c0, c1, c2, c3⟩, ⟨l0, l1, l2, l3, z⟩, ?_, ⟨r0, r1, r2, r3⟩, ⟨iwf_rows g0, iwf_rows g1, iwf_rows g2, iwf_rows g3, in6_of w4⟩, ⟨p0, p1, p2, p3⟩⟩
  have : cs0.toList = (cellsB ⟨a0, a1, a2, a3, c0, c1, c2, c3⟩ ⟨l0, l1, l2, l3, z⟩).toList := hcs
  rw [Array.toList_inj.1 this]
end Go.Proofs.YtellifcjamedkaaGreat
