/- A book that comes in, and its things. -/
import Derived.Test.YtmndkbfjmamnfaaBkFinds
import Derived.Deep.Slices
import Derived.OpenShut
import Derived.WideShapes
import Derived.ChangeAt
namespace Go.Proofs.Ytmndkbfjmamnfaa
open Go.ChangeShapes Go.WideShapes Go.ChangeAt Go.RowKit Go.Lib Base Base2

theorem cellsN64 : Try.prog.cellsOf 2 = 1 := by kernel_rfl
theorem cellsNi : Try.prog.cellsOf 3 = 1 := by kernel_rfl
def IWf (k : Nat) (x : Item) : Prop := x.length = k ∧ ∀ z ∈ x, in6 z
def itemVals (x : Item) : List Value := x.map (Value.int .i64)
theorem in6_of {z : Int} (h : (Lit.int .i64 z).wf = true) : in6 z := by
  simpa [Lit.wf, IntKind.min, IntKind.max, IntKind.signed, IntKind.bits, in6] using h
/-- Things of k numbers in a row that comes in. -/
theorem open_rows {k : Nat} {T E : TypeId} (hT : Try.prog.underlying T = some (.slice E)) (hE : Try.prog.cellsOf E = k) (hk : 0 < k)
    {H : Type} {enc : TypeId × Value → H} {W : World} {base : Nat} {spare : Nat → Bool} {held : Bool}
    (hIt : ∀ (fuel : Nat) (cs : List Value) (x : DataW H × List MemPlace), DataW.trod enc Try.prog W base spare held fuel E cs = some x → ∃ g : Item, cs = itemVals g ∧ IWf k g)
    {fuel : Nat} {cs : List Value} {x : DataW H × List MemPlace} (hf : DataW.trod enc Try.prog W base spare held fuel T cs = some x) :
    ∃ (a : Option Addr) (c : Nat) (l : List Item), cs = [.slice a l.length c] ∧ RowsOf k W a l ∧ (∀ g ∈ l, IWf k g) ∧ l.length ≤ c := by
  rcases Go.Deep.open_slice hT hf with ⟨rfl, _⟩ | ⟨x, len, c, m, n, D, Pl, rfl, _, hl, hm, hmm, _, hcells⟩
  · exact ⟨none, 0, [], rfl, .inl rfl, by simp, Nat.le_refl _⟩
  · have hlm : len ≤ m := by rw [hmm]; split <;> omega
    rw [hE] at hcells
    have hv1 : ∀ i, i < len → ∃ g : Item, IWf k g ∧ ∀ j, j < k → W.cell? (x.add (i * k + j)) = (itemVals g)[j]? := fun i hi => by
      obtain ⟨cs, h1, h2⟩ := hcells i (by omega)
      obtain ⟨g, rfl, hw⟩ := hIt _ _ _ h2
      obtain ⟨_, _, h3⟩ := World.cells?_some h1
      exact ⟨g, hw, fun j hj => by rw [← h3 j hj, Addr.add_add]⟩
    obtain ⟨f, hf2⟩ : ∃ f : Nat → Item, ∀ i, i < len → IWf k (f i) ∧ ∀ j, j < k → W.cell? (x.add (i * k + j)) = (itemVals (f i))[j]? := by
      refine ⟨fun i => if h : i < len then (hv1 i h).choose else [], fun i hi => ?_⟩
      simp only [dif_pos hi]
      exact (hv1 i hi).choose_spec
    refine ⟨some x, c, (List.range len).map f, by simp, ?_, fun g hg => ?_, by simpa using hl⟩
    · by_cases h00 : len = 0
      · subst h00; exact .inl rfl
      · obtain ⟨b, off, spot⟩ := x
        have h0 := hf2 0 (by omega)
        obtain ⟨z0, hz0⟩ : ∃ z, (f 0)[0]? = some z := ⟨(f 0)[0]'(by rw [h0.1.1]; exact hk), by simp⟩
        have hc0 : W.cell? ((⟨b, off, spot⟩ : Addr).add (0 * k + 0)) = some (.int .i64 z0) := by
          rw [h0.2 0 hk]; simp [itemVals, hz0]
        have hspot : spot = none := by
          have h := World.cell?_spot hc0
          simpa [Addr.add] using h
        subst hspot
        refine .inr ⟨b, off, rfl, ?_, fun i g hi j z hz => ?_⟩
        · rw [Addr.add_mid] at hc0
          exact World.block_lt_of_cell? W _ hc0
        · have hin : i < len := by simpa using (List.getElem?_eq_some_iff.1 hi).1
          simp [hin] at hi
          subst hi
          have hjk : j < k := by
            have := (List.getElem?_eq_some_iff.1 hz).1
            rw [(hf2 i hin).1.1] at this; exact this
          have h := (hf2 i hin).2 j hjk
          rw [Addr.add_mid] at h
          rw [show off + i * k + j = off + (i * k + j) by omega, h]
          simp [itemVals, hz]
    · obtain ⟨i, hi, rfl⟩ := List.mem_map.1 hg
      exact (hf2 i (by simpa using hi)).1
theorem iwf_rows {k : Nat} {l : List Item} (h : ∀ g ∈ l, IWf k g) : ItemsWf k l := fun g hg => h g hg

theorem cellsTHolder : Try.prog.cellsOf 45 = 4 := by kernel_rfl
set_option maxRecDepth 100000 in
theorem trod_holder {H : Type} {enc : TypeId × Value → H} {w : World} {base : Nat} {sp : Nat → Bool} {held : Bool} (fuel : Nat) (cs : List Value) (x : DataW H × List MemPlace)
    (h : DataW.trod enc Try.prog w base sp held fuel 45 cs = some x) : ∃ g : Item, cs = itemVals g ∧ IWf 4 g := by
  obtain ⟨xs, m, _, rfl, hl, hxl, hi⟩ := DataW.trod_struct Try.underlying45 h
  obtain ⟨y0, y1, y2, y3, rfl⟩ : ∃ y0 y1 y2 y3, xs = [y0, y1, y2, y3] := by
    match xs, hxl with
    | [y0, y1, y2, y3], _ => exact ⟨_, _, _, _, rfl⟩
  rw [cellsTHolder] at hl
  obtain ⟨v0, v1, v2, v3, rfl⟩ : ∃ v0 v1 v2 v3, cs = [v0, v1, v2, v3] := by
    match cs, hl with
    | [v0, v1, v2, v3], _ => exact ⟨_, _, _, _, rfl⟩
  have e0 : DataW.trod enc Try.prog w base sp held m 2 (([v0, v1, v2, v3].drop 0).take (Try.prog.cellsOf 2)) = some y0 := hi 0 _ rfl
  rw [cellsN64] at e0
  obtain ⟨z0, hz0, rfl, w0⟩ := DataW.trod_int Try.underlying2 e0
  obtain rfl : v0 = .int .i64 z0 := by simpa using hz0
  have e1 : DataW.trod enc Try.prog w base sp held m 2 (([.int .i64 z0, v1, v2, v3].drop 1).take (Try.prog.cellsOf 2)) = some y1 := hi 1 _ rfl
  rw [cellsN64] at e1
  obtain ⟨z1, hz1, rfl, w1⟩ := DataW.trod_int Try.underlying2 e1
  obtain rfl : v1 = .int .i64 z1 := by simpa using hz1
  have e2 : DataW.trod enc Try.prog w base sp held m 2 (([.int .i64 z0, .int .i64 z1, v2, v3].drop 2).take (Try.prog.cellsOf 2)) = some y2 := hi 2 _ rfl
  rw [cellsN64] at e2
  obtain ⟨z2, hz2, rfl, w2⟩ := DataW.trod_int Try.underlying2 e2
  obtain rfl : v2 = .int .i64 z2 := by simpa using hz2
  have e3 : DataW.trod enc Try.prog w base sp held m 2 (([.int .i64 z0, .int .i64 z1, .int .i64 z2, v3].drop 3).take (Try.prog.cellsOf 2)) = some y3 := hi 3 _ rfl
  rw [cellsN64] at e3
  obtain ⟨z3, hz3, rfl, w3⟩ := DataW.trod_int Try.underlying2 e3
  obtain rfl : v3 = .int .i64 z3 := by simpa using hz3
  refine ⟨[z0, z1, z2, z3], rfl, rfl, fun z hz => ?_⟩
  simp only [List.mem_cons, List.not_mem_nil, or_false] at hz
  rcases hz with rfl | rfl | rfl | rfl
  · exact in6_of w0
  · exact in6_of w1
  · exact in6_of w2
  · exact in6_of w3
set_option maxRecDepth 100000 in
theorem open_holder {H : Type} {enc : TypeId × Value → H} {w : World} {base : Nat} {sp : Nat → Bool} {held : Bool} {r : Reach} {b0 : Nat} {v : Value} {d : DataW H} {p : List MemPlace}
    (hv' : Value.okWide Try.prog w r b0 45 v) (h : DataW.Trod enc Try.prog w base sp held 45 v d p) : ∃ z0 z1 z2 z3 : Int, v = .agg #[.int .i64 z0, .int .i64 z1, .int .i64 z2, .int .i64 z3] ∧ in6 z0 ∧ in6 z1 ∧ in6 z2 ∧ in6 z3 := by
  obtain ⟨cs, rfl, _⟩ := okWide_struct Try.underlying45 hv'
  obtain ⟨fuel, hf⟩ := h
  obtain ⟨g, hc, hl, hw⟩ := trod_holder _ _ _ hf
  obtain ⟨z0, z1, z2, z3, rfl⟩ := item4 hl
  refine ⟨z0, z1, z2, z3, ?_, hw z0 (by simp), hw z1 (by simp), hw z2 (by simp), hw z3 (by simp)⟩
  have : cs.toList = (#[.int .i64 z0, .int .i64 z1, .int .i64 z2, .int .i64 z3] : Array Value).toList := hc
  rw [Array.toList_inj.1 this]

theorem cellsTStake : Try.prog.cellsOf 43 = 3 := by kernel_rfl
set_option maxRecDepth 100000 in
theorem trod_stake {H : Type} {enc : TypeId × Value → H} {w : World} {base : Nat} {sp : Nat → Bool} {held : Bool} (fuel : Nat) (cs : List Value) (x : DataW H × List MemPlace)
    (h : DataW.trod enc Try.prog w base sp held fuel 43 cs = some x) : ∃ g : Item, cs = itemVals g ∧ IWf 3 g := by
  obtain ⟨xs, m, _, rfl, hl, hxl, hi⟩ := DataW.trod_struct Try.underlying43 h
  obtain ⟨y0, y1, y2, rfl⟩ : ∃ y0 y1 y2, xs = [y0, y1, y2] := by
    match xs, hxl with
    | [y0, y1, y2], _ => exact ⟨_, _, _, rfl⟩
  rw [cellsTStake] at hl
  obtain ⟨v0, v1, v2, rfl⟩ : ∃ v0 v1 v2, cs = [v0, v1, v2] := by
    match cs, hl with
    | [v0, v1, v2], _ => exact ⟨_, _, _, rfl⟩
  have e0 : DataW.trod enc Try.prog w base sp held m 2 (([v0, v1, v2].drop 0).take (Try.prog.cellsOf 2)) = some y0 := hi 0 _ rfl
  rw [cellsN64] at e0
  obtain ⟨z0, hz0, rfl, w0⟩ := DataW.trod_int Try.underlying2 e0
  obtain rfl : v0 = .int .i64 z0 := by simpa using hz0
  have e1 : DataW.trod enc Try.prog w base sp held m 2 (([.int .i64 z0, v1, v2].drop 1).take (Try.prog.cellsOf 2)) = some y1 := hi 1 _ rfl
  rw [cellsN64] at e1
  obtain ⟨z1, hz1, rfl, w1⟩ := DataW.trod_int Try.underlying2 e1
  obtain rfl : v1 = .int .i64 z1 := by simpa using hz1
  have e2 : DataW.trod enc Try.prog w base sp held m 2 (([.int .i64 z0, .int .i64 z1, v2].drop 2).take (Try.prog.cellsOf 2)) = some y2 := hi 2 _ rfl
  rw [cellsN64] at e2
  obtain ⟨z2, hz2, rfl, w2⟩ := DataW.trod_int Try.underlying2 e2
  obtain rfl : v2 = .int .i64 z2 := by simpa using hz2
  refine ⟨[z0, z1, z2], rfl, rfl, fun z hz => ?_⟩
  simp only [List.mem_cons, List.not_mem_nil, or_false] at hz
  rcases hz with rfl | rfl | rfl
  · exact in6_of w0
  · exact in6_of w1
  · exact in6_of w2
set_option maxRecDepth 100000 in
theorem open_stake {H : Type} {enc : TypeId × Value → H} {w : World} {base : Nat} {sp : Nat → Bool} {held : Bool} {r : Reach} {b0 : Nat} {v : Value} {d : DataW H} {p : List MemPlace}
    (hv' : Value.okWide Try.prog w r b0 43 v) (h : DataW.Trod enc Try.prog w base sp held 43 v d p) : ∃ z0 z1 z2 : Int, v = .agg #[.int .i64 z0, .int .i64 z1, .int .i64 z2] ∧ in6 z0 ∧ in6 z1 ∧ in6 z2 := by
  obtain ⟨cs, rfl, _⟩ := okWide_struct Try.underlying43 hv'
  obtain ⟨fuel, hf⟩ := h
  obtain ⟨g, hc, hl, hw⟩ := trod_stake _ _ _ hf
  obtain ⟨z0, z1, z2, rfl⟩ := item3 hl
  refine ⟨z0, z1, z2, ?_, hw z0 (by simp), hw z1 (by simp), hw z2 (by simp)⟩
  have : cs.toList = (#[.int .i64 z0, .int .i64 z1, .int .i64 z2] : Array Value).toList := hc
  rw [Array.toList_inj.1 this]

theorem cellsTOpen : Try.prog.cellsOf 37 = 6 := by kernel_rfl
set_option maxRecDepth 100000 in
theorem trod_open {H : Type} {enc : TypeId × Value → H} {w : World} {base : Nat} {sp : Nat → Bool} {held : Bool} (fuel : Nat) (cs : List Value) (x : DataW H × List MemPlace)
    (h : DataW.trod enc Try.prog w base sp held fuel 37 cs = some x) : ∃ g : Item, cs = itemVals g ∧ IWf 6 g := by
  obtain ⟨xs, m, _, rfl, hl, hxl, hi⟩ := DataW.trod_struct Try.underlying37 h
  obtain ⟨y0, y1, y2, y3, y4, y5, rfl⟩ : ∃ y0 y1 y2 y3 y4 y5, xs = [y0, y1, y2, y3, y4, y5] := by
    match xs, hxl with
    | [y0, y1, y2, y3, y4, y5], _ => exact ⟨_, _, _, _, _, _, rfl⟩
  rw [cellsTOpen] at hl
  obtain ⟨v0, v1, v2, v3, v4, v5, rfl⟩ : ∃ v0 v1 v2 v3 v4 v5, cs = [v0, v1, v2, v3, v4, v5] := by
    match cs, hl with
    | [v0, v1, v2, v3, v4, v5], _ => exact ⟨_, _, _, _, _, _, rfl⟩
  have e0 : DataW.trod enc Try.prog w base sp held m 2 (([v0, v1, v2, v3, v4, v5].drop 0).take (Try.prog.cellsOf 2)) = some y0 := hi 0 _ rfl
  rw [cellsN64] at e0
  obtain ⟨z0, hz0, rfl, w0⟩ := DataW.trod_int Try.underlying2 e0
  obtain rfl : v0 = .int .i64 z0 := by simpa using hz0
  have e1 : DataW.trod enc Try.prog w base sp held m 2 (([.int .i64 z0, v1, v2, v3, v4, v5].drop 1).take (Try.prog.cellsOf 2)) = some y1 := hi 1 _ rfl
  rw [cellsN64] at e1
  obtain ⟨z1, hz1, rfl, w1⟩ := DataW.trod_int Try.underlying2 e1
  obtain rfl : v1 = .int .i64 z1 := by simpa using hz1
  have e2 : DataW.trod enc Try.prog w base sp held m 2 (([.int .i64 z0, .int .i64 z1, v2, v3, v4, v5].drop 2).take (Try.prog.cellsOf 2)) = some y2 := hi 2 _ rfl
  rw [cellsN64] at e2
  obtain ⟨z2, hz2, rfl, w2⟩ := DataW.trod_int Try.underlying2 e2
  obtain rfl : v2 = .int .i64 z2 := by simpa using hz2
  have e3 : DataW.trod enc Try.prog w base sp held m 3 (([.int .i64 z0, .int .i64 z1, .int .i64 z2, v3, v4, v5].drop 3).take (Try.prog.cellsOf 3)) = some y3 := hi 3 _ rfl
  rw [cellsNi] at e3
  obtain ⟨z3, hz3, rfl, w3⟩ := DataW.trod_int Try.underlying3 e3
  obtain rfl : v3 = .int .i64 z3 := by simpa using hz3
  have e4 : DataW.trod enc Try.prog w base sp held m 2 (([.int .i64 z0, .int .i64 z1, .int .i64 z2, .int .i64 z3, v4, v5].drop 4).take (Try.prog.cellsOf 2)) = some y4 := hi 4 _ rfl
  rw [cellsN64] at e4
  obtain ⟨z4, hz4, rfl, w4⟩ := DataW.trod_int Try.underlying2 e4
  obtain rfl : v4 = .int .i64 z4 := by simpa using hz4
  have e5 : DataW.trod enc Try.prog w base sp held m 2 (([.int .i64 z0, .int .i64 z1, .int .i64 z2, .int .i64 z3, .int .i64 z4, v5].drop 5).take (Try.prog.cellsOf 2)) = some y5 := hi 5 _ rfl
  rw [cellsN64] at e5
  obtain ⟨z5, hz5, rfl, w5⟩ := DataW.trod_int Try.underlying2 e5
  obtain rfl : v5 = .int .i64 z5 := by simpa using hz5
  refine ⟨[z0, z1, z2, z3, z4, z5], rfl, rfl, fun z hz => ?_⟩
  simp only [List.mem_cons, List.not_mem_nil, or_false] at hz
  rcases hz with rfl | rfl | rfl | rfl | rfl | rfl
  · exact in6_of w0
  · exact in6_of w1
  · exact in6_of w2
  · exact in6_of w3
  · exact in6_of w4
  · exact in6_of w5
set_option maxRecDepth 100000 in
theorem open_open {H : Type} {enc : TypeId × Value → H} {w : World} {base : Nat} {sp : Nat → Bool} {held : Bool} {r : Reach} {b0 : Nat} {v : Value} {d : DataW H} {p : List MemPlace}
    (hv' : Value.okWide Try.prog w r b0 37 v) (h : DataW.Trod enc Try.prog w base sp held 37 v d p) : ∃ z0 z1 z2 z3 z4 z5 : Int, v = .agg #[.int .i64 z0, .int .i64 z1, .int .i64 z2, .int .i64 z3, .int .i64 z4, .int .i64 z5] ∧ in6 z0 ∧ in6 z1 ∧ in6 z2 ∧ in6 z3 ∧ in6 z4 ∧ in6 z5 := by
  obtain ⟨cs, rfl, _⟩ := okWide_struct Try.underlying37 hv'
  obtain ⟨fuel, hf⟩ := h
  obtain ⟨g, hc, hl, hw⟩ := trod_open _ _ _ hf
  obtain ⟨z0, z1, z2, z3, z4, z5, rfl⟩ := item6 hl
  refine ⟨z0, z1, z2, z3, z4, z5, ?_, hw z0 (by simp), hw z1 (by simp), hw z2 (by simp), hw z3 (by simp), hw z4 (by simp), hw z5 (by simp)⟩
  have : cs.toList = (#[.int .i64 z0, .int .i64 z1, .int .i64 z2, .int .i64 z3, .int .i64 z4, .int .i64 z5] : Array Value).toList := hc
  rw [Array.toList_inj.1 this]

theorem cellsTRate : Try.prog.cellsOf 67 = 2 := by kernel_rfl
set_option maxRecDepth 100000 in
theorem trod_rate {H : Type} {enc : TypeId × Value → H} {w : World} {base : Nat} {sp : Nat → Bool} {held : Bool} (fuel : Nat) (cs : List Value) (x : DataW H × List MemPlace)
    (h : DataW.trod enc Try.prog w base sp held fuel 67 cs = some x) : ∃ g : Item, cs = itemVals g ∧ IWf 2 g := by
  obtain ⟨xs, m, _, rfl, hl, hxl, hi⟩ := DataW.trod_struct Try.underlying67 h
  obtain ⟨y0, y1, rfl⟩ : ∃ y0 y1, xs = [y0, y1] := by
    match xs, hxl with
    | [y0, y1], _ => exact ⟨_, _, rfl⟩
  rw [cellsTRate] at hl
  obtain ⟨v0, v1, rfl⟩ : ∃ v0 v1, cs = [v0, v1] := by
    match cs, hl with
    | [v0, v1], _ => exact ⟨_, _, rfl⟩
  have e0 : DataW.trod enc Try.prog w base sp held m 2 (([v0, v1].drop 0).take (Try.prog.cellsOf 2)) = some y0 := hi 0 _ rfl
  rw [cellsN64] at e0
  obtain ⟨z0, hz0, rfl, w0⟩ := DataW.trod_int Try.underlying2 e0
  obtain rfl : v0 = .int .i64 z0 := by simpa using hz0
  have e1 : DataW.trod enc Try.prog w base sp held m 2 (([.int .i64 z0, v1].drop 1).take (Try.prog.cellsOf 2)) = some y1 := hi 1 _ rfl
  rw [cellsN64] at e1
  obtain ⟨z1, hz1, rfl, w1⟩ := DataW.trod_int Try.underlying2 e1
  obtain rfl : v1 = .int .i64 z1 := by simpa using hz1
  refine ⟨[z0, z1], rfl, rfl, fun z hz => ?_⟩
  simp only [List.mem_cons, List.not_mem_nil, or_false] at hz
  rcases hz with rfl | rfl
  · exact in6_of w0
  · exact in6_of w1
set_option maxRecDepth 100000 in
theorem open_rate {H : Type} {enc : TypeId × Value → H} {w : World} {base : Nat} {sp : Nat → Bool} {held : Bool} {r : Reach} {b0 : Nat} {v : Value} {d : DataW H} {p : List MemPlace}
    (hv' : Value.okWide Try.prog w r b0 67 v) (h : DataW.Trod enc Try.prog w base sp held 67 v d p) : ∃ z0 z1 : Int, v = .agg #[.int .i64 z0, .int .i64 z1] ∧ in6 z0 ∧ in6 z1 := by
  obtain ⟨cs, rfl, _⟩ := okWide_struct Try.underlying67 hv'
  obtain ⟨fuel, hf⟩ := h
  obtain ⟨g, hc, hl, hw⟩ := trod_rate _ _ _ hf
  obtain ⟨z0, z1, rfl⟩ := item2 hl
  refine ⟨z0, z1, ?_, hw z0 (by simp), hw z1 (by simp)⟩
  have : cs.toList = (#[.int .i64 z0, .int .i64 z1] : Array Value).toList := hc
  rw [Array.toList_inj.1 this]

theorem cellsTBook : Try.prog.cellsOf 27 = 5 := by kernel_rfl
theorem cellsLHolder : Try.prog.cellsOf 22 = 1 := by kernel_rfl
theorem cellsLStake : Try.prog.cellsOf 23 = 1 := by kernel_rfl
theorem cellsLOpen : Try.prog.cellsOf 24 = 1 := by kernel_rfl
theorem cellsLRate : Try.prog.cellsOf 25 = 1 := by kernel_rfl
set_option maxRecDepth 100000 in
theorem open_book {H : Type} {enc : TypeId × Value → H} {w : World} {base : Nat} {sp : Nat → Bool} {held : Bool} {r : Reach} {b0 : Nat} {v : Value} {d : DataW H} {p : List MemPlace}
    (hv' : Value.okWide Try.prog w r b0 27 v) (h : DataW.Trod enc Try.prog w base sp held 27 v d p) : ∃ (s : Slots) (b : BookT), v = .agg (cellsB s b) ∧ BookIn w s b ∧ BookWf b ∧ CapOk s b := by
  obtain ⟨cs0, rfl, _⟩ := okWide_struct Try.underlying27 hv'
  obtain ⟨fuel, h⟩ := h
  obtain ⟨cs, hcs⟩ : ∃ cs, cs0.toList = cs := ⟨_, rfl⟩
  have h : DataW.trod enc Try.prog w base sp held fuel 27 cs0.toList = some (d, p) := h
  rw [hcs] at h
  obtain ⟨xs, m, _, hx, hl, hxl, hi⟩ := DataW.trod_struct Try.underlying27 h
  obtain ⟨y0, y1, y2, y3, y4, rfl⟩ : ∃ y0 y1 y2 y3 y4, xs = [y0, y1, y2, y3, y4] := by
    match xs, hxl with
    | [y0, y1, y2, y3, y4], _ => exact ⟨_, _, _, _, _, rfl⟩
  rw [cellsTBook] at hl
  obtain ⟨v0, v1, v2, v3, v4, rfl⟩ : ∃ v0 v1 v2 v3 v4, cs = [v0, v1, v2, v3, v4] := by
    match cs, hl with
    | [v0, v1, v2, v3, v4], _ => exact ⟨_, _, _, _, _, rfl⟩
  have e0 : DataW.trod enc Try.prog w base sp held m 22 (([v0, v1, v2, v3, v4].drop 0).take (Try.prog.cellsOf 22)) = some y0 := hi 0 _ rfl
  rw [cellsLHolder] at e0
  obtain ⟨a0, c0, l0, q0, r0, g0, p0⟩ := open_rows Try.underlying22 cellsTHolder (by decide) trod_holder e0
  have u0 : v0 = .slice a0 l0.length c0 := by simpa using q0
  have e1 : DataW.trod enc Try.prog w base sp held m 23 (([v0, v1, v2, v3, v4].drop 1).take (Try.prog.cellsOf 23)) = some y1 := hi 1 _ rfl
  rw [cellsLStake] at e1
  obtain ⟨a1, c1, l1, q1, r1, g1, p1⟩ := open_rows Try.underlying23 cellsTStake (by decide) trod_stake e1
  have u1 : v1 = .slice a1 l1.length c1 := by simpa using q1
  have e2 : DataW.trod enc Try.prog w base sp held m 24 (([v0, v1, v2, v3, v4].drop 2).take (Try.prog.cellsOf 24)) = some y2 := hi 2 _ rfl
  rw [cellsLOpen] at e2
  obtain ⟨a2, c2, l2, q2, r2, g2, p2⟩ := open_rows Try.underlying24 cellsTOpen (by decide) trod_open e2
  have u2 : v2 = .slice a2 l2.length c2 := by simpa using q2
  have e3 : DataW.trod enc Try.prog w base sp held m 25 (([v0, v1, v2, v3, v4].drop 3).take (Try.prog.cellsOf 25)) = some y3 := hi 3 _ rfl
  rw [cellsLRate] at e3
  obtain ⟨a3, c3, l3, q3, r3, g3, p3⟩ := open_rows Try.underlying25 cellsTRate (by decide) trod_rate e3
  have u3 : v3 = .slice a3 l3.length c3 := by simpa using q3
  have e4 : DataW.trod enc Try.prog w base sp held m 2 (([v0, v1, v2, v3, v4].drop 4).take (Try.prog.cellsOf 2)) = some y4 := hi 4 _ rfl
  rw [cellsN64] at e4
  obtain ⟨z, hz, _, w4⟩ := DataW.trod_int Try.underlying2 e4
  have u4 : v4 = .int .i64 z := by simpa using hz
  subst u0 u1 u2 u3 u4
  refine ⟨⟨a0, a1, a2, a3, c0, c1, c2, c3⟩, ⟨l0, l1, l2, l3, z⟩, ?_, ⟨r0, r1, r2, r3⟩, ⟨iwf_rows g0, iwf_rows g1, iwf_rows g2, iwf_rows g3, in6_of w4⟩, ⟨p0, p1, p2, p3⟩⟩
  have : cs0.toList = (cellsB ⟨a0, a1, a2, a3, c0, c1, c2, c3⟩ ⟨l0, l1, l2, l3, z⟩).toList := hcs
  rw [Array.toList_inj.1 this]
end Go.Proofs.Ytmndkbfjmamnfaa
