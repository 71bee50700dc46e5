/- A step that comes in; steps that come in. -/
import Derived.Test.YtfodnadmabnacaaDoorRuLaw4
import Derived.Deep.Slices
import Derived.OpenShut
import Derived.WideShapes
import Derived.ChangeAt
namespace Go.Proofs.YtfodnadmabnacaaDoor
open Go.ChangeShapes Go.WideShapes Go.ChangeAt Go.RowKit Go.Lib Base Base2

theorem cellsN64 : Tryd.prog.cellsOf 2 = 1 := by kernel_rfl
theorem cellsNi : Tryd.prog.cellsOf 3 = 1 := by kernel_rfl
theorem cellsNb : Tryd.prog.cellsOf 4 = 1 := by kernel_rfl
theorem cellsTStep : Tryd.prog.cellsOf 23 = 4 := by kernel_rfl
theorem in8_of {z : Int} (h : (Lit.int .i64 z).wf = true) : in8 z := by
  simpa [Lit.wf, IntKind.min, IntKind.max, IntKind.signed, IntKind.bits, in8] using h
set_option maxRecDepth 100000 in
theorem trod_step {H : Type} {enc : TypeId × Value → H} {w : World} {base : Nat} {sp : Nat → Bool} {held : Bool} (fuel : Nat) (cs : List Value) (x : DataW H × List MemPlace)
    (h : DataW.trod enc Tryd.prog w base sp held fuel 23 cs = some x) : ∃ s : StepT, cs = s.cells ∧ StepOk s := by
  obtain ⟨xs, m, _, rfl, hl, hxl, hi⟩ := DataW.trod_struct Tryd.underlying23 h
  obtain ⟨y0, y1, y2, y3, rfl⟩ : ∃ y0 y1 y2 y3, xs = [y0, y1, y2, y3] := by
    match xs, hxl with
    | [y0, y1, y2, y3], _ => exact ⟨_, _, _, _, rfl⟩
  rw [cellsTStep] at hl
  obtain ⟨v0, v1, v2, v3, rfl⟩ : ∃ v0 v1 v2 v3, cs = [v0, v1, v2, v3] := by
    match cs, hl with
    | [v0, v1, v2, v3], _ => exact ⟨_, _, _, _, rfl⟩
  have e0 : DataW.trod enc Tryd.prog w base sp held m 3 (([v0, v1, v2, v3].drop 0).take (Tryd.prog.cellsOf 3)) = some y0 := hi 0 _ rfl
  rw [cellsNi] at e0
  obtain ⟨z0, hz0, rfl, w0⟩ := DataW.trod_int Tryd.underlying3 e0
  obtain rfl : v0 = .int .i64 z0 := by simpa using hz0
  have e1 : DataW.trod enc Tryd.prog w base sp held m 2 (([.int .i64 z0, v1, v2, v3].drop 1).take (Tryd.prog.cellsOf 2)) = some y1 := hi 1 _ rfl
  rw [cellsN64] at e1
  obtain ⟨z1, hz1, rfl, w1⟩ := DataW.trod_int Tryd.underlying2 e1
  obtain rfl : v1 = .int .i64 z1 := by simpa using hz1
  have e2 : DataW.trod enc Tryd.prog w base sp held m 2 (([.int .i64 z0, .int .i64 z1, v2, v3].drop 2).take (Tryd.prog.cellsOf 2)) = some y2 := hi 2 _ rfl
  rw [cellsN64] at e2
  obtain ⟨z2, hz2, rfl, w2⟩ := DataW.trod_int Tryd.underlying2 e2
  obtain rfl : v2 = .int .i64 z2 := by simpa using hz2
  have e3 : DataW.trod enc Tryd.prog w base sp held m 4 (([.int .i64 z0, .int .i64 z1, .int .i64 z2, v3].drop 3).take (Tryd.prog.cellsOf 4)) = some y3 := hi 3 _ rfl
  rw [cellsNb] at e3
  obtain ⟨o, ho, rfl⟩ := DataW.trod_bool Tryd.underlying4 e3
  obtain rfl : v3 = .bool o := by simpa using ho
  exact ⟨⟨z0, z1, z2, o⟩, rfl, in8_of w0, in8_of w1, in8_of w2⟩
set_option maxRecDepth 100000 in
theorem open_step {H : Type} {enc : TypeId × Value → H} {w : World} {base : Nat} {sp : Nat → Bool} {held : Bool} {r : Reach} {b0 : Nat} {v : Value} {d : DataW H} {p : List MemPlace}
    (hv' : Value.okWide Tryd.prog w r b0 23 v) (h : DataW.Trod enc Tryd.prog w base sp held 23 v d p) : ∃ s : StepT, v = .agg #[.int .i64 s.r, .int .i64 s.x, .int .i64 s.y, .bool s.o] ∧ StepOk s := by
  obtain ⟨cs, rfl, _⟩ := okWide_struct Tryd.underlying23 hv'
  obtain ⟨fuel, hf⟩ := h
  obtain ⟨s, hc, hw⟩ := trod_step _ _ _ hf
  refine ⟨s, ?_, hw⟩
  have : cs.toList = (#[.int .i64 s.r, .int .i64 s.x, .int .i64 s.y, .bool s.o] : Array Value).toList := hc
  rw [Array.toList_inj.1 this]
set_option maxRecDepth 100000 in
theorem open_steps {H : Type} {enc : TypeId × Value → H} {W : World} {base : Nat} {spare : Nat → Bool} {held : Bool} {a : Option Addr} {len cap : Nat} {d : DataW H} {ps : List MemPlace}
    (h : DataW.Trod enc Tryd.prog W base spare held 33 (.slice a len cap) d ps) : ∃ l : List StepT, l.length = len ∧ StepsAt W a l ∧ (∀ s ∈ l, StepOk s) ∧ l.length ≤ cap := by
  obtain ⟨fuel, hf⟩ := h
  rcases Go.Deep.open_slice Tryd.underlying33 hf with ⟨hcs, _⟩ | ⟨x, l, c, m, n, D, Pl, hcs, _, hl, hm, hmm, _, hcells⟩
  · simp [Value.cells] at hcs
    obtain ⟨rfl, rfl, rfl⟩ := hcs
    exact ⟨[], rfl, .inl rfl, by simp, Nat.le_refl _⟩
  · simp [Value.cells] at hcs
    obtain ⟨rfl, rfl, rfl⟩ := hcs
    have hlm : len ≤ m := by rw [hmm]; split <;> omega
    rw [cellsTStep] at hcells
    have hv1 : ∀ i, i < len → ∃ s : StepT, StepOk s ∧ ∀ j, j < 4 → W.cell? (x.add (i * 4 + j)) = s.cells[j]? := fun i hi => by
      obtain ⟨cs, h1, h2⟩ := hcells i (by omega)
      obtain ⟨s, rfl, hw⟩ := trod_step _ _ _ h2
      obtain ⟨_, _, h3⟩ := World.cells?_some h1
      exact ⟨s, hw, fun j hj => by rw [← h3 j hj, Addr.add_add]⟩
    obtain ⟨f, hf2⟩ : ∃ f : Nat → StepT, ∀ i, i < len → StepOk (f i) ∧ ∀ j, j < 4 → W.cell? (x.add (i * 4 + j)) = (f i).cells[j]? := by
      refine ⟨fun i => if h : i < len then (hv1 i h).choose else ⟨0, 0, 0, false⟩, fun i hi => ?_⟩
      simp only [dif_pos hi]
      exact (hv1 i hi).choose_spec
    refine ⟨(List.range len).map f, by simp, ?_, fun g hg => ?_, by simpa using hl⟩
    · by_cases h00 : len = 0
      · subst h00; exact .inl rfl
      · obtain ⟨b, off, spot⟩ := x
        have h0 := hf2 0 (by omega)
        have hc0 : W.cell? ((⟨b, off, spot⟩ : Addr).add (0 * 4 + 0)) = some (.int .i64 (f 0).r) := h0.2 0 (by omega)
        have hspot : spot = none := by
          have h := World.cell?_spot hc0
          simpa [Addr.add] using h
        subst hspot
        refine .inr ⟨b, off, rfl, ?_, fun i s hi j u hu => ?_⟩
        · rw [Addr.add_mid] at hc0
          exact World.block_lt_of_cell? W _ hc0
        · have hin : i < len := by simpa using (List.getElem?_eq_some_iff.1 hi).1
          simp [hin] at hi
          subst hi
          have hj4 : j < 4 := (List.getElem?_eq_some_iff.1 hu).1
          have h := (hf2 i hin).2 j hj4
          rw [Addr.add_mid] at h
          rw [show off + i * 4 + j = off + (i * 4 + j) by omega, h, hu]
    · obtain ⟨i, hi, rfl⟩ := List.mem_map.1 hg
      exact (hf2 i (by simpa using hi)).1
theorem weighs4n {K : World → Prop} (C : RulesC K) (a : Option Addr) (n c : Nat) (l : List StepT) (w : World) (hK : K w) (hl : l.length = n) (hr : StepsAt w a l) (hc : l.length ≤ c) (hin : ∀ s ∈ l, StepOk s) :
    Calls Tryd.prog 4 #[.slice a n c] w fun e w' => e = .returned (.bool true) ∧ Below w.heap.size w w' := by
  subst hl
  exact weighs4 C a c l w hK hr hc hin
end Go.Proofs.YtfodnadmabnacaaDoor
