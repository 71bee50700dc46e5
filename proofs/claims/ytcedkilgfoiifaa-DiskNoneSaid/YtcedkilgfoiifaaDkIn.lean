/- Arguments that come in: a slice of files, of numbers, of deeds. -/
import Derived.WalkKit
import Derived.ProofKit
import Derived.OpenShut
import Derived.Below
import Derived.ChangeSlices
import Derived.Deep.Slices
import Derived.Test.YtcedkilgfoiifaaDkKeeps
namespace Go.Proofs.Ytcedkilgfoiifaa
open Go.ChangeShapes Go.WideShapes Go.ChangeAt Go.RowKit Go.Lib

theorem laidOut : laidOutB Try.prog = true := by kernel_rfl
theorem cellsI3D : Try.prog.cellsOf 3 = 1 := by kernel_rfl
theorem cellsS9D : Try.prog.cellsOf 9 = 1 := by kernel_rfl
theorem cellsU5D : Try.prog.cellsOf 5 = 1 := by kernel_rfl
theorem cellsL34 : Try.prog.cellsOf 34 = 1 := by kernel_rfl
theorem cellsFile : Try.prog.cellsOf 58 = 2 := by kernel_rfl
theorem cellsAct : Try.prog.cellsOf 36 = 5 := by kernel_rfl
theorem in64_wf {z : Int} (h : (Lit.int .i64 z).wf = true) : In64D z := by
  simp [Lit.wf, IntKind.min, IntKind.max, IntKind.signed, IntKind.bits] at h
  exact ⟨by omega, by omega⟩
theorem u8_wf {z : Int} (h : (Lit.int .u8 z).wf = true) : 0 ≤ z ∧ z ≤ 255 := by
  simp [Lit.wf, IntKind.min, IntKind.max, IntKind.signed, IntKind.bits] at h
  exact ⟨by omega, by omega⟩

set_option maxRecDepth 100000 in
theorem trod_file {H : Type} {enc : TypeId × Value → H} {w : World} {base : Nat} {sp : Nat → Bool} {held : Bool} {fuel : Nat} {cs : List Value} {x : DataW H × List MemPlace}
    (h : DataW.trod enc Try.prog w base sp held fuel 58 cs = some x) : ∃ f : FileT, cs = [.string f.1, .string f.2] ∧ f.1.size ≤ maxLen ∧ f.2.size ≤ maxLen := by
  obtain ⟨xs, m, rfl, rfl, hl, hxl, hi⟩ := DataW.trod_struct Try.underlying58 h
  obtain ⟨y0, y1, rfl⟩ : ∃ y0 y1, xs = [y0, y1] := by
    match xs, hxl with
    | [y0, y1], _ => exact ⟨_, _, rfl⟩
  rw [cellsFile] at hl
  obtain ⟨v0, v1, rfl⟩ : ∃ v0 v1, cs = [v0, v1] := by
    match cs, hl with
    | [v0, v1], _ => exact ⟨_, _, rfl⟩
  have e0 : DataW.trod enc Try.prog w base sp held m 9 (([v0, v1].drop 0).take (Try.prog.cellsOf 9)) = some y0 := hi 0 _ rfl
  rw [cellsS9D] at e0
  obtain ⟨z0, hz0, rfl, w0⟩ := DataW.trod_string Try.underlying9 e0
  obtain rfl : v0 = .string z0 := by simpa using hz0
  have e1 : DataW.trod enc Try.prog w base sp held m 9 (([.string z0, v1].drop 1).take (Try.prog.cellsOf 9)) = some y1 := hi 1 _ rfl
  rw [cellsS9D] at e1
  obtain ⟨z1, hz1, rfl, w1⟩ := DataW.trod_string Try.underlying9 e1
  obtain rfl : v1 = .string z1 := by simpa using hz1
  exact ⟨(z0, z1), rfl, w0, w1⟩
set_option maxRecDepth 100000 in
theorem open_files {H : Type} {enc : TypeId × Value → H} {W : World} {base : Nat} {spare : Nat → Bool} {held : Bool} {a : Option Addr} {len cap : Nat} {d : DataW H} {ps : List MemPlace}
    (h : DataW.Trod enc Try.prog W base spare held 22 (.slice a len cap) d ps) : ∃ l : List FileT, l.length = len ∧ (FilesAt W a l ∧ ∀ f ∈ l, f.1.size ≤ maxLen ∧ f.2.size ≤ maxLen) ∧ len ≤ maxLen ∧ len ≤ cap := by
  obtain ⟨fuel, hf⟩ := h
  rcases Go.Deep.open_slice Try.underlying22 hf with ⟨hcs, _⟩ | ⟨x, l, c, m, n, D, Pl, hcs, _, hl, hm, hmm, _, hcells⟩
  · simp [Value.cells] at hcs
    obtain ⟨rfl, rfl, rfl⟩ := hcs
    exact ⟨[], rfl, ⟨.inl rfl, by simp⟩, by unfold maxLen; omega, Nat.le_refl _⟩
  · simp [Value.cells] at hcs
    obtain ⟨rfl, rfl, rfl⟩ := hcs
    have hlm : len ≤ m := by rw [hmm]; split <;> omega
    rw [cellsFile] at hcells
    have hv1 : ∀ i, i < len → ∃ g : FileT, (g.1.size ≤ maxLen ∧ g.2.size ≤ maxLen) ∧ W.cell? (x.add (i * 2)) = some (.string g.1) ∧ W.cell? (x.add (i * 2 + 1)) = some (.string g.2) := fun i hi => by
      obtain ⟨cs, h1, h2⟩ := hcells i (by omega)
      obtain ⟨g, rfl, hw⟩ := trod_file h2
      obtain ⟨_, _, h3⟩ := World.cells?_some h1
      have k0 := h3 0 (by omega)
      have k1 := h3 1 (by omega)
      rw [Addr.add_add] at k0 k1
      exact ⟨g, hw, by simpa using k0, by simpa using k1⟩
    obtain ⟨f, hf2⟩ : ∃ f : Nat → FileT, ∀ i, i < len → ((f i).1.size ≤ maxLen ∧ (f i).2.size ≤ maxLen) ∧ W.cell? (x.add (i * 2)) = some (.string (f i).1) ∧ W.cell? (x.add (i * 2 + 1)) = some (.string (f i).2) := by
      refine ⟨fun i => if h : i < len then (hv1 i h).choose else (⟨#[]⟩, ⟨#[]⟩), fun i hi => ?_⟩
      simp only [dif_pos hi]
      exact (hv1 i hi).choose_spec
    refine ⟨(List.range len).map f, by simp, ⟨?_, fun g hg => ?_⟩, by omega, hl⟩
    · by_cases h00 : len = 0
      · subst h00; exact .inl rfl
      · obtain ⟨b, off, spot⟩ := x
        have hc0 := (hf2 0 (by omega)).2.1
        have hspot : spot = none := by
          have h := World.cell?_spot hc0
          simpa [Addr.add] using h
        subst hspot
        refine .inr ⟨b, off, rfl, ?_, fun i g hi => ?_⟩
        · rw [Addr.add_mid] at hc0
          exact World.block_lt_of_cell? W _ hc0
        · have hin : i < len := by simpa using (List.getElem?_eq_some_iff.1 hi).1
          simp [hin] at hi
          subst hi
          obtain ⟨_, k0, k1⟩ := hf2 i hin
          rw [Addr.add_mid] at k0 k1
          exact ⟨k0, by rw [Nat.add_assoc]; exact k1⟩
    · obtain ⟨i, hi, rfl⟩ := List.mem_map.1 hg
      exact (hf2 i (by simpa using hi)).1
/-- A row of numbers that a slice leads to. -/
theorem trod_nums {H : Type} {enc : TypeId × Value → H} {W : World} {base : Nat} {spare : Nat → Bool} {held : Bool} {fuel : Nat} {v : Value} {y : DataW H × List MemPlace}
    (hf : DataW.trod enc Try.prog W base spare held fuel 34 [v] = some y) : ∃ (a : Option Addr) (c : Nat) (l : List Int), v = .slice a l.length c ∧ NumsAt W a l ∧ (l = [] ∨ AdrP (fun k => k < W.heap.size) a) ∧ (∀ z ∈ l, In64D z) ∧ l.length ≤ maxLen ∧ l.length ≤ c := by
  rcases Go.Deep.open_slice1 Try.underlying34 cellsI3D hf with ⟨hcs, _⟩ | ⟨x, l, c, m, n, V, D, Pl, hcs, _, hl, hm, hmm, _, hcells⟩
  · obtain rfl : v = .slice none 0 0 := by simpa using hcs
    exact ⟨none, 0, [], rfl, .inl rfl, .inl rfl, by simp, by unfold maxLen; simp, Nat.le_refl _⟩
  · obtain rfl : v = .slice (some x) l c := by simpa using hcs
    have hlm : l ≤ m := by rw [hmm]; split <;> omega
    have hv1 : ∀ i, i < l → ∃ z : Int, In64D z ∧ W.cell? (x.add i) = some (.int .i64 z) := fun i hi => by
      obtain ⟨h1, h2⟩ := hcells i (by omega)
      obtain ⟨z, hz, _, hw⟩ := DataW.trod_int Try.underlying3 h2
      have hz2 : V i = .int .i64 z := by simpa using hz
      exact ⟨z, in64_wf hw, by rw [h1, hz2]⟩
    obtain ⟨f, hf2⟩ : ∃ f : Nat → Int, ∀ i, i < l → In64D (f i) ∧ W.cell? (x.add i) = some (.int .i64 (f i)) := by
      refine ⟨fun i => if h : i < l then (hv1 i h).choose else 0, fun i hi => ?_⟩
      simp only [dif_pos hi]
      exact (hv1 i hi).choose_spec
    have hlen : ((List.range l).map f).length = l := by simp
    refine ⟨some x, c, (List.range l).map f, by rw [hlen], ?_, ?_, fun z hz => ?_, by rw [hlen]; omega, by rw [hlen]; exact hl⟩
    · by_cases h00 : l = 0
      · subst h00; exact .inl rfl
      · obtain ⟨b, off, spot⟩ := x
        have hc0 := (hf2 0 (by omega)).2
        have hspot : spot = none := by
          have h := World.cell?_spot hc0
          simpa [Addr.add] using h
        subst hspot
        refine .inr ⟨b, off, rfl, ?_, fun i g hi => ?_⟩
        · rw [Addr.add_mid] at hc0
          exact World.block_lt_of_cell? W _ hc0
        · have hin : i < l := by simpa using (List.getElem?_eq_some_iff.1 hi).1
          simp [hin] at hi
          subst hi
          have := (hf2 i hin).2
          rwa [Addr.add_mid] at this
    · by_cases h00 : l = 0
      · subst h00; exact .inl rfl
      · refine .inr ?_
        rintro b ⟨off, hb⟩
        simp at hb; subst hb
        have hc0 := (hf2 0 (by omega)).2
        rw [Addr.add_mid] at hc0
        exact World.block_lt_of_cell? W _ hc0
    · obtain ⟨i, hi, rfl⟩ := List.mem_map.1 hz
      exact (hf2 i (by simpa using hi)).1
set_option maxRecDepth 100000 in
theorem open_nums {H : Type} {enc : TypeId × Value → H} {W : World} {base : Nat} {spare : Nat → Bool} {held : Bool} {a : Option Addr} {len cap : Nat} {d : DataW H} {ps : List MemPlace}
    (h : DataW.Trod enc Try.prog W base spare held 34 (.slice a len cap) d ps) : ∃ l : List Int, l.length = len ∧ (NumsAt W a l ∧ (l = [] ∨ AdrP (fun k => k < W.heap.size) a) ∧ ∀ z ∈ l, In64D z) ∧ len ≤ maxLen ∧ len ≤ cap := by
  obtain ⟨fuel, hf⟩ := h
  obtain ⟨a', c', l, hv, h1, h2, h3, h4, h5⟩ := trod_nums (v := .slice a len cap) hf
  simp only [Value.slice.injEq] at hv
  obtain ⟨rfl, rfl, rfl⟩ := hv
  exact ⟨l, rfl, ⟨h1, h2, h3⟩, h4, h5⟩
set_option maxRecDepth 100000 in
theorem trod_act {H : Type} {enc : TypeId × Value → H} {w : World} {base : Nat} {sp : Nat → Bool} {held : Bool} {fuel : Nat} {cs : List Value} {x : DataW H × List MemPlace}
    (h : DataW.trod enc Try.prog w base sp held fuel 36 cs = some x) : ∃ t : ActT, cs = (acells t).toList ∧ NumsAt w t.ka t.keep ∧ (t.keep = [] ∨ AdrP (fun k => k < w.heap.size) t.ka) ∧ (0 ≤ t.kind ∧ t.kind ≤ 255) ∧ In64D t.pl ∧ ∀ z ∈ t.keep, In64D z := by
  obtain ⟨xs, m, rfl, rfl, hl, hxl, hi⟩ := DataW.trod_struct Try.underlying36 h
  obtain ⟨y0, y1, y2, y3, y4, rfl⟩ : ∃ y0 y1 y2 y3 y4, xs = [y0, y1, y2, y3, y4] := by
    match xs, hxl with
    | [y0, y1, y2, y3, y4], _ => exact ⟨_, _, _, _, _, rfl⟩
  rw [cellsAct] at hl
  obtain ⟨v0, v1, v2, v3, v4, rfl⟩ : ∃ v0 v1 v2 v3 v4, cs = [v0, v1, v2, v3, v4] := by
    match cs, hl with
    | [v0, v1, v2, v3, v4], _ => exact ⟨_, _, _, _, _, rfl⟩
  have e0 : DataW.trod enc Try.prog w base sp held m 5 (([v0, v1, v2, v3, v4].drop 0).take (Try.prog.cellsOf 5)) = some y0 := hi 0 _ rfl
  rw [cellsU5D] at e0
  obtain ⟨z0, hz0, rfl, w0⟩ := DataW.trod_int Try.underlying5 e0
  obtain rfl : v0 = .int .u8 z0 := by simpa using hz0
  have e1 : DataW.trod enc Try.prog w base sp held m 9 (([.int .u8 z0, v1, v2, v3, v4].drop 1).take (Try.prog.cellsOf 9)) = some y1 := hi 1 _ rfl
  rw [cellsS9D] at e1
  obtain ⟨z1, hz1, rfl, w1⟩ := DataW.trod_string Try.underlying9 e1
  obtain rfl : v1 = .string z1 := by simpa using hz1
  have e2 : DataW.trod enc Try.prog w base sp held m 3 (([.int .u8 z0, .string z1, v2, v3, v4].drop 2).take (Try.prog.cellsOf 3)) = some y2 := hi 2 _ rfl
  rw [cellsI3D] at e2
  obtain ⟨z2, hz2, rfl, w2⟩ := DataW.trod_int Try.underlying3 e2
  obtain rfl : v2 = .int .i64 z2 := by simpa using hz2
  have e3 : DataW.trod enc Try.prog w base sp held m 9 (([.int .u8 z0, .string z1, .int .i64 z2, v3, v4].drop 3).take (Try.prog.cellsOf 9)) = some y3 := hi 3 _ rfl
  rw [cellsS9D] at e3
  obtain ⟨z3, hz3, rfl, w3⟩ := DataW.trod_string Try.underlying9 e3
  obtain rfl : v3 = .string z3 := by simpa using hz3
  have e4 : DataW.trod enc Try.prog w base sp held m 34 (([.int .u8 z0, .string z1, .int .i64 z2, .string z3, v4].drop 4).take (Try.prog.cellsOf 34)) = some y4 := hi 4 _ rfl
  rw [cellsL34] at e4
  obtain ⟨a, c, l, hv, h1, h2, h3, _, _⟩ := trod_nums (v := v4) e4
  subst hv
  exact ⟨⟨z0, z1, z2, z3, a, c, l⟩, rfl, h1, h2, u8_wf w0, in64_wf w2, h3⟩
set_option maxRecDepth 100000 in
theorem open_acts {H : Type} {enc : TypeId × Value → H} {W : World} {base : Nat} {spare : Nat → Bool} {held : Bool} {a : Option Addr} {len cap : Nat} {d : DataW H} {ps : List MemPlace}
    (h : DataW.Trod enc Try.prog W base spare held 23 (.slice a len cap) d ps) : ∃ l : List ActT, l.length = len ∧ ActsAt W.heap.size W a l ∧ len ≤ maxLen ∧ len ≤ cap := by
  obtain ⟨fuel, hf⟩ := h
  rcases Go.Deep.open_slice Try.underlying23 hf with ⟨hcs, _⟩ | ⟨x, l, c, m, n, D, Pl, hcs, _, hl, hm, hmm, _, hcells⟩
  · simp [Value.cells] at hcs
    obtain ⟨rfl, rfl, rfl⟩ := hcs
    exact ⟨[], rfl, .inl rfl, by unfold maxLen; omega, Nat.le_refl _⟩
  · simp [Value.cells] at hcs
    obtain ⟨rfl, rfl, rfl⟩ := hcs
    have hlm : len ≤ m := by rw [hmm]; split <;> omega
    rw [cellsAct] at hcells
    have hv1 : ∀ i, i < len → ∃ t : ActT, (NumsAt W t.ka t.keep ∧ (t.keep = [] ∨ AdrP (fun k => k < W.heap.size) t.ka) ∧ (0 ≤ t.kind ∧ t.kind ≤ 255) ∧ In64D t.pl ∧ ∀ z ∈ t.keep, In64D z) ∧ ∀ j, j < 5 → W.cell? (x.add (i * 5 + j)) = (acells t).toList[j]? := fun i hi => by
      obtain ⟨cs, h1, h2⟩ := hcells i (by omega)
      obtain ⟨t, rfl, hw⟩ := trod_act h2
      obtain ⟨_, _, h3⟩ := World.cells?_some h1
      exact ⟨t, hw, fun j hj => by rw [← h3 j hj, Addr.add_add]⟩
    obtain ⟨f, hf2⟩ : ∃ f : Nat → ActT, ∀ i, i < len → (NumsAt W (f i).ka (f i).keep ∧ ((f i).keep = [] ∨ AdrP (fun k => k < W.heap.size) (f i).ka) ∧ (0 ≤ (f i).kind ∧ (f i).kind ≤ 255) ∧ In64D (f i).pl ∧ ∀ z ∈ (f i).keep, In64D z) ∧ ∀ j, j < 5 → W.cell? (x.add (i * 5 + j)) = (acells (f i)).toList[j]? := by
      refine ⟨fun i => if h : i < len then (hv1 i h).choose else ⟨0, ⟨#[]⟩, 0, ⟨#[]⟩, none, 0, []⟩, fun i hi => ?_⟩
      simp only [dif_pos hi]
      exact (hv1 i hi).choose_spec
    refine ⟨(List.range len).map f, by simp, ?_, by omega, hl⟩
    by_cases h00 : len = 0
    · subst h00; exact .inl rfl
    · obtain ⟨b, off, spot⟩ := x
      have hc0 : W.cell? ((⟨b, off, spot⟩ : Addr).add (0 * 5 + 0)) = some (.int .u8 (f 0).kind) := (hf2 0 (by omega)).2 0 (by omega)
      have hspot : spot = none := by
        have h := World.cell?_spot hc0
        simpa [Addr.add] using h
      subst hspot
      refine .inr ⟨b, off, rfl, ?_, fun i t hi => ?_⟩
      · rw [Addr.add_mid] at hc0
        exact World.block_lt_of_cell? W _ hc0
      · have hin : i < len := by simpa using (List.getElem?_eq_some_iff.1 hi).1
        simp [hin] at hi
        subst hi
        obtain ⟨hw, h6⟩ := hf2 i hin
        refine ⟨fun j v hj => ?_, hw⟩
        have hj5 : j < 5 := by
          have := (List.getElem?_eq_some_iff.1 hj).1
          simpa [acells] using this
        have h := h6 j hj5
        rw [Addr.add_mid, hj] at h
        rw [show off + i * 5 + j = off + (i * 5 + j) by omega]
        exact h
end Go.Proofs.Ytcedkilgfoiifaa
