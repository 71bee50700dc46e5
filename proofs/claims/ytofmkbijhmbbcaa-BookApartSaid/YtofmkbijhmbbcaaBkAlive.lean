/- The example of books. -/
import Derived.Test.YtofmkbijhmbbcaaBkLaw
import Derived.Test.YtofmkbijhmbbcaaBkRise
namespace Go.Proofs.Ytofmkbijhmbbcaa
open Go.RowKit Base Base2

def noSlots : Slots := ⟨none, none, none, none, 0, 0, 0, 0⟩
def noBook : BookT := ⟨[], [], [], [], 0⟩
theorem in_none (W : World) : BookIn W noSlots noBook := ⟨.inl rfl, .inl rfl, .inl rfl, .inl rfl⟩
def exB : BookT := ⟨[[2, 5, 0, 0]], [], [], [], 0⟩
def exC : BookT := ⟨[[2, 5, 0, 0]], [[2, 1, 7]], [], [], 0⟩
theorem exB_is : setHolderT noBook [2, 5, 0, 0] = exB := rfl
theorem exC_is : setStakeT exB [2, 1, 7] = exC := rfl
theorem exD_is : setStakeT exC [2, 1, 0] = exB := rfl
theorem ok_of {k : Nat} {l : List Item} (h1 : l.length ≤ 400) (h2 : l.all (fun x => x.length == k && x.all (fun z => decide (-9223372036854775808 ≤ z) && decide (z ≤ 9223372036854775807))) = true) : ItemsOk k 400 l := by
  refine ⟨h1, fun x hx => ?_⟩
  have h := List.all_eq_true.1 h2 x hx
  rw [Bool.and_eq_true] at h
  refine ⟨by simpa using h.1, fun z hz => ?_⟩
  have := List.all_eq_true.1 h.2 z hz
  simpa [in6] using this
theorem noBook_ok : BookOk 400 noBook := ⟨ok_of (by decide) rfl, ok_of (by decide) rfl, ok_of (by decide) rfl, ok_of (by decide) rfl, ⟨by decide, by decide⟩⟩
theorem exB_ok : BookOk 400 exB := ⟨ok_of (by decide) rfl, ok_of (by decide) rfl, ok_of (by decide) rfl, ok_of (by decide) rfl, ⟨by decide, by decide⟩⟩
theorem exC_ok : BookOk 400 exC := ⟨ok_of (by decide) rfl, ok_of (by decide) rfl, ok_of (by decide) rfl, ok_of (by decide) rfl, ⟨by decide, by decide⟩⟩

set_option maxRecDepth 100000 in
set_option maxHeartbeats 4000000 in
theorem alive7B {K : World → Prop} (C : BookC K) (w : World) (hK : K w) : Calls Try.prog 7 #[] w fun e w' => e = .returned (.bool true) ∧ Below w.heap.size w w' := by
  have i2 : in6 2 := by unfold in6; omega
  have i5 : in6 5 := by unfold in6; omega
  have i0 : in6 0 := by unfold in6; omega
  have i1 : in6 1 := by unfold in6; omega
  have i7 : in6 7 := by unfold in6; omega
  have i3 : in6 3 := by unfold in6; omega
  have HSH := Lib.hid (show Calls Try.prog 23 #[.agg #[.slice none 0 0, .slice none 0 0, .slice none 0 0, .slice none 0 0, .int .i64 0], .agg #[.int .i64 2, .int .i64 5, .int .i64 0, .int .i64 0]] w (BookOut w exB) from C.setHolder noSlots noBook 2 5 0 0 w hK (in_none w) ⟨Nat.zero_le _, Nat.zero_le _, Nat.zero_le _, Nat.zero_le _⟩ noBook_ok rfl i2 i5 i0 i0)
  have HH3 := Lib.hid (show ∀ v W, K W → BookIn W v exB → Calls Try.prog 15 #[.agg (cellsB v exB), .int .i64 3] W fun e w' => e = .returned (.tuple #[.agg #[.int .i64 0, .int .i64 0, .int .i64 0, .int .i64 0], .bool false]) ∧ Below W.heap.size W w' from fun v W h1 h2 => C.holder v exB 3 W h1 h2 exB_ok rfl i3)
  have HH2 := Lib.hid (show ∀ v W, K W → BookIn W v exB → Calls Try.prog 15 #[.agg (cellsB v exB), .int .i64 2] W fun e w' => e = .returned (.tuple #[.agg #[.int .i64 2, .int .i64 5, .int .i64 0, .int .i64 0], .bool true]) ∧ Below W.heap.size W w' from fun v W h1 h2 => C.holder v exB 2 W h1 h2 exB_ok rfl i2)
  have HS1 := Lib.hid (show ∀ v W, K W → BookIn W v exB → CapOk v exB → Calls Try.prog 24 #[.agg (cellsB v exB), .agg #[.int .i64 2, .int .i64 1, .int .i64 7]] W (BookOut W exC) from fun v W h1 h2 hc => C.setStake v exB 2 1 7 W h1 h2 hc exB_ok rfl i2 i1 i7)
  have HS2 := Lib.hid (show ∀ v W, K W → BookIn W v exC → CapOk v exC → Calls Try.prog 24 #[.agg (cellsB v exC), .agg #[.int .i64 2, .int .i64 1, .int .i64 0]] W (BookOut W exB) from fun v W h1 h2 hc => C.setStake v exC 2 1 0 W h1 h2 hc exC_ok rfl i2 i1 i0)
  have HKP := Lib.hid C.keep
  have HI := Lib.hid (show ∀ v b, (Try.prog.info? 27).map (·.size) = some (cellsB v b).size from fun v b => info27)
  have HK := Lib.hid hK
  clear C hK i0 i1 i2 i3 i5 i7
  go_enter Try.func7, Try.ntmps7
  go_upto_region 2 with (first
    | ((with_reducible refine atStore (ty := 27) (x := .tmp 1) (y := .tmp 9) rfl ?_); refine wpList_store_row rfl 27 (.tmp 1) (.tmp 9) rfl w1.heap.size (cellsB v1 exB) rfl rfl 27 #[.slice none 0 0, .slice none 0 0, .slice none 0 0, .slice none 0 0, .int .i64 0] (heap_alloc_new w1 _) info27 rfl (by simp [cellsB, Value.oneCell']) ?_)
    | (go_at_call 23; refine HSH.out.mono ?_; rintro e w1 ⟨⟨v1, rfl, hin1, _, hc1⟩, hb1⟩; have HC1 := Lib.hid hc1; clear hc1))
  have hbA : Below w1.heap.size w1 ((w1.alloc (.cells #[.slice none 0 0, .slice none 0 0, .slice none 0 0, .slice none 0 0, .int .i64 0] 27)).setRow w1.heap.size (cellsB v1 exB)) := below_rowB ((Below.refl _ _).alloc (Nat.le_refl _) _) (Nat.le_refl _)
  refine at_world (Φ := fun W => K W ∧ Below w.heap.size w W ∧ BoxB W w1.heap.size v1 exB ∧ BookIn W v1 exB) ⟨HKP.out _ _ (HKP.out _ _ HK.out hb1) hbA, hb1.trans (hbA.mono hb1.size), setRow_heap _ _ _ _ _ _ (heap_alloc_new w1 _), hin1.below hbA⟩ ?_
  clear hb1 hbA hin1 HSH HK
  rintro W1 ⟨hk1, hb1, hx1, hn1⟩
  have HB1 := Lib.hid hb1
  have HX1 := Lib.hid hx1
  have HN1 := Lib.hid hn1
  have HK1 := Lib.hid hk1
  clear hb1 hx1 hn1 hk1
  unfold BoxB at HX1
  go_upto_region 3 with (first
    | ((with_reducible refine atStore (ty := 33) (x := .tmp 2) (y := .tmp 13) rfl ?_); refine wpList_store_row rfl 33 (.tmp 2) (.tmp 13) rfl w2.heap.size #[.int .i64 0, .int .i64 0, .int .i64 0, .int .i64 0] rfl rfl 33 #[.int .i64 0, .int .i64 0, .int .i64 0, .int .i64 0] (heap_alloc_new w2 _) info33 rfl (by simp [Value.oneCell']) ?_)
    | ((with_reducible refine atLoad (ty := 27) (x := .tmp 1) rfl ?_); refine wpList_load_row rfl 27 (.tmp 1) rfl w1.heap.size rfl 27 (cellsB v1 exB) (0, 0) _ HX1.out Try.underlying27 rfl (HI.out _ _) ?_)
    | (go_at_call 15; refine (HH3.out v1 W1 HK1.out HN1.out).mono ?_; rintro e w2 ⟨rfl, hb2⟩))
  have hbA : Below w2.heap.size w2 ((w2.alloc (.cells #[.int .i64 0, .int .i64 0, .int .i64 0, .int .i64 0] 33)).setRow w2.heap.size #[.int .i64 0, .int .i64 0, .int .i64 0, .int .i64 0]) := below_rowB ((Below.refl _ _).alloc (Nat.le_refl _) _) (Nat.le_refl _)
  refine at_world (Φ := fun W => K W ∧ Below w.heap.size w W ∧ BoxB W w1.heap.size v1 exB ∧ BookIn W v1 exB) (by
    have hbB := hb2.trans (hbA.mono hb2.size)
    exact ⟨HKP.out _ _ HK1.out hbB, HB1.out.trans (hbB.mono HB1.out.size), (hbB.block _ (Array.getElem?_eq_some_iff.1 HX1.out).1).trans HX1.out, HN1.out.below hbB⟩) ?_
  clear hb2 hbA HH3 HB1 HX1 HN1 HK1
  rintro W3 ⟨hk1, hb1, hx1, hn1⟩
  have HB1 := Lib.hid hb1
  have HX1 := Lib.hid hx1
  have HN1 := Lib.hid hn1
  have HK1 := Lib.hid hk1
  clear hb1 hx1 hn1 hk1
  unfold BoxB at HX1
  go_upto_region 4 with (first
    | ((with_reducible refine atStore (ty := 33) (x := .tmp 4) (y := .tmp 18) rfl ?_); refine wpList_store_row rfl 33 (.tmp 4) (.tmp 18) rfl w4.heap.size #[.int .i64 2, .int .i64 5, .int .i64 0, .int .i64 0] rfl rfl 33 #[.int .i64 0, .int .i64 0, .int .i64 0, .int .i64 0] (heap_alloc_new w4 _) info33 rfl (by simp [Value.oneCell']) ?_)
    | ((with_reducible refine atLoad (ty := 27) (x := .tmp 1) rfl ?_); refine wpList_load_row rfl 27 (.tmp 1) rfl w1.heap.size rfl 27 (cellsB v1 exB) (0, 0) _ HX1.out Try.underlying27 rfl (HI.out _ _) ?_)
    | (go_at_call 15; refine (HH2.out v1 W3 HK1.out HN1.out).mono ?_; rintro e w4 ⟨rfl, hb4⟩))
  have hbA : Below w4.heap.size w4 ((w4.alloc (.cells #[.int .i64 0, .int .i64 0, .int .i64 0, .int .i64 0] 33)).setRow w4.heap.size #[.int .i64 2, .int .i64 5, .int .i64 0, .int .i64 0]) := below_rowB ((Below.refl _ _).alloc (Nat.le_refl _) _) (Nat.le_refl _)
  refine at_world (Φ := fun W => K W ∧ Below w.heap.size w W ∧ BoxB W w1.heap.size v1 exB ∧ BookIn W v1 exB ∧ W.heap[w4.heap.size]? = some (.cells #[.int .i64 2, .int .i64 5, .int .i64 0, .int .i64 0] 33 (0, 0))) (by
    have hbB := hb4.trans (hbA.mono hb4.size)
    exact ⟨HKP.out _ _ HK1.out hbB, HB1.out.trans (hbB.mono HB1.out.size), (hbB.block _ (Array.getElem?_eq_some_iff.1 HX1.out).1).trans HX1.out, HN1.out.below hbB, setRow_heap _ _ _ _ _ _ (heap_alloc_new w4 _)⟩) ?_
  clear hb4 hbA HH2 HB1 HX1 HN1 HK1
  rintro W5 ⟨hk1, hb1, hx1, hn1, hh1⟩
  have HB1 := Lib.hid hb1
  have HX1 := Lib.hid hx1
  have HN1 := Lib.hid hn1
  have HK1 := Lib.hid hk1
  have HH1 := Lib.hid hh1
  clear hb1 hx1 hn1 hk1 hh1
  unfold BoxB at HX1
  go_upto_region 5 with (first
    | ((with_reducible refine atStore (ty := 27) (x := .tmp 6) (y := .tmp 24) rfl ?_); refine wpList_store_row rfl 27 (.tmp 6) (.tmp 24) rfl w7.heap.size (cellsB v7 exB) rfl rfl 27 #[.slice none 0 0, .slice none 0 0, .slice none 0 0, .slice none 0 0, .int .i64 0] (heap_alloc_new w7 _) info27 rfl (by simp [cellsB, Value.oneCell']) ?_)
    | ((with_reducible refine atLoad (ty := 27) (x := .tmp 1) rfl ?_); refine wpList_load_row rfl 27 (.tmp 1) rfl w1.heap.size rfl 27 (cellsB v1 exB) (0, 0) _ HX1.out Try.underlying27 rfl (HI.out _ _) ?_)
    | (go_at_call 24; refine (HS2.out v6 w6 HK6.out HN6.out HC6.out).mono ?_; rintro e w7 ⟨⟨v7, rfl, hin7, _⟩, hb7⟩; have HB7 := Lib.hid (HB6.out.trans (hb7.mono HB6.out.size)); clear hb7 HK6 HN6)
    | (go_at_call 24; refine (HS1.out v1 W5 HK1.out HN1.out HC1.out).mono ?_; rintro e w6 ⟨⟨v6, rfl, hin6, _, hc6⟩, hb6⟩; have HC6 := Lib.hid hc6; clear hc6; have HB6 := Lib.hid hb6; have HK6 := Lib.hid (HKP.out _ _ HK1.out hb6); have HN6 := Lib.hid hin6; clear hb6 hin6))
  have hbA : Below w7.heap.size w7 ((w7.alloc (.cells #[.slice none 0 0, .slice none 0 0, .slice none 0 0, .slice none 0 0, .int .i64 0] 27)).setRow w7.heap.size (cellsB v7 exB)) := below_rowB ((Below.refl _ _).alloc (Nat.le_refl _) _) (Nat.le_refl _)
  refine at_world (Φ := fun W => Below w.heap.size w W ∧ BoxB W w7.heap.size v7 exB ∧ W.heap[w4.heap.size]? = some (.cells #[.int .i64 2, .int .i64 5, .int .i64 0, .int .i64 0] 33 (0, 0))) (by
    have hbB := HB7.out.trans (hbA.mono HB7.out.size)
    exact ⟨HB1.out.trans (hbB.mono HB1.out.size), setRow_heap _ _ _ _ _ _ (heap_alloc_new w7 _), (hbB.block _ (Array.getElem?_eq_some_iff.1 HH1.out).1).trans HH1.out⟩) ?_
  clear hbA HB7 HB1 HX1 HN1 HK1 HH1 HS1 HS2
  rintro W8 ⟨hb8, hx8, hh8⟩
  obtain ⟨c0, c1, _⟩ := hx8.cells
  have d1 : W8.cell? ⟨w4.heap.size, 1, none⟩ = some (.int .i64 5) := by rw [cell_of_row _ _ _ _ 33 (0, 0) hh8]; rfl
  rw [show exB.hs.length = 1 from rfl] at c0
  rw [show exB.ss.length = 0 from rfl] at c1
  have HB8 := Lib.hid hb8
  clear hb8 hx8 hh8
  go_wp2
  go_ret
  exact ⟨rfl, HB8.out⟩
end Go.Proofs.Ytofmkbijhmbbcaa
