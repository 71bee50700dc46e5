/- What the laws of rules ask of the program; alive; RulesOpposed: the walk. -/
import Derived.Test.YtfodnadmabnacaaDoorRuRef5
namespace Go.Proofs.YtfodnadmabnacaaDoor
open Go.RowKit Base Base2

def in8 (z : Int) : Prop := -9223372036854775808 ≤ z ∧ z ≤ 9223372036854775807
def StepOk (s : StepT) : Prop := in8 s.r ∧ in8 s.x ∧ in8 s.y
/-- What the laws ask of the program's calls; K: what they lean on in memory. -/
structure RulesC (K : World → Prop) : Prop where
  keep : ∀ (W W' : World), K W → Below W.heap.size W W' → K W'
  rel : ∀ (n : Int) (W : World), K W → in8 n → Calls Tryd.prog 8 #[.int .i64 n] W fun e w' => e = .returned (.int .i64 (rowT n).2.1) ∧ Below W.heap.size W w'
  code : ∀ (n : Int) (W : World), K W → in8 n → Calls Tryd.prog 9 #[.int .i64 n] W fun e w' => e = .returned (.int .i64 (rowT n).2.2) ∧ Below W.heap.size W w'
  name : ∀ (n : Int) (W : World), K W → in8 n → Calls Tryd.prog 10 #[.int .i64 n] W fun e w' => e = .returned (.string (nameS n)) ∧ Below W.heap.size W w'
  holds : ∀ (s : StepT) (W : World), K W → StepOk s → Calls Tryd.prog 11 #[.agg #[.int .i64 s.r, .int .i64 s.x, .int .i64 s.y, .bool s.o]] W fun e w' => e = .returned (.bool (holdS s)) ∧ Below W.heap.size W w'
  text : ∀ (s : StepT) (W : World), K W → StepOk s → Calls Tryd.prog 13 #[.agg #[.int .i64 s.r, .int .i64 s.x, .int .i64 s.y, .bool s.o]] W fun e w' => e = .returned (.string (textS s)) ∧ Below W.heap.size W w'
  may : ∀ (a : Option Addr) (c : Nat) (l : List StepT) (W : World), K W → StepsAt W a l → l.length ≤ 60 → l.length ≤ c → (∀ s ∈ l, StepOk s) → Calls Tryd.prog 16 #[.slice a l.length c] W fun e w' => e = .returned (.bool (maySteps l)) ∧ Below W.heap.size W w'
  weigh : ∀ (a : Option Addr) (c : Nat) (l : List StepT) (W : World), K W → StepsAt W a l → l.length ≤ 60 → l.length ≤ c → (∀ s ∈ l, StepOk s) → Calls Tryd.prog 15 #[.slice a l.length c] W fun e w' => e = .returned (if maySteps l then .tuple #[.agg #[.int .i64 (weighS l 0).1, .int .i64 (weighS l 0).2], .int .i64 0] else .tuple #[.agg #[.int .i64 0, .int .i64 0], .int .i64 3]) ∧ Below W.heap.size W w'
theorem infoVd2 : (Tryd.prog.info? 35).map (·.size) = some 2 := by kernel_rfl
def s18 : StepT := ⟨18, 5, 4, false⟩
def s20 : StepT := ⟨20, 3, 9, false⟩
theorem s18_ok : ∀ s ∈ [s18], StepOk s := fun s h => by rw [List.mem_singleton.1 h]; exact ⟨⟨by decide, by decide⟩, ⟨by decide, by decide⟩, ⟨by decide, by decide⟩⟩
theorem s20_ok : ∀ s ∈ [s20], StepOk s := fun s h => by rw [List.mem_singleton.1 h]; exact ⟨⟨by decide, by decide⟩, ⟨by decide, by decide⟩, ⟨by decide, by decide⟩⟩
theorem s18_w : maySteps [s18] = true ∧ weighS [s18] 0 = (9, 0) := ⟨rfl, rfl⟩
theorem s20_w : maySteps [s20] = true ∧ weighS [s20] 0 = (0, 3) := ⟨rfl, rfl⟩
theorem s18_t : textS s18 = ⟨#[119, 111, 114, 116, 104, 32, 53, 32, 60, 61, 32, 52]⟩ := by
  have h1 : decZ 5 = ⟨#[53]⟩ := by unfold decZ; rw [if_neg (by decide), show (5 : Int).toNat = 5 from rfl, decB_small (by decide)]; rfl
  have h2 : decZ 4 = ⟨#[52]⟩ := by unfold decZ; rw [if_neg (by decide), show (4 : Int).toNat = 4 from rfl, decB_small (by decide)]; rfl
  unfold textS
  rw [if_neg (by decide), show s18.x = 5 from rfl, show s18.y = 4 from rfl, h1, h2]
  rfl
theorem one_step {W : World} {g : Nat} {s : StepT} (h : W.heap[g]? = some (.cells #[.int .i64 s.r, .int .i64 s.x, .int .i64 s.y, .bool s.o] 23 (0, 0))) : StepsAt W (some ⟨g, 0, none⟩) [s] := by
  refine .inr ⟨g, 0, rfl, blk_ltR h, fun i t hi j u hu => ?_⟩
  match i, hi with
  | 0, hi =>
    obtain rfl : s = t := by simpa using hi
    rw [cell_of_row _ _ _ _ _ _ h]
    simpa [StepT.cells] using hu
  | i + 1, hi => simp at hi
set_option maxRecDepth 100000 in
set_option maxHeartbeats 8000000 in
theorem aliveR {K : World → Prop} (C : RulesC K) (w : World) (hK : K w) : Calls Tryd.prog 6 #[] w fun e w' => e = .returned (.bool true) ∧ Below w.heap.size w w' := by
  obtain ⟨W1, hW1⟩ : ∃ z, w.alloc (.cells #[.int .i64 18, .int .i64 5, .int .i64 4, .bool false] 23) = z := ⟨_, rfl⟩
  have hb1 : Below w.heap.size w W1 := by rw [← hW1]; exact (Below.refl _ _).alloc (Nat.le_refl _) _
  have hz1 : W1.heap[w.heap.size]? = some (.cells #[.int .i64 18, .int .i64 5, .int .i64 4, .bool false] 23 (0, 0)) := by rw [← hW1]; exact heap_alloc_new w _
  have HKP := Lib.hid C.keep
  have HB1 := Lib.hid hb1
  have HWE := Lib.hid (show Calls Tryd.prog 15 #[.slice (some ⟨w.heap.size, 0, none⟩) 1 1] W1 fun e w' => e = .returned (.tuple #[.agg #[.int .i64 9, .int .i64 0], .int .i64 0]) ∧ Below W1.heap.size W1 w' from by
    have k := C.weigh (some ⟨w.heap.size, 0, none⟩) 1 [s18] W1 (C.keep _ _ hK hb1) (one_step (s := s18) hz1) (by decide) (by decide) s18_ok
    rw [s18_w.1, s18_w.2, if_pos rfl] at k
    exact k)
  have HW2 := Lib.hid (fun W (hk : K W) g (hz : W.heap[g]? = some (.cells #[.int .i64 20, .int .i64 3, .int .i64 9, .bool false] 23 (0, 0))) => show Calls Tryd.prog 15 #[.slice (some ⟨g, 0, none⟩) 1 1] W fun e w' => e = .returned (.tuple #[.agg #[.int .i64 0, .int .i64 3], .int .i64 0]) ∧ Below W.heap.size W w' from by
    have k := C.weigh (some ⟨g, 0, none⟩) 1 [s20] W hk (one_step (s := s20) hz) (by decide) (by decide) s20_ok
    rw [s20_w.1, s20_w.2, if_pos rfl] at k
    exact k)
  have HTX := Lib.hid (fun W (hk : K W) => show Calls Tryd.prog 13 #[.agg #[.int .i64 18, .int .i64 5, .int .i64 4, .bool false]] W fun e w' => e = .returned (.string ⟨#[119, 111, 114, 116, 104, 32, 53, 32, 60, 61, 32, 52]⟩) ∧ Below W.heap.size W w' from by
    have k := C.text s18 W hk (s18_ok _ (List.mem_singleton.2 rfl))
    rw [s18_t] at k
    exact k)
  have HK0 := Lib.hid (C.keep _ _ hK hb1)
  clear hb1 hz1 hK C
  go_enter Tryd.func6, Tryd.ntmps6
  go_upto_region 2 with (go_at_call 15; refine HWE.out.mono ?_; rintro e w2 ⟨rfl, hb2⟩; have HB2 := Lib.hid hb2; clear hb2)
  obtain ⟨W3, hW3⟩ : ∃ z, w2.alloc (.cells #[.int .i64 9, .int .i64 0] 35) = z := ⟨_, rfl⟩
  have hb3 : Below w2.heap.size w2 W3 := by rw [← hW3]; exact (Below.refl _ _).alloc (Nat.le_refl _) _
  have hz3 : W3.heap[w2.heap.size]? = some (.cells #[.int .i64 9, .int .i64 0] 35 (0, 0)) := by rw [← hW3]; exact heap_alloc_new w2 _
  have HB3 := Lib.hid (HB2.out.trans (hb3.mono HB2.out.size))
  have HZ3 := Lib.hid hz3
  rw [hW3]
  clear hW3 hb3 hz3 hW1 HWE
  obtain ⟨W4, hW4⟩ : ∃ z, W3.alloc (.cells #[.int .i64 20, .int .i64 3, .int .i64 9, .bool false] 23) = z := ⟨_, rfl⟩
  have hb4 : Below W3.heap.size W3 W4 := by rw [← hW4]; exact (Below.refl _ _).alloc (Nat.le_refl _) _
  have HZ4 := Lib.hid (show W4.heap[W3.heap.size]? = some (.cells #[.int .i64 20, .int .i64 3, .int .i64 9, .bool false] 23 (0, 0)) by rw [← hW4]; exact heap_alloc_new W3 _)
  have HB4 := Lib.hid hb4
  have HW2' := Lib.hid (HW2.out W4 (HKP.out _ _ HK0.out (HB3.out.trans (hb4.mono HB3.out.size))) _ HZ4.out)
  clear hb4 HW2
  go_upto_region 3 with (go_at_call 15; refine HW2'.out.mono ?_; rintro e w5 ⟨rfl, hb5⟩; have HB5 := Lib.hid hb5; clear hb5)
  obtain ⟨W6, hW6⟩ : ∃ z, w5.alloc (.cells #[.int .i64 0, .int .i64 3] 35) = z := ⟨_, rfl⟩
  have hb6 : Below w5.heap.size w5 W6 := by rw [← hW6]; exact (Below.refl _ _).alloc (Nat.le_refl _) _
  have hz6 : W6.heap[w5.heap.size]? = some (.cells #[.int .i64 0, .int .i64 3] 35 (0, 0)) := by rw [← hW6]; exact heap_alloc_new w5 _
  have hb36 : Below W3.heap.size W3 W6 := HB4.out.trans ((HB5.out.trans (hb6.mono HB5.out.size)).mono HB4.out.size)
  have v0 : W6.cell? ⟨w2.heap.size, 0, none⟩ = some (.int .i64 9) := by rw [cell_of_row _ _ _ _ _ _ ((hb36.block _ (blk_ltR HZ3.out)).trans HZ3.out)]; rfl
  have v1 : W6.cell? ⟨w2.heap.size, 1, none⟩ = some (.int .i64 0) := by rw [cell_of_row _ _ _ _ _ _ ((hb36.block _ (blk_ltR HZ3.out)).trans HZ3.out)]; rfl
  have HZ6 := Lib.hid hz6
  have HB6 := Lib.hid (HB3.out.trans (hb36.mono HB3.out.size))
  have HT6 := Lib.hid (HTX.out W6 (HKP.out _ _ HK0.out HB6.out))
  rw [hW6]
  clear hW6 hb6 hz6 hb36 HTX HW2' hW4
  go_wp2_with (go_at_call 13; refine HT6.out.mono ?_; rintro e w7 ⟨rfl, hb7⟩; have HB7 := Lib.hid hb7; have u0 : w7.cell? ⟨w5.heap.size, 0, none⟩ = some (.int .i64 0) := (by rw [cell_of_row _ _ _ _ _ _ ((hb7.block _ (blk_ltR HZ6.out)).trans HZ6.out)]; rfl); have u1 : w7.cell? ⟨w5.heap.size, 1, none⟩ = some (.int .i64 3) := (by rw [cell_of_row _ _ _ _ _ _ ((hb7.block _ (blk_ltR HZ6.out)).trans HZ6.out)]; rfl); clear hb7)
  go_ret
  exact ⟨rfl, HB1.out.trans ((HB6.out.trans (HB7.out.mono HB6.out.size)).mono HB1.out.size)⟩
end Go.Proofs.YtfodnadmabnacaaDoor
