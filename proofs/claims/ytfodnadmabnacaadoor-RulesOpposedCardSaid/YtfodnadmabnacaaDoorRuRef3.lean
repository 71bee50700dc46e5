/- The document's Holds, Text: the contracts. -/
import Derived.Test.YtfodnadmabnacaaDoorRuRef2
namespace Go.Proofs.YtfodnadmabnacaaDoor
open Go.RowKit Base Base2

theorem field_rel (a : ByteArray) (b c : Int) (W : World) : (Instr.field 26 (.agg #[.string a, .int .i64 b, .int .i64 c]) 1).run Tryd.prog W = .ok (.int .i64 b) W := by kernel_rfl
theorem field_code (a : ByteArray) (b c : Int) (W : World) : (Instr.field 26 (.agg #[.string a, .int .i64 b, .int .i64 c]) 2).run Tryd.prog W = .ok (.int .i64 c) W := by kernel_rfl
theorem hold_over {s : StepT} (h : s.o = true) : holdS s = false := by unfold holdS; rw [h]; rfl
theorem hold_rel {s : StepT} (h : s.o = false) : holdS s = relB (rowT s.r).2.1 s.x s.y := by unfold holdS; rw [h]; rfl
theorem rel_1 (x y : Int) : relB 1 x y = decide (x ≤ y) := rfl
theorem rel_2 (x y : Int) : relB 2 x y = decide (y ≤ x) := rfl
theorem rel_3 (x y : Int) : relB 3 x y = (x == y) := rfl
theorem rel_no {k x y : Int} (h1 : k ≠ 1) (h2 : k ≠ 2) (h3 : k ≠ 3) : relB k x y = false := by unfold relB; rw [if_neg h1, if_neg h2, if_neg h3]
theorem cells4S {W : World} {g : Nat} {t : TypeId} {a b c d : Value} (h : W.heap[g]? = some (.cells #[a, b, c, d] t (0, 0))) : W.cell? ⟨g, 0, none⟩ = some a ∧ W.cell? ⟨g, 1, none⟩ = some b ∧ W.cell? ⟨g, 2, none⟩ = some c ∧ W.cell? ⟨g, 3, none⟩ = some d :=
  ⟨cell_of_row W g 0 _ t (0, 0) h, cell_of_row W g 1 _ t (0, 0) h, cell_of_row W g 2 _ t (0, 0) h, cell_of_row W g 3 _ t (0, 0) h⟩
set_option maxRecDepth 100000 in
set_option maxHeartbeats 8000000 in
theorem rholds12 (s : StepT) (w : World) : Calls Tryd.prog 12 #[.agg #[.int .i64 s.r, .int .i64 s.x, .int .i64 s.y, .bool s.o]] w fun e w' => e = .returned (.bool (holdS s)) ∧ Below w.heap.size w w' := by
  obtain ⟨r, x, y, ov⟩ := s
  obtain ⟨W1, hW1⟩ : ∃ z, w.alloc (.cells #[.int .i64 r, .int .i64 x, .int .i64 y, .bool ov] 23) = z := ⟨_, rfl⟩
  have hb : Below w.heap.size w W1 := by rw [← hW1]; exact (Below.refl _ w).alloc (Nat.le_refl _) _
  have hx : W1.heap[w.heap.size]? = some (.cells #[.int .i64 r, .int .i64 x, .int .i64 y, .bool ov] 23 (0, 0)) := by rw [← hW1]; exact heap_alloc_new w _
  have HX := Lib.hid (fun W (h : Below W1.heap.size W1 W) => cells4S ((h.block _ (blk_ltR hx)).trans hx))
  have HB := Lib.hid hb
  obtain ⟨c0, c1, c2, c3⟩ := HX.out W1 (Below.refl _ _)
  clear hb hx
  dsimp only
  cases ov with
  | true =>
    have HR := Lib.hid (hold_over (s := ⟨r, x, y, true⟩) rfl)
    go_enter Tryd.func12, Tryd.ntmps12
    go_wp2
    go_ret
    exact ⟨by rw [HR.out]; rfl, HB.out⟩
  | false =>
    have HR := Lib.hid (hold_rel (s := ⟨r, x, y, false⟩) rfl)
    have HT := Lib.hid (fun W => rtable7 r W)
    unfold rowV at HT
    dsimp only at HR
    generalize (rowT r).1 = nm at *
    generalize (rowT r).2.1 = k at *
    generalize (rowT r).2.2 = cd at *
    have hf := fun W => field_rel nm k cd W
    by_cases h1 : k = 1
    · subst h1
      rw [rel_1] at HR
      go_enter Tryd.func12, Tryd.ntmps12
      go_wp2_with (go_at_call 7; refine (HT.out _).mono ?_; rintro e w1 ⟨rfl, hb1⟩; obtain ⟨c0, c1, c2, c3⟩ := HX.out _ hb1; have HB1 := Lib.hid hb1; clear hb1)
      go_ret
      exact ⟨by rw [HR.out]; rfl, HB.out.trans (HB1.out.mono HB.out.size)⟩
    by_cases h2 : k = 2
    · subst h2
      rw [rel_2] at HR
      clear h1
      go_enter Tryd.func12, Tryd.ntmps12
      go_wp2_with (go_at_call 7; refine (HT.out _).mono ?_; rintro e w1 ⟨rfl, hb1⟩; obtain ⟨c0, c1, c2, c3⟩ := HX.out _ hb1; have HB1 := Lib.hid hb1; clear hb1)
      go_ret
      exact ⟨by rw [HR.out]; rfl, HB.out.trans (HB1.out.mono HB.out.size)⟩
    by_cases h3 : k = 3
    · subst h3
      rw [rel_3] at HR
      clear h1 h2
      go_enter Tryd.func12, Tryd.ntmps12
      go_wp2_with (go_at_call 7; refine (HT.out _).mono ?_; rintro e w1 ⟨rfl, hb1⟩; obtain ⟨c0, c1, c2, c3⟩ := HX.out _ hb1; have HB1 := Lib.hid hb1; clear hb1)
      go_ret
      exact ⟨by rw [HR.out]; rfl, HB.out.trans (HB1.out.mono HB.out.size)⟩
    rw [rel_no h1 h2 h3] at HR
    have g1 : (k == 1) = false := by rw [beq_eq_false_iff_ne]; exact h1
    have g2 : (k == 2) = false := by rw [beq_eq_false_iff_ne]; exact h2
    have g3 : (k == 3) = false := by rw [beq_eq_false_iff_ne]; exact h3
    clear h1 h2 h3
    go_enter Tryd.func12, Tryd.ntmps12
    go_wp2_with (go_at_call 7; refine (HT.out _).mono ?_; rintro e w1 ⟨rfl, hb1⟩; obtain ⟨c0, c1, c2, c3⟩ := HX.out _ hb1; have HB1 := Lib.hid hb1; clear hb1)
    go_ret
    exact ⟨by rw [HR.out]; rfl, HB.out.trans (HB1.out.mono HB.out.size)⟩
theorem name_of : ∀ k : Nat, 1 ≤ k → k ≤ 23 → (tabT.getD k (⟨#[]⟩, 0, 0)).1 ≠ ⟨#[]⟩ ∧ (tabT.getD k (⟨#[]⟩, 0, 0)).1.size ≤ 20 ∧ ∃ j : Nat, j < 4 ∧ (tabT.getD k (⟨#[]⟩, 0, 0)).2.1 = (j : Int)
  | 0, h, _ => absurd h (by omega)
  | 1, _, _ => ⟨by decide, by decide, 2, by omega, rfl⟩
  | 2, _, _ => ⟨by decide, by decide, 1, by omega, rfl⟩
  | 3, _, _ => ⟨by decide, by decide, 2, by omega, rfl⟩
  | 4, _, _ => ⟨by decide, by decide, 1, by omega, rfl⟩
  | 5, _, _ => ⟨by decide, by decide, 2, by omega, rfl⟩
  | 6, _, _ => ⟨by decide, by decide, 2, by omega, rfl⟩
  | 7, _, _ => ⟨by decide, by decide, 2, by omega, rfl⟩
  | 8, _, _ => ⟨by decide, by decide, 2, by omega, rfl⟩
  | 9, _, _ => ⟨by decide, by decide, 2, by omega, rfl⟩
  | 10, _, _ => ⟨by decide, by decide, 3, by omega, rfl⟩
  | 11, _, _ => ⟨by decide, by decide, 3, by omega, rfl⟩
  | 12, _, _ => ⟨by decide, by decide, 3, by omega, rfl⟩
  | 13, _, _ => ⟨by decide, by decide, 3, by omega, rfl⟩
  | 14, _, _ => ⟨by decide, by decide, 3, by omega, rfl⟩
  | 15, _, _ => ⟨by decide, by decide, 1, by omega, rfl⟩
  | 16, _, _ => ⟨by decide, by decide, 1, by omega, rfl⟩
  | 17, _, _ => ⟨by decide, by decide, 1, by omega, rfl⟩
  | 18, _, _ => ⟨by decide, by decide, 1, by omega, rfl⟩
  | 19, _, _ => ⟨by decide, by decide, 1, by omega, rfl⟩
  | 20, _, _ => ⟨by decide, by decide, 1, by omega, rfl⟩
  | 21, _, _ => ⟨by decide, by decide, 1, by omega, rfl⟩
  | 22, _, _ => ⟨by decide, by decide, 3, by omega, rfl⟩
  | 23, _, _ => ⟨by decide, by decide, 3, by omega, rfl⟩
  | k + 24, _, h => absurd h (by omega)
theorem name_at (n : Int) : (1 ≤ n ∧ n ≤ 23 ∧ (rowT n).1 ≠ ⟨#[]⟩ ∧ nameS n = (rowT n).1 ∧ (rowT n).1.size ≤ 20 ∧ ∃ j : Nat, j < 4 ∧ (rowT n).2.1 = (j : Int)) ∨ ((rowT n).1 = ⟨#[]⟩ ∧ nameS n = ⟨#[63]⟩ ∧ (rowT n).2.1 = 0) := by
  by_cases h : 1 ≤ n ∧ n ≤ 23
  · have k := name_of n.toNat (by omega) (by omega)
    rw [← row_yes h] at k
    exact .inl ⟨h.1, h.2, k.1, if_pos h, k.2⟩
  · exact .inr ⟨by rw [row_no (by omega)], if_neg h, by rw [row_no (by omega)]⟩
theorem sign_at (j : Nat) (h : j < 4) : (#[Value.string ⟨#[63]⟩, .string ⟨#[60, 61]⟩, .string ⟨#[62, 61]⟩, .string ⟨#[61]⟩] : Array Value)[j]? = some (.string (signS (j : Int))) ∧ (signS (j : Int)).size ≤ 2 := by
  match j, h with
  | 0, _ => exact ⟨rfl, by decide⟩
  | 1, _ => exact ⟨rfl, by decide⟩
  | 2, _ => exact ⟨rfl, by decide⟩
  | 3, _ => exact ⟨rfl, by decide⟩
theorem str_neB {a b : ByteArray} (h : a ≠ b) : (a.toList == b.toList) = false := by
  rw [beq_eq_false_iff_ne, ByteArray.toList_eq, ByteArray.toList_eq]
  intro h2; exact h (by apply ByteArray.ext; exact Array.toList_inj.1 h2)
theorem empty_no {a : ByteArray} (h : a ≠ ⟨#[]⟩) : a.toList.isEmpty = false := by
  cases h2 : a.toList.isEmpty with
  | false => rfl
  | true =>
    have h3 := List.isEmpty_iff.1 h2
    rw [ByteArray.toList_eq] at h3
    exact absurd (by apply ByteArray.ext; exact Array.toList_inj.1 h3) h
theorem size1B (a : UInt8) : (⟨#[a]⟩ : ByteArray).size = 1 := rfl
theorem size5B (a b c d e : UInt8) : (⟨#[a, b, c, d, e]⟩ : ByteArray).size = 5 := rfl
theorem cells3S {W : World} {g : Nat} {t : TypeId} {a b c : Value} (h : W.heap[g]? = some (.cells #[a, b, c] t (0, 0))) : W.cell? ⟨g, 0, none⟩ = some a ∧ W.cell? ⟨g, 1, none⟩ = some b ∧ W.cell? ⟨g, 2, none⟩ = some c :=
  ⟨cell_of_row W g 0 _ t (0, 0) h, cell_of_row W g 1 _ t (0, 0) h, cell_of_row W g 2 _ t (0, 0) h⟩
set_option maxRecDepth 100000 in
set_option maxHeartbeats 8000000 in
theorem rtext14 (s : StepT) (hx1 : -9223372036854775808 ≤ s.x) (hx2 : s.x ≤ 9223372036854775807) (hy1 : -9223372036854775808 ≤ s.y) (hy2 : s.y ≤ 9223372036854775807) (w : World) : Calls Tryd.prog 14 #[.agg #[.int .i64 s.r, .int .i64 s.x, .int .i64 s.y, .bool s.o]] w fun e w' => e = .returned (.string (textS s)) ∧ Below w.heap.size w w' := by
  obtain ⟨r, x, y, ov⟩ := s
  dsimp only at hx1 hx2 hy1 hy2 ⊢
  obtain ⟨W1, hW1⟩ : ∃ z, w.alloc (.cells #[.int .i64 r, .int .i64 x, .int .i64 y, .bool ov] 23) = z := ⟨_, rfl⟩
  have hb : Below w.heap.size w W1 := by rw [← hW1]; exact (Below.refl _ w).alloc (Nat.le_refl _) _
  have hx : W1.heap[w.heap.size]? = some (.cells #[.int .i64 r, .int .i64 x, .int .i64 y, .bool ov] 23 (0, 0)) := by rw [← hW1]; exact heap_alloc_new w _
  have HX := Lib.hid (fun W (h : Below W1.heap.size W1 W) => cells4S ((h.block _ (blk_ltR hx)).trans hx))
  have HB := Lib.hid hb
  obtain ⟨c0, c1, c2, c3⟩ := HX.out W1 (Below.refl _ _)
  have HT := Lib.hid (rtable7 r W1)
  unfold rowV at HT
  have HDX := Lib.hid (fun W => dec21 x hx1 hx2 W)
  have HDY := Lib.hid (fun W => dec21 y hy1 hy2 W)
  have lx := decZ_len hx1 hx2
  have ly := decZ_len hy1 hy2
  have HN := Lib.hid (name_at r)
  obtain ⟨NM, hnm⟩ : ∃ z, nameS r = z := ⟨_, rfl⟩
  have HO := Lib.hid (show ov = true → textS ⟨r, x, y, ov⟩ = NM ++ ⟨#[32, 111, 118, 101, 114]⟩ from fun h => by unfold textS; rw [← hnm, if_pos h])
  have HE := Lib.hid (show ov = false → textS ⟨r, x, y, ov⟩ = NM ++ ⟨#[32]⟩ ++ decZ x ++ ⟨#[32]⟩ ++ signS (rowT r).2.1 ++ ⟨#[32]⟩ ++ decZ y from fun h => by unfold textS; rw [← hnm, if_neg (by simp [h])])
  rw [hnm] at HN
  clear hb hx hnm hx1 hx2 hy1 hy2
  generalize textS ⟨r, x, y, ov⟩ = TX at *
  generalize (rowT r).1 = nm at *
  generalize (rowT r).2.2 = cd at *
  generalize (rowT r).2.1 = k at *
  generalize decZ x = DX at *
  generalize decZ y = DY at *
  obtain ⟨j, hj, rfl, hz, hcase⟩ : ∃ j : Nat, j < 4 ∧ k = (j : Int) ∧ NM.size ≤ 20 ∧ ((nm ≠ ⟨#[]⟩ ∧ NM = nm) ∨ (nm = ⟨#[]⟩ ∧ NM = ⟨#[63]⟩)) := by
    rcases HN.out with ⟨_, _, h1, h2, h3, j, h4, h5⟩ | ⟨h1, h2, h3⟩
    · exact ⟨j, h4, h5, by rw [h2]; exact h3, .inl ⟨h1, h2⟩⟩
    · exact ⟨0, by omega, h3, by rw [h2]; decide, .inr ⟨h1, h2⟩⟩
  clear HN
  obtain ⟨sg1, sg2⟩ := sign_at j hj
  have HSG := Lib.hid sg1
  clear sg1
  go_enter Tryd.func14, Tryd.ntmps14
  go_upto_region 2 with (go_at_call 7; refine HT.out.mono ?_; rintro e w1 ⟨rfl, hb1⟩; obtain ⟨c0, c1, c2, c3⟩ := HX.out _ hb1; have HB1 := Lib.hid hb1; clear hb1)
  obtain ⟨W2, hW2⟩ : ∃ z, w1.alloc (.cells #[.string nm, .int .i64 (j : Int), .int .i64 cd] 26) = z := ⟨_, rfl⟩
  have hb2 : Below w1.heap.size w1 W2 := by rw [← hW2]; exact (Below.refl _ _).alloc (Nat.le_refl _) _
  have hz2 : W2.heap[w1.heap.size]? = some (.cells #[.string nm, .int .i64 (j : Int), .int .i64 cd] 26 (0, 0)) := by rw [← hW2]; exact heap_alloc_new w1 _
  have HB2 := Lib.hid (HB1.out.trans (hb2.mono HB1.out.size))
  have HY := Lib.hid (fun W (h : Below W2.heap.size W2 W) => cells3S ((h.block _ (blk_ltR hz2)).trans hz2))
  rw [hW2]
  clear hW2 hb2 hz2 HB1 c0 c1 c2 c3 hW1 HT
  obtain ⟨c0, c1, c2, c3⟩ := HX.out _ HB2.out
  obtain ⟨d0, d1, d2⟩ := HY.out _ (Below.refl _ _)
  go_upto_if 12 with (fail)
  go_cut [4] from 11 to 12 (fun s4 wx => s4 = .string NM ∧ wx = W2)
  case first =>
    rcases hcase with ⟨h, rfl⟩ | ⟨h, rfl⟩
    · have g := empty_no h
      clear h
      go_wp2
      · rename_i h'
        rw [g] at h'
        cases h'
      · go_meet
        exact ⟨rfl, rfl⟩
    · have g : nm.toList.isEmpty = true := by rw [h]; simp
      clear h
      go_wp2
      · go_meet
        exact ⟨rfl, rfl⟩
      · rename_i h'
        rw [g] at h'
        cases h'
  case rest =>
    obtain ⟨rfl, rfl⟩ := hcut
    clear hcase d0 d1 d2
    cases ov with
    | true =>
      have hsum : ¬ 9223372036854775807 < NM.size + 5 := by omega
      have HOT := Lib.hid (HO.out rfl)
      go_wp2
      go_ret
      exact ⟨by rw [HOT.out]; rfl, HB.out.trans (HB2.out.mono HB.out.size)⟩
    | false =>
      have HET := Lib.hid (HE.out rfl)
      clear HO HE
      go_upto_region 8 with (fail)
      obtain ⟨W5, hW5⟩ : ∃ z, wc.alloc (.cells #[.string ⟨#[63]⟩, .string ⟨#[60, 61]⟩, .string ⟨#[62, 61]⟩, .string ⟨#[61]⟩] 9) = z := ⟨_, rfl⟩
      have hb5 : Below wc.heap.size wc W5 := by rw [← hW5]; exact (Below.refl _ _).alloc (Nat.le_refl _) _
      have hz5 : W5.heap[wc.heap.size]? = some (.cells #[.string ⟨#[63]⟩, .string ⟨#[60, 61]⟩, .string ⟨#[62, 61]⟩, .string ⟨#[61]⟩] 9 (0, 0)) := by rw [← hW5]; exact heap_alloc_new wc _
      have HSC := Lib.hid (fun W (h : Below W5.heap.size W5 W) => show W.cell? ⟨wc.heap.size, j, none⟩ = some (.string (signS (j : Int))) from by rw [cell_of_row _ _ _ _ _ _ ((h.block _ (blk_ltR hz5)).trans hz5)]; exact HSG.out)
      have HW5 := Lib.hid (fun W (h : Below W5.heap.size W5 W) => show Below W1.heap.size W1 W from HB2.out.trans ((hb5.trans (h.mono hb5.size)).mono HB2.out.size))
      have HY5 := Lib.hid (fun W (h : Below W5.heap.size W5 W) => HY.out W (hb5.trans (h.mono hb5.size)))
      rw [hW5]
      clear hW5 hb5 hz5 HY HSG c0 c1 c2 c3
      generalize signS (j : Int) = SG at *
      have e1 : ¬ 9223372036854775807 < NM.size + 1 := by omega
      have e2 : ¬ 9223372036854775807 < NM.size + 1 + DX.size := by omega
      have e3 : ¬ 9223372036854775807 < NM.size + 1 + DX.size + 1 := by omega
      have e4 : ¬ 9223372036854775807 < NM.size + 1 + DX.size + 1 + SG.size := by omega
      have e5 : ¬ 9223372036854775807 < NM.size + 1 + DX.size + 1 + SG.size + 1 := by omega
      have e6 : ¬ 9223372036854775807 < NM.size + 1 + DX.size + 1 + SG.size + 1 + DY.size := by omega
      refine wp_region_held_drew (S := fun W => Below W5.heap.size W5 W) (by kernel_rfl) ((Below.refl _ _).drew) (fun hS => ?_)
      refine wpAnyH_take (i := 0) (v := .string NM) rfl (by kernel_rfl) (by kernel_rfl) (by kernel_rfl) (fun _ _ _ h => h) (Or.inl ⟨by simp [Region.wanted], fun W _ => by go_simp⟩) hS ?_
      simp only [List.getElem_toArray, List.getElem_cons_zero, Act.put, List.setIfInBounds_toArray, List.set_cons_zero, List.set_cons_succ]
      refine wpAnyH_take (i := 1) (v := .string (NM ++ ⟨#[32]⟩)) rfl (by kernel_rfl) (by kernel_rfl) (by kernel_rfl) (fun _ _ _ h => h) (Or.inl ⟨by simp [Region.wanted], fun W _ => by go_simp⟩) hS ?_
      simp only [List.getElem_toArray, List.getElem_cons_zero, List.getElem_cons_succ, Act.put, List.setIfInBounds_toArray, List.set_cons_zero, List.set_cons_succ]
      refine wpAnyH_take (i := 2) (v := .pointer (some ⟨w.heap.size, 1, none⟩)) rfl (by kernel_rfl) (by kernel_rfl) (by kernel_rfl) (fun _ _ _ h => h) (Or.inl ⟨by simp [Region.wanted], fun W _ => by go_simp⟩) hS ?_
      simp only [List.getElem_toArray, List.getElem_cons_zero, List.getElem_cons_succ, Act.put, List.setIfInBounds_toArray, List.set_cons_zero, List.set_cons_succ]
      refine wpAnyH_take (i := 3) (v := .int .i64 x) rfl (by kernel_rfl) (by kernel_rfl) (by kernel_rfl) (fun _ _ _ h => h) (Or.inl ⟨by simp [Region.wanted], fun W hW => by have h1 := (HX.out W (HW5.out W hW)).2.1; go_simp⟩) hS ?_
      simp only [List.getElem_toArray, List.getElem_cons_zero, List.getElem_cons_succ, Act.put, List.setIfInBounds_toArray, List.set_cons_zero, List.set_cons_succ]
      refine wpAnyH_take (i := 7) (v := .slice (some ⟨wc.heap.size, 0, none⟩) 4 4) rfl (by kernel_rfl) (by kernel_rfl) (by kernel_rfl) (fun _ _ _ h => h) (Or.inl ⟨by simp [Region.wanted], fun W _ => by go_simp⟩) hS ?_
      simp only [List.getElem_toArray, List.getElem_cons_zero, List.getElem_cons_succ, Act.put, List.setIfInBounds_toArray, List.set_cons_zero, List.set_cons_succ]
      refine wpAnyH_take (i := 8) (v := .pointer (some ⟨w1.heap.size, 1, none⟩)) rfl (by kernel_rfl) (by kernel_rfl) (by kernel_rfl) (fun _ _ _ h => h) (Or.inl ⟨by simp [Region.wanted], fun W _ => by go_simp⟩) hS ?_
      simp only [List.getElem_toArray, List.getElem_cons_zero, List.getElem_cons_succ, Act.put, List.setIfInBounds_toArray, List.set_cons_zero, List.set_cons_succ]
      refine wpAnyH_take (i := 9) (v := .int .i64 (j : Int)) rfl (by kernel_rfl) (by kernel_rfl) (by kernel_rfl) (fun _ _ _ h => h) (Or.inl ⟨by simp [Region.wanted], fun W hW => by have h1 := (HY5.out W hW).2.1; go_simp⟩) hS ?_
      simp only [List.getElem_toArray, List.getElem_cons_zero, List.getElem_cons_succ, Act.put, List.setIfInBounds_toArray, List.set_cons_zero, List.set_cons_succ]
      refine wpAnyH_take (i := 10) (v := .pointer (some ⟨wc.heap.size, j, none⟩)) rfl (by kernel_rfl) (by kernel_rfl) (by kernel_rfl) (fun _ _ _ h => h) (Or.inl ⟨by simp [Region.wanted], fun W _ => by go_simp; (intro h; omega)⟩) hS ?_
      simp only [List.getElem_toArray, List.getElem_cons_zero, List.getElem_cons_succ, Act.put, List.setIfInBounds_toArray, List.set_cons_zero, List.set_cons_succ]
      refine wpAnyH_take (i := 11) (v := .string SG) rfl (by kernel_rfl) (by kernel_rfl) (by kernel_rfl) (fun _ _ _ h => h) (Or.inl ⟨by simp [Region.wanted], fun W hW => by have h1 := HSC.out W hW; go_simp⟩) hS ?_
      simp only [List.getElem_toArray, List.getElem_cons_zero, List.getElem_cons_succ, Act.put, List.setIfInBounds_toArray, List.set_cons_zero, List.set_cons_succ]
      refine wpAnyH_take (i := 14) (v := .pointer (some ⟨w.heap.size, 2, none⟩)) rfl (by kernel_rfl) (by kernel_rfl) (by kernel_rfl) (fun _ _ _ h => h) (Or.inl ⟨by simp [Region.wanted], fun W _ => by go_simp⟩) hS ?_
      simp only [List.getElem_toArray, List.getElem_cons_zero, List.getElem_cons_succ, Act.put, List.setIfInBounds_toArray, List.set_cons_zero, List.set_cons_succ]
      refine wpAnyH_take (i := 15) (v := .int .i64 y) rfl (by kernel_rfl) (by kernel_rfl) (by kernel_rfl) (fun _ _ _ h => h) (Or.inl ⟨by simp [Region.wanted], fun W hW => by have h1 := (HX.out W (HW5.out W hW)).2.2.1; go_simp⟩) hS ?_
      simp only [List.getElem_toArray, List.getElem_cons_zero, List.getElem_cons_succ, Act.put, List.setIfInBounds_toArray, List.set_cons_zero, List.set_cons_succ]
      refine wpAnyH_ready (rs := [4]) (by kernel_rfl) (by simp) ?_
      refine AllReadyH.cons rfl (fun K hK => ?_) AllReadyH.nil
      refine wanted_go rfl ?_
      simp only [List.getElem_toArray, List.getElem_cons_zero, List.getElem_cons_succ]
      go_wp2_with (go_at_call 22; refine (HDX.out _).mono ?_; rintro e w5 ⟨rfl, hw5⟩; subst hw5)
      refine hK.out _ _ (hS) (fun _ => ?_)
      refine wpAnyH_take (i := 5) (v := .string (NM ++ ⟨#[32]⟩ ++ DX)) rfl (by kernel_rfl) (by kernel_rfl) (by kernel_rfl) (fun _ _ _ h => h) (Or.inl ⟨by simp [Region.wanted], fun W _ => by go_simp⟩) hS ?_
      simp only [List.getElem_toArray, List.getElem_cons_zero, List.getElem_cons_succ, Act.put, List.setIfInBounds_toArray, List.set_cons_zero, List.set_cons_succ]
      refine wpAnyH_take (i := 6) (v := .string (NM ++ ⟨#[32]⟩ ++ DX ++ ⟨#[32]⟩)) rfl (by kernel_rfl) (by kernel_rfl) (by kernel_rfl) (fun _ _ _ h => h) (Or.inl ⟨by simp [Region.wanted], fun W _ => by go_simp⟩) hS ?_
      simp only [List.getElem_toArray, List.getElem_cons_zero, List.getElem_cons_succ, Act.put, List.setIfInBounds_toArray, List.set_cons_zero, List.set_cons_succ]
      refine wpAnyH_take (i := 12) (v := .string (NM ++ ⟨#[32]⟩ ++ DX ++ ⟨#[32]⟩ ++ SG)) rfl (by kernel_rfl) (by kernel_rfl) (by kernel_rfl) (fun _ _ _ h => h) (Or.inl ⟨by simp [Region.wanted], fun W _ => by go_simp⟩) hS ?_
      simp only [List.getElem_toArray, List.getElem_cons_zero, List.getElem_cons_succ, Act.put, List.setIfInBounds_toArray, List.set_cons_zero, List.set_cons_succ]
      refine wpAnyH_take (i := 13) (v := .string (NM ++ ⟨#[32]⟩ ++ DX ++ ⟨#[32]⟩ ++ SG ++ ⟨#[32]⟩)) rfl (by kernel_rfl) (by kernel_rfl) (by kernel_rfl) (fun _ _ _ h => h) (Or.inl ⟨by simp [Region.wanted], fun W _ => by go_simp⟩) hS ?_
      simp only [List.getElem_toArray, List.getElem_cons_zero, List.getElem_cons_succ, Act.put, List.setIfInBounds_toArray, List.set_cons_zero, List.set_cons_succ]
      refine wpAnyH_ready (rs := [16]) (by kernel_rfl) (by simp) ?_
      refine AllReadyH.cons rfl (fun K hK => ?_) AllReadyH.nil
      refine wanted_go rfl ?_
      simp only [List.getElem_toArray, List.getElem_cons_zero, List.getElem_cons_succ]
      go_wp2_with (go_at_call 22; refine (HDY.out _).mono ?_; rintro e w6 ⟨rfl, hw6⟩; subst hw6)
      refine hK.out _ _ (hS) (fun _ => ?_)
      refine wpAnyH_take (i := 17) (v := .string (NM ++ ⟨#[32]⟩ ++ DX ++ ⟨#[32]⟩ ++ SG ++ ⟨#[32]⟩ ++ DY)) rfl (by kernel_rfl) (by kernel_rfl) (by kernel_rfl) (fun _ _ _ h => h) (Or.inl ⟨by simp [Region.wanted], fun W _ => by go_simp⟩) hS ?_
      simp only [List.getElem_toArray, List.getElem_cons_zero, List.getElem_cons_succ, Act.put, List.setIfInBounds_toArray, List.set_cons_zero, List.set_cons_succ]
      refine wpAnyH_take (i := 18) (v := .string (NM ++ ⟨#[32]⟩ ++ DX ++ ⟨#[32]⟩ ++ SG ++ ⟨#[32]⟩ ++ DY)) rfl (by kernel_rfl) (by kernel_rfl) (by kernel_rfl) (fun _ _ _ h => h) (Or.inl ⟨by simp [Region.wanted], fun W _ => by go_simp⟩) hS ?_
      simp only [List.getElem_toArray, List.getElem_cons_zero, List.getElem_cons_succ, Act.put, List.setIfInBounds_toArray, List.set_cons_zero, List.set_cons_succ]
      refine wpAnyH_done (by kernel_rfl) ?_ _
      go_wp2
      go_ret
      exact ⟨by rw [HET.out]; rfl, HB.out.trans ((HW5.out _ hS).mono HB.out.size)⟩
end Go.Proofs.YtfodnadmabnacaaDoor
