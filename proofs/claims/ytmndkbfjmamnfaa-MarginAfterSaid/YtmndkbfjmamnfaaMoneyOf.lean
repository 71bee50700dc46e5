/- A number as a great one, and the other way; the other sign: the contracts of the document's Of, Neg. -/
import Derived.Test.YtmndkbfjmamnfaaMoneyMem
namespace Go.Proofs.Ytmndkbfjmamnfaa
open Go.RowKit Base

/-- Trimmed, as a great number. -/
theorem trimB (neg : Bool) (a : Option Addr) (l : List Nat) (n cap : Nat) (w : World) (hl : l.length = n) (h : DigsAt w a l) (hd : digsD l) (hcap : n ≤ cap) (hn : n ≤ 60000) :
    Calls Try.prog 58 #[.agg #[.bool neg, .slice a n cap]] w fun e w' => RetBig w.heap.size w (sgn neg (valD l)) e w' := by
  refine (trim26 neg a l n cap w hl h hcap hn).mono ?_
  rintro e w' ⟨k, hk, rfl, hv, ht, hb⟩
  have hlk : (l.take k).length = k := by simp; omega
  refine ⟨_, a, k, cap, rfl, ⟨neg && decide (k ≠ 0), a, l.take k, cap, by rw [hlk], (h.below hb).take k, by omega, digsD_take hd k, ht, fun hx e => ?_, ?_⟩, hb⟩
  · rw [e] at hlk
    simp at hx
    exact hx.2 hlk.symm
  · by_cases hk0 : k = 0
    · subst hk0
      rw [List.take_zero] at hv
      rw [← hv]
      cases neg <;> rfl
    · rw [hv, decide_eq_true hk0, Bool.and_true]

theorem neg14 (v : Value) (z : Int) (w : World) (h : BigIs w v z) (hz : z.natAbs < 10000 ^ 100) :
    Calls Try.prog 41 #[v] w fun e w' => RetBig w.heap.size w (-z) e w' := by
  obtain ⟨neg, a, l, cap, rfl, hd, hcap, hg, ht, hn, rfl⟩ := h
  have hlen : l.length ≤ 100 := len_le ht 100 (by cases neg <;> simpa [sgn] using hz)
  have HT := Lib.hid (fun (W : World) (hb : Below w.heap.size w W) => trimB (!neg) a l l.length cap W rfl (hd.below hb) hg hcap (by omega))
  have HS := Lib.hid (show sgn (!neg) (valD l) = - sgn neg (valD l) by cases neg <;> simp [sgn])
  rw [HS.out] at HT
  generalize l.length = n at *
  generalize sgn neg (valD l) = z at *
  clear hd hg ht hn HS
  obtain ⟨B, hB⟩ : ∃ B, B = w.heap.size := ⟨_, rfl⟩
  have HB := Lib.hid hB
  rw [← hB] at HT ⊢
  clear hB
  go_enter Try.func41, Try.ntmps41
  go_upto_region 1 with (fail)
  rw [← HB.out]
  refine at_world (Φ := fun W => BoxAt W B neg (.slice a n cap) ∧ BoxAt W (B + 1) false (.slice none 0 0) ∧ Below B w W) (by rw [HB.out]; exact BoxAt.new2 _ _ _ _) ?_
  rintro W hW
  have HW := Lib.hid hW
  have c0 := hW.1.c0
  have f0 := hW.1.f 0
  have HB1 := Lib.hid (hW.1.set0 (!neg))
  have HB2 := Lib.hid (hW.2.1.other (u := .bool (!neg)) (i := 0) (show B + 1 ≠ B by omega))
  have HBW := Lib.hid (hW.2.2.setCell (p := ⟨B, 0, none⟩) (Nat.le_refl _) (.bool (!neg)))
  clear hW
  go_upto_region 2 with (fail)
  go_wp2_with (first
    | (refine wpList_load_row rfl 71 (.tmp 1) rfl B rfl 71 #[.bool (!neg), .slice a n cap] (0, 0) _ HB1.out Try.underlying71 rfl info25 ?_)
    | (go_at_call 58; refine (HT.out _ HBW.out).mono ?_; rintro e w1 ⟨x, ax, k, kc, rfl, hbig, hb1⟩; have HBIG := Lib.hid hbig; have HB1' := Lib.hid hb1; have HB3 := Lib.hid (HB2.out.below hb1); clear hbig hb1)
    | (refine wpList_store_row rfl 71 (.tmp 2) (.tmp 8) rfl (B + 1) #[.bool x, .slice ax k kc] rfl rfl 71 #[.bool false, .slice none 0 0] HB3.out info25 rfl (one25 _ _ _ _) ?_))
  refine ret_cell rfl rfl rfl (setRow_heap _ _ _ _ 71 (0, 0) HB3.out) Try.underlying71 rfl info25 ⟨x, ax, k, kc, rfl, ?_, ?_⟩
  · exact HBIG.out.boxRow HB3.out _
  · exact below_rowB (bB HB.out HBW.out HB1'.out) (by omega)

theorem tmod_pos (M : Nat) : (M : Int).tmod 10000 = ((M % 10000 : Nat) : Int) := by rw [Int.tmod_eq_emod_of_nonneg (by omega)]; omega
theorem tmod_neg (M : Nat) : (-(M : Int)).tmod 10000 = -((M % 10000 : Nat) : Int) := by rw [Int.neg_tmod, tmod_pos]
theorem tdiv_pos (M : Nat) : (M : Int).tdiv 10000 = ((M / 10000 : Nat) : Int) := by rw [Int.tdiv_eq_ediv_of_nonneg (by omega)]; omega
theorem tdiv_neg (M : Nat) : (-(M : Int)).tdiv 10000 = -((M / 10000 : Nat) : Int) := by rw [Int.neg_tdiv, tdiv_pos]
/-- What Of's loop holds: the digits so far, and what is left. -/
def OfRel (B : Nat) (w : World) (x : Bool) (N : Nat) (vn : Value) (W : World) : Prop :=
  ∃ (M : Nat) (out : List Nat) (v : Value), vn = .int .i64 (sgn x M) ∧ BoxAt W B false (.slice none 0 0) ∧ BoxAt W (B + 1) x v ∧ W.ownsRow B 3 1 v out.length (cellsD out) ∧ Below B w W ∧ digsD out ∧ valD out + 10000 ^ out.length * M = N ∧ (M = 0 → topD out) ∧ M ≤ 9223372036854775808
theorem ofRel_step {out : List Nat} {M N : Nat} (hg : digsD out) (hv : valD out + 10000 ^ out.length * M = N) : digsD (out ++ [M % 10000]) ∧ valD (out ++ [M % 10000]) + 10000 ^ (out ++ [M % 10000]).length * (M / 10000) = N := by
  refine ⟨digsD_app hg (fun d hd => by simp at hd; omega), ?_⟩
  rw [valD_snoc, List.length_append, List.length_singleton, Nat.pow_succ, Nat.mul_assoc, Nat.add_assoc, ← Nat.mul_add, Nat.mod_add_div]
  exact hv
set_option maxRecDepth 100000 in
theorem of7 (n : Int) (w : World) (h1 : -9223372036854775808 ≤ n) (h2 : n ≤ 9223372036854775807) :
    Calls Try.prog 31 #[.int .i64 n] w fun e w' => RetBig w.heap.size w n e w' := by
  obtain ⟨B, hB⟩ : ∃ B, B = w.heap.size := ⟨_, rfl⟩
  have HB := Lib.hid hB
  rw [← hB]
  clear hB
  obtain ⟨x, hx⟩ : ∃ x, decide (n < 0) = x := ⟨_, rfl⟩
  obtain ⟨N, hN⟩ : ∃ N, n.natAbs = N := ⟨_, rfl⟩
  have hnx : n = sgn x N := by
    rw [← hx, ← hN]
    by_cases h : n < 0
    · rw [decide_eq_true h, sgn_true]; omega
    · rw [decide_eq_false h, sgn_false]; omega
  have HNX := Lib.hid hnx; have HX := Lib.hid hx
  have hN63 : N ≤ 9223372036854775808 := by omega
  obtain ⟨i0, hi, hz0, hz1, hz2⟩ := info_parts info3
  clear hx hN hnx
  go_enter Try.func31, Try.ntmps31
  go_upto_region 2 with (fail)
  rw [← HB.out]
  have hst := BoxAt.new2 (w := w) false (decide (n < 0)) (.slice none 0 0) (.slice none 0 0)
  refine at_world (Φ := fun W => OfRel B w x N (.int .i64 n) W) ?_ ?_
  · rw [HX.out] at *
    rw [← HB.out] at hst
    exact ⟨N, [], _, by rw [HNX.out], hst.1, hst.2.1, World.ownsRow_nil _ _ _ _, hst.2.2, digsD_nil, by simp [valD], fun _ => topD_nil, hN63⟩
  clear hst
  rintro W0 hW0
  have HW0 := Lib.hid hW0
  clear hW0
  go_loopw [0] (fun vn W => OfRel B w x N vn W) (fun vn _ => (intOf vn).natAbs)
  case atStart => exact HW0.out
  case round =>
    obtain ⟨M, out, v, rfl, hb1, hb2, ho, hbw, hg, hv, ht, hM⟩ := hrel
    have HB1 := Lib.hid hb1; have HB2 := Lib.hid hb2; have HO := Lib.hid ho; have HBW := Lib.hid hbw; have HG := Lib.hid hg; have HV := Lib.hid hv; have HT := Lib.hid ht
    have c1 := hb2.c1
    have f1 := hb2.f 1
    clear hb1 hb2 ho hbw hg hv ht
    by_cases hM0 : M = 0
    · subst hM0
      have hs0 : sgn x 0 = 0 := by cases x <;> rfl
      rw [hs0]
      obtain ⟨a, cap, hva, hcap, _, hda⟩ := digs_of_own HO.out
      subst hva
      have HDA := Lib.hid hda
      clear hda
      have hN0 : N = valD out := by have := HV.out; omega
      go_upto_region 8 with (fail)
      go_wp2_with (first
        | (refine wpList_load_row rfl 71 (.tmp 3) rfl (B + 1) rfl 71 #[.bool x, .slice a out.length cap] (0, 0) _ HB2.out Try.underlying71 rfl info25 ?_)
        | (refine wpList_store_row rfl 71 (.tmp 2) (.tmp 24) rfl B #[.bool x, .slice a out.length cap] rfl rfl 71 #[.bool false, .slice none 0 0] HB1.out info25 rfl (one25 _ _ _ _) ?_))
      refine ret_cell rfl rfl rfl (setRow_heap _ _ _ _ 71 (0, 0) HB1.out) Try.underlying71 rfl info25 ⟨x, a, out.length, cap, rfl, ⟨x, a, out, cap, rfl, HDA.out.boxRow HB1.out _, hcap, HG.out, HT.out (by simp), fun hx e => ?_, by rw [HNX.out, hN0]⟩, below_rowB HBW.out (Nat.le_refl _)⟩
      subst e
      have hn0 := HNX.out
      rw [hN0] at hn0
      have hxx := HX.out
      subst hx
      simp [sgn, valD] at hn0
      subst hn0
      simp at hxx
    · have hlen : out.length < 5 := by
        rcases Nat.lt_or_ge out.length 5 with h | h
        · exact h
        · have hp : 10000 ^ 5 ≤ 10000 ^ out.length := Nat.pow_le_pow_right (by omega) h
          have hq := Nat.le_mul_of_pos_right (10000 ^ out.length) (show 0 < M by omega)
          have hv := HV.out
          have : (10000 : Nat) ^ 5 = 100000000000000000000 := by decide
          omega
      obtain ⟨r, hr⟩ : ∃ r, M % 10000 = r := ⟨_, rfl⟩
      obtain ⟨q, hq⟩ : ∃ q, M / 10000 = q := ⟨_, rfl⟩
      have HS := Lib.hid (ofRel_step HG.out HV.out)
      rw [hr, hq] at HS
      have HTT := Lib.hid (show q = 0 → topD (out ++ [r]) from fun h => topD_snoc (by omega))
      have hr4 : r < 10000 := by omega
      have hqM : q < M := by omega
      have tp := tmod_pos M; have tn := tmod_neg M; have dp := tdiv_pos M; have dn := tdiv_neg M
      rw [hr] at tp tn
      rw [hq] at dp dn
      have HL := Lib.hid (show (out ++ [r]).length = out.length + 1 by simp)
      have HCD := Lib.hid (cellsD_app out [r])
      clear hr hq
      cases x
      · rw [sgn_false]
        have b0 : ((M : Int) != 0) = true := by simp; omega
        go_wp2_with (at_builtin; refine wpList_append_own _ rfl _ _ 69 rfl B 3 i0 (.int .i64 0) 1 8 Try.underlying69 hi hz0 hz1 hz2 rfl (by decide) _ _ _ rfl (HO.out.alloc _) ⟨wr.heap.size, 0, none⟩ 1 1 [.int .i64 (r : Int)] rfl rfl (new_one _ _ _) (one_cell_int _) (by unfold maxLen; omega) (by omega) (by have := HBW.out.size; have := HB.out; simp; omega) ?_; intro v' w3 hown' hgrow _; obtain ⟨gb, cpb, hv'⟩ := own_shape' hown' (by omega); subst hv'; have HO3 := Lib.hid hown'; have HG3 := Lib.hid hgrow; have HB13 := Lib.hid (show BoxAt w3 B false (.slice none 0 0) from (hgrow.block B (by have := lt_of_block HB1.out; simp; omega) (own_ne' HO.out HB1.out (by decide))).trans ((Below.heap_alloc _ _ _ (lt_of_block HB1.out)).trans HB1.out)); have HB23 := Lib.hid (show BoxAt w3 (B + 1) false v from (hgrow.block (B + 1) (by have := lt_of_block HB2.out; simp; omega) (own_ne' HO.out HB2.out (by decide))).trans ((Below.heap_alloc _ _ _ (lt_of_block HB2.out)).trans HB2.out)); have c3 := HB23.out.c1; have f3 := HB23.out.f 1; clear hown' hgrow)
        go_roundw
        case rel => exact ⟨q, out ++ [r], _, by go_num, HB13.out.other (by omega), HB23.out.set1 _, by rw [HL.out, HCD.out]; exact own_set' HO3.out HB23.out (by decide), (HBW.out.grown (World_grown_alloc HG3.out) (by have := HBW.out.size; have := HB.out; omega) (own_block_ge HO.out)).setCell (p := ⟨B + 1, 1, none⟩) (by simp) _, HS.out.1, HS.out.2, HTT.out, by omega⟩
        case measure => simp [intOf] <;> omega
      · rw [sgn_true]
        have b0 : ((-(M : Int)) != 0) = true := by simp; omega
        by_cases hr0 : r = 0
        · subst hr0
          go_wp2_with (at_builtin; refine wpList_append_own _ rfl _ _ 69 rfl B 3 i0 (.int .i64 0) 1 8 Try.underlying69 hi hz0 hz1 hz2 rfl (by decide) _ _ _ rfl (HO.out.alloc _) ⟨wr.heap.size, 0, none⟩ 1 1 [.int .i64 0] rfl rfl (new_one _ _ _) (one_cell_int _) (by unfold maxLen; omega) (by omega) (by have := HBW.out.size; have := HB.out; simp; omega) ?_; intro v' w3 hown' hgrow _; obtain ⟨gb, cpb, hv'⟩ := own_shape' hown' (by omega); subst hv'; have HO3 := Lib.hid hown'; have HG3 := Lib.hid hgrow; have HB13 := Lib.hid (show BoxAt w3 B false (.slice none 0 0) from (hgrow.block B (by have := lt_of_block HB1.out; simp; omega) (own_ne' HO.out HB1.out (by decide))).trans ((Below.heap_alloc _ _ _ (lt_of_block HB1.out)).trans HB1.out)); have HB23 := Lib.hid (show BoxAt w3 (B + 1) true v from (hgrow.block (B + 1) (by have := lt_of_block HB2.out; simp; omega) (own_ne' HO.out HB2.out (by decide))).trans ((Below.heap_alloc _ _ _ (lt_of_block HB2.out)).trans HB2.out)); have c3 := HB23.out.c1; have f3 := HB23.out.f 1; clear hown' hgrow)
          go_roundw
          case rel => exact ⟨q, out ++ [0], _, by first | rfl | (rw [sgn_true]; go_num), HB13.out.other (by omega), HB23.out.set1 _, by rw [HL.out, HCD.out]; exact own_set' HO3.out HB23.out (by decide), (HBW.out.grown (World_grown_alloc HG3.out) (by have := HBW.out.size; have := HB.out; omega) (own_block_ge HO.out)).setCell (p := ⟨B + 1, 1, none⟩) (by simp) _, HS.out.1, HS.out.2, HTT.out, by omega⟩
          case measure => simp [intOf] <;> omega
        · go_wp2_with (at_builtin; refine wpList_append_own _ rfl _ _ 69 rfl B 3 i0 (.int .i64 0) 1 8 Try.underlying69 hi hz0 hz1 hz2 rfl (by decide) _ _ _ rfl (HO.out.alloc _) ⟨wr.heap.size, 0, none⟩ 1 1 [.int .i64 (r : Int)] rfl rfl (new_one _ _ _) (one_cell_int _) (by unfold maxLen; omega) (by omega) (by have := HBW.out.size; have := HB.out; simp; omega) ?_; intro v' w3 hown' hgrow _; obtain ⟨gb, cpb, hv'⟩ := own_shape' hown' (by omega); subst hv'; have HO3 := Lib.hid hown'; have HG3 := Lib.hid hgrow; have HB13 := Lib.hid (show BoxAt w3 B false (.slice none 0 0) from (hgrow.block B (by have := lt_of_block HB1.out; simp; omega) (own_ne' HO.out HB1.out (by decide))).trans ((Below.heap_alloc _ _ _ (lt_of_block HB1.out)).trans HB1.out)); have HB23 := Lib.hid (show BoxAt w3 (B + 1) true v from (hgrow.block (B + 1) (by have := lt_of_block HB2.out; simp; omega) (own_ne' HO.out HB2.out (by decide))).trans ((Below.heap_alloc _ _ _ (lt_of_block HB2.out)).trans HB2.out)); have c3 := HB23.out.c1; have f3 := HB23.out.f 1; clear hown' hgrow)
          go_roundw
          case rel => exact ⟨q, out ++ [r], _, by first | rfl | (rw [sgn_true]; go_num), HB13.out.other (by omega), HB23.out.set1 _, by rw [HL.out, HCD.out]; exact own_set' HO3.out HB23.out (by decide), (HBW.out.grown (World_grown_alloc HG3.out) (by have := HBW.out.size; have := HB.out; omega) (own_block_ge HO.out)).setCell (p := ⟨B + 1, 1, none⟩) (by simp) _, HS.out.1, HS.out.2, HTT.out, by omega⟩
          case measure => simp [intOf] <;> omega
end Go.Proofs.Ytmndkbfjmamnfaa
