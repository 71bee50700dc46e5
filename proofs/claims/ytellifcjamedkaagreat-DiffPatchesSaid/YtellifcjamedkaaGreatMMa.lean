/- Whether changes may be: the program's contracts. Whether changes may be, one behind the other: the program's contract. -/
import Derived.Test.YtellifcjamedkaaGreatMDp
import Derived.Test.YtellifcjamedkaaGreatDpSmall
import Derived.Test.YtellifcjamedkaaGreatDpDiff
namespace Go.Proofs.YtellifcjamedkaaGreat
open Go.RowKit Base Base2
theorem size85 (l : Int) (w : World) : Calls Tryz.prog 94 #[.int .i64 l] w fun e w' => e = .returned (.int .i64 ((allT l : Nat) : Int)) ∧ w = w' := by
  by_cases h1 : l = 1
  · subst h1
    go_enter Tryz.func94, Tryz.ntmps94
    go_wp2
    go_ret
    exact ⟨rfl, rfl⟩
  · have t1 : (l == 1) = false := by simpa using h1
    by_cases h3 : l = 3
    · subst h3
      go_enter Tryz.func94, Tryz.ntmps94
      go_wp2
      go_ret
      exact ⟨rfl, rfl⟩
    · have t3 : (l == 3) = false := by simpa using h3
      have HE := Lib.hid (show allT l = 1 by unfold allT; rw [if_neg h1, if_neg h3])
      clear h1 h3
      go_enter Tryz.func94, Tryz.ntmps94
      go_wp2
      go_ret
      exact ⟨by rw [HE.out]; rfl, rfl⟩
theorem eql_key (x y z : Int) (W : World) : (binOp .eql 56 (.agg #[.int .i64 x, .int .i64 y, .int .i64 z]) (.agg #[.int .i64 5, .int .i64 0, .int .i64 0])).run Tryz.prog W = .ok (.bool (x == 5 && (y == 0 && z == 0))) W := by
  rw [run_eql_struct, eqIn_key]; rfl
set_option maxRecDepth 100000 in
set_option maxHeartbeats 4000000 in
theorem keyMay54 (l a b : Int) (A : Option Addr) (n c : Nat) (B : Option Addr) (m d : Nat) (w : World) :
    Calls Tryz.prog 43 #[.agg #[.int .i64 l, .int .i64 a, .int .i64 b, .slice A n c, .slice B m d]] w fun e w' => e = .returned (.bool (keyMayT l a b)) ∧ Below w.heap.size w w' := by
  obtain ⟨R, hR⟩ : ∃ R, keyMayT l a b = R := ⟨_, rfl⟩
  have HR := Lib.hid hR
  rw [hR]
  clear hR
  have HAT := Lib.hid (atCh l a b A n c B m d)
  have HK := Lib.hid (eql_key l a b)
  by_cases h2 : l = 2
  · have HX := Lib.hid (show R = true by rw [← HR.out]; unfold keyMayT; rw [if_pos h2])
    subst h2
    go_enter Tryz.func43, Tryz.ntmps43
    go_wp2
    go_ret
    exact ⟨ret_bool HX.out.symm, (Below.refl _ w).alloc (Nat.le_refl _) _⟩
  have t2 : (l == 2) = false := by simpa using h2
  by_cases h3 : l = 1 ∨ l = 3 ∨ l = 4
  · have HX := Lib.hid (show R = (b == 0) by rw [← HR.out]; unfold keyMayT; rw [if_neg h2, if_pos h3])
    clear h2
    rcases h3 with rfl | rfl | rfl
    all_goals
      go_enter Tryz.func43, Tryz.ntmps43
      go_wp2
      go_ret
      exact ⟨ret_bool HX.out.symm, (Below.refl _ w).alloc (Nat.le_refl _) _⟩
  · have HX := Lib.hid (show R = (l == 5 && (a == 0 && b == 0)) by rw [← HR.out]; unfold keyMayT; rw [if_neg h2, if_neg h3])
    have t1 : (l == 1) = false := by rw [beq_eq_false_iff_ne]; omega
    have t3 : (l == 3) = false := by rw [beq_eq_false_iff_ne]; omega
    have t4 : (l == 4) = false := by rw [beq_eq_false_iff_ne]; omega
    have HK := Lib.hid (show ∀ W, _ from fun W => (HK.out W).trans (by rw [← HX.out]))
    have hk := fun W => HK.out W
    clear h2 h3
    go_enter Tryz.func43, Tryz.ntmps43
    go_wp2_with (go_at_call 24; refine (HAT.out _).mono ?_; rintro e w1 ⟨rfl, hb⟩; have HB := Lib.hid (((Below.refl _ w).alloc (Nat.le_refl _) _).trans (hb.mono (by simp))); clear hb)
    go_ret
    exact ⟨rfl, HB.out⟩
theorem values_at {W : World} {A : Option Addr} {V : List Int} (h : I64s W A V) (hl : V.length = 5) : ∃ k off, A = some ⟨k, off, none⟩ ∧ ∀ W', Below W.heap.size W W' → W'.cell? ⟨k, off + 2, none⟩ = some (.int .i64 (key 2 V)) := by
  rcases h with h | ⟨k, off, h1, h2, h3⟩
  · subst h; cases hl
  · refine ⟨k, off, h1, fun W' hb => ?_⟩
    rw [World.cell?_of_block (a := ⟨k, off + 2, none⟩) (hb.block k h2)]
    refine h3 2 (key 2 V) ?_
    unfold key
    rw [List.getD_eq_getElem?_getD]
    simp [show 2 < V.length by omega]
theorem valuesT_nil {l : Int} (h : l ≠ 5) : valuesT l [] = true := by unfold valuesT; rw [if_pos rfl]; simpa using h
theorem valuesT_len {l : Int} {V : List Int} (h : V.length ≠ allT l) (h2 : ¬ (V.length = 0 ∧ l ≠ 5)) : valuesT l V = false := by
  unfold valuesT
  by_cases e : V = []
  · rw [if_pos e]; subst e; simp at h2; simp [h2]
  · rw [if_neg e]; simp [h]
theorem valuesT_is {l : Int} {V : List Int} (h : V.length = allT l) : valuesT l V = (l != 3 || key 2 V == 0 || key 2 V == 1) := by
  unfold valuesT
  rw [if_neg (fun e => by have := allT_pos l; rw [e] at h; simp at h; omega), h]; simp
set_option maxRecDepth 100000 in
set_option maxHeartbeats 8000000 in
theorem valuesMay55 (l a b : Int) (A B : Option Addr) (C D : Nat) (V U : List Int) (w : World) (hV : I64s w A V) (hU : I64s w B U) (hl : V.length ≤ 100000) (hl2 : U.length ≤ 100000) :
    Calls Tryz.prog 44 #[.agg #[.int .i64 l, .int .i64 a, .int .i64 b, .slice A V.length C, .slice B U.length D]] w fun e w' => e = .returned (.bool (valuesT l V && valuesT l U && (V != U))) ∧ Below w.heap.size w w' := by
  obtain ⟨R, hR⟩ : ∃ R, (valuesT l V && valuesT l U && (V != U)) = R := ⟨_, rfl⟩
  rw [hR]
  have HR := Lib.hid hR
  have HSZ := Lib.hid (size85 l)
  have HEQ := Lib.hid (fun W (h : Below w.heap.size w W) => equalI A B C D V U W (hV.below h) (hU.below h) hl)
  have HV := Lib.hid hV
  have HU := Lib.hid hU
  obtain ⟨n, hn⟩ : ∃ n, V.length = n := ⟨_, rfl⟩
  obtain ⟨k, hk⟩ : ∃ k, U.length = k := ⟨_, rfl⟩
  obtain ⟨s, hs⟩ : ∃ s, allT l = s := ⟨_, rfl⟩
  have HN := Lib.hid hn
  have HK := Lib.hid hk
  have HS := Lib.hid hs
  rw [hn] at HEQ hl ⊢
  rw [hk] at HEQ hl2 ⊢
  rw [hs] at HSZ
  have hs5 : s ≤ 5 := by rw [← hs]; unfold allT; split <;> (try split) <;> omega
  clear hR hV hU hn hk hs
  go_enter Tryz.func44, Tryz.ntmps44
  go_upto_region 2 with (fail)
  refine at_world (Φ := fun W => W.cell? ⟨w.heap.size + 1, 0, none⟩ = some (.slice A n C) ∧ W.cell? ⟨w.heap.size + 1, 1, none⟩ = some (.slice B k D) ∧ W.heap[w.heap.size]? = some (.cells #[.int .i64 l, .int .i64 a, .int .i64 b, .slice A n C, .slice B k D] 59 (0, 0)) ∧ Below w.heap.size w W) ⟨by rw [cell_of_row _ _ _ _ _ _ two_new.2]; rfl, by rw [cell_of_row _ _ _ _ _ _ two_new.2]; rfl, two_new.1, (((Below.refl _ w).alloc (Nat.le_refl _) _).alloc (by simp) _)⟩ ?_
  rintro W ⟨q0, q1, qb, hbw⟩
  have c0 : W.cell? ⟨w.heap.size, 0, none⟩ = some (.int .i64 l) := by rw [cell_of_row _ _ _ _ _ _ qb]; rfl
  have c3 : W.cell? ⟨w.heap.size, 3, none⟩ = some (.slice A n C) := by rw [cell_of_row _ _ _ _ _ _ qb]; rfl
  have c4 : W.cell? ⟨w.heap.size, 4, none⟩ = some (.slice B k D) := by rw [cell_of_row _ _ _ _ _ _ qb]; rfl
  have HB := Lib.hid hbw
  clear qb hbw
  go_loop [11] (fun vi => ∃ i : Nat, vi = .int .i64 (i : Int) ∧ i ≤ 2 ∧ (0 < i → valuesT l V = true) ∧ (1 < i → valuesT l U = true)) (fun vi => 2 - (intOf vi).toNat)
  case atStart => exact ⟨0, rfl, by omega, fun h => absurd h (by omega), fun h => absurd h (by omega)⟩
  case round =>
    obtain ⟨i, rfl, hi, hv1, hv2⟩ := hrel
    have HV1 := Lib.hid hv1
    have HV2 := Lib.hid hv2
    clear hv1 hv2
    obtain rfl | rfl | rfl : i = 0 ∨ i = 1 ∨ i = 2 := by omega
    · by_cases hz : n = 0 ∧ l ≠ 5
      · have HT := Lib.hid (show valuesT l V = true by obtain ⟨h1, h2⟩ := hz; have h3 : V = [] := List.length_eq_zero_iff.1 (HN.out.trans h1); rw [h3]; exact valuesT_nil h2)
        obtain ⟨h1, h2⟩ := hz
        have t5 : (l != 5) = true := by simpa using h2
        have t0 : ((n : Int) == 0) = true := by simp [h1]
        clear h1 h2
        go_wp2_with (go_at_call 94; refine (HSZ.out _).mono ?_; rintro e w1 ⟨rfl, rfl⟩)
        go_round
        case rel => exact ⟨1, by go_num, by omega, fun _ => HT.out, fun h => absurd h (by omega)⟩
        case measure => simp [intOf]
      · by_cases hs : n = s
        · have hp : 1 ≤ s := by rw [← HS.out]; exact allT_pos l
          have t0 : ((n : Int) == 0) = false := by simp; omega
          have ts : ((n : Int) != (s : Int)) = false := by simp; omega
          have HIS := Lib.hid (valuesT_is (l := l) (HN.out.trans (hs.trans HS.out.symm)))
          by_cases h3 : l = 3
          · have hl5 : V.length = 5 := by rw [HN.out, hs, ← HS.out, h3]; rfl
            obtain ⟨g, off, hA, hc⟩ := values_at HV.out hl5
            have kz := hc W HB.out
            have t3 : (l == 3) = true := by simpa using h3
            have gs : s = 5 := by rw [← HS.out, h3]; rfl
            have gn : 2 < n := by omega
            have HIS2 := Lib.hid (HIS.out.trans (by rw [h3]; rfl : _ = (key 2 V == 0 || key 2 V == 1)))
            obtain ⟨z, hzz⟩ : ∃ z, key 2 V = z := ⟨_, rfl⟩
            rw [hzz] at kz HIS2
            subst hA
            clear h3 hl5 hc hzz hs hz gs hp HIS
            by_cases z0 : z = 0
            · have HT := Lib.hid (show valuesT l V = true by rw [HIS2.out, z0]; rfl)
              have tz : (z != 0) = false := by simpa using z0
              clear z0
              go_wp2_with (go_at_call 94; refine (HSZ.out _).mono ?_; rintro e w1 ⟨rfl, rfl⟩)
              go_round
              case rel => exact ⟨1, by go_num, by omega, fun _ => HT.out, fun h => absurd h (by omega)⟩
              case measure => simp [intOf]
            · have tz : (z != 0) = true := by simpa using z0
              by_cases z1 : z = 1
              · have HT := Lib.hid (show valuesT l V = true by rw [HIS2.out, z1]; rfl)
                have ty : (z != 1) = false := by simpa using z1
                clear z0 z1
                go_wp2_with (go_at_call 94; refine (HSZ.out _).mono ?_; rintro e w1 ⟨rfl, rfl⟩)
                go_round
                case rel => exact ⟨1, by go_num, by omega, fun _ => HT.out, fun h => absurd h (by omega)⟩
                case measure => simp [intOf]
              · have HT := Lib.hid (show valuesT l V = false by rw [HIS2.out]; simp [z0, z1])
                have ty : (z != 1) = true := by simpa using z1
                clear z0 z1
                go_wp2_with (go_at_call 94; refine (HSZ.out _).mono ?_; rintro e w1 ⟨rfl, rfl⟩)
                go_ret
                exact ⟨ret_bool (by rw [← HR.out, HT.out]; rfl), HB.out⟩
          · have HT := Lib.hid (show valuesT l V = true by rw [HIS.out]; simp [h3])
            have t3 : (l == 3) = false := by simpa using h3
            clear h3 hs hz hp HIS
            go_wp2_with (go_at_call 94; refine (HSZ.out _).mono ?_; rintro e w1 ⟨rfl, rfl⟩)
            go_round
            case rel => exact ⟨1, by go_num, by omega, fun _ => HT.out, fun h => absurd h (by omega)⟩
            case measure => simp [intOf]
        · have HT := Lib.hid (valuesT_len (l := l) (V := V) (by rw [HN.out, HS.out]; exact hs) (by rw [HN.out]; exact hz))
          have ts : ((n : Int) != (s : Int)) = true := by simp; omega
          by_cases hn0 : n = 0
          · have t0 : ((n : Int) == 0) = true := by simp [hn0]
            have t5 : (l != 5) = false := by simp; exact Classical.byContradiction fun h => hz ⟨hn0, h⟩
            clear hn0 hs hz
            go_wp2_with (go_at_call 94; refine (HSZ.out _).mono ?_; rintro e w1 ⟨rfl, rfl⟩)
            go_ret
            exact ⟨ret_bool (by rw [← HR.out, HT.out]; rfl), HB.out⟩
          · have t0 : ((n : Int) == 0) = false := by simp; omega
            clear hn0 hs hz
            go_wp2_with (go_at_call 94; refine (HSZ.out _).mono ?_; rintro e w1 ⟨rfl, rfl⟩)
            go_ret
            exact ⟨ret_bool (by rw [← HR.out, HT.out]; rfl), HB.out⟩
    · by_cases hz : k = 0 ∧ l ≠ 5
      · have HT := Lib.hid (show valuesT l U = true by obtain ⟨h1, h2⟩ := hz; have h3 : U = [] := List.length_eq_zero_iff.1 (HK.out.trans h1); rw [h3]; exact valuesT_nil h2)
        obtain ⟨h1, h2⟩ := hz
        have t5 : (l != 5) = true := by simpa using h2
        have t0 : ((k : Int) == 0) = true := by simp [h1]
        clear h1 h2
        go_wp2_with (go_at_call 94; refine (HSZ.out _).mono ?_; rintro e w1 ⟨rfl, rfl⟩)
        go_round
        case rel => exact ⟨2, by go_num, by omega, fun _ => HV1.out (by omega), fun _ => HT.out⟩
        case measure => simp [intOf]
      · by_cases hs : k = s
        · have hp : 1 ≤ s := by rw [← HS.out]; exact allT_pos l
          have t0 : ((k : Int) == 0) = false := by simp; omega
          have ts : ((k : Int) != (s : Int)) = false := by simp; omega
          have HIS := Lib.hid (valuesT_is (l := l) (HK.out.trans (hs.trans HS.out.symm)))
          by_cases h3 : l = 3
          · have hl5 : U.length = 5 := by rw [HK.out, hs, ← HS.out, h3]; rfl
            obtain ⟨g, off, hA, hc⟩ := values_at HU.out hl5
            have kz := hc W HB.out
            have t3 : (l == 3) = true := by simpa using h3
            have gs : s = 5 := by rw [← HS.out, h3]; rfl
            have gn : 2 < k := by omega
            have HIS2 := Lib.hid (HIS.out.trans (by rw [h3]; rfl : _ = (key 2 U == 0 || key 2 U == 1)))
            obtain ⟨z, hzz⟩ : ∃ z, key 2 U = z := ⟨_, rfl⟩
            rw [hzz] at kz HIS2
            subst hA
            clear h3 hl5 hc hzz hs hz gs hp HIS
            by_cases z0 : z = 0
            · have HT := Lib.hid (show valuesT l U = true by rw [HIS2.out, z0]; rfl)
              have tz : (z != 0) = false := by simpa using z0
              clear z0
              go_wp2_with (go_at_call 94; refine (HSZ.out _).mono ?_; rintro e w1 ⟨rfl, rfl⟩)
              go_round
              case rel => exact ⟨2, by go_num, by omega, fun _ => HV1.out (by omega), fun _ => HT.out⟩
              case measure => simp [intOf]
            · have tz : (z != 0) = true := by simpa using z0
              by_cases z1 : z = 1
              · have HT := Lib.hid (show valuesT l U = true by rw [HIS2.out, z1]; rfl)
                have ty : (z != 1) = false := by simpa using z1
                clear z0 z1
                go_wp2_with (go_at_call 94; refine (HSZ.out _).mono ?_; rintro e w1 ⟨rfl, rfl⟩)
                go_round
                case rel => exact ⟨2, by go_num, by omega, fun _ => HV1.out (by omega), fun _ => HT.out⟩
                case measure => simp [intOf]
              · have HT := Lib.hid (show valuesT l U = false by rw [HIS2.out]; simp [z0, z1])
                have ty : (z != 1) = true := by simpa using z1
                clear z0 z1
                go_wp2_with (go_at_call 94; refine (HSZ.out _).mono ?_; rintro e w1 ⟨rfl, rfl⟩)
                go_ret
                exact ⟨ret_bool (by rw [← HR.out, HT.out, Bool.and_false]; rfl), HB.out⟩
          · have HT := Lib.hid (show valuesT l U = true by rw [HIS.out]; simp [h3])
            have t3 : (l == 3) = false := by simpa using h3
            clear h3 hs hz hp HIS
            go_wp2_with (go_at_call 94; refine (HSZ.out _).mono ?_; rintro e w1 ⟨rfl, rfl⟩)
            go_round
            case rel => exact ⟨2, by go_num, by omega, fun _ => HV1.out (by omega), fun _ => HT.out⟩
            case measure => simp [intOf]
        · have HT := Lib.hid (valuesT_len (l := l) (V := U) (by rw [HK.out, HS.out]; exact hs) (by rw [HK.out]; exact hz))
          have ts : ((k : Int) != (s : Int)) = true := by simp; omega
          by_cases hn0 : k = 0
          · have t0 : ((k : Int) == 0) = true := by simp [hn0]
            have t5 : (l != 5) = false := by simp; exact Classical.byContradiction fun h => hz ⟨hn0, h⟩
            clear hn0 hs hz
            go_wp2_with (go_at_call 94; refine (HSZ.out _).mono ?_; rintro e w1 ⟨rfl, rfl⟩)
            go_ret
            exact ⟨ret_bool (by rw [← HR.out, HT.out, Bool.and_false]; rfl), HB.out⟩
          · have t0 : ((k : Int) == 0) = false := by simp; omega
            clear hn0 hs hz
            go_wp2_with (go_at_call 94; refine (HSZ.out _).mono ?_; rintro e w1 ⟨rfl, rfl⟩)
            go_ret
            exact ⟨ret_bool (by rw [← HR.out, HT.out, Bool.and_false]; rfl), HB.out⟩
    · go_wp2_with (go_at_call 23; refine (HEQ.out _ HB.out).mono ?_; rintro e w1 ⟨rfl, m, hw1⟩; subst hw1)
      go_ret
      exact ⟨ret_bool (by rw [← HR.out, HV1.out (by omega), HV2.out (by omega)]; rfl), HB.out.trans ((below_drews m).mono HB.out.size)⟩
end Go.Proofs.YtellifcjamedkaaGreat
namespace Go.Proofs.YtellifcjamedkaaGreat
open Go.RowKit Base Base2
open List renaming getElem_toArray → lgT, getElem_cons_zero → lgZ, getElem_cons_succ → lgS, setIfInBounds_toArray → lsT, set_cons_zero → lsZ, set_cons_succ → lsS
theorem rise_at {L : List ChV} {i : Nat} {x : ChV} (h : L[i]? = some x) : (L.map ChV.c)[i]? = some x.c := by rw [List.getElem?_map, h]; rfl
theorem load_chR {W : World} {a : Option Addr} {L : List ChV} (h : RowsK 59 5 W a (L.map ChV.cells)) {i : Nat} {x : ChV} (hi : L[i]? = some x) : ∃ g o, a = some ⟨g, o, none⟩ ∧ ∀ W', Below W.heap.size W W' → (Instr.loadAt 59 (.pointer (some ⟨g, o + i * 5, none⟩))).run Tryz.prog W' = .ok (.agg x.cells.toArray) W' := by
  obtain ⟨g, o, ha, hc⟩ := h.at (i := i) (xs := x.cells) (by rw [List.getElem?_map, hi]; rfl)
  exact ⟨g, o, ha, fun W' hb => load_chD (hc W' hb 0 _ rfl) (hc W' hb 1 _ rfl) (hc W' hb 2 _ rfl) (hc W' hb 3 _ rfl) (hc W' hb 4 _ rfl)⟩
theorem load_chB {W : World} {g : Nat} {u0 u1 u2 u3 u4 : Value} (h : W.heap[g]? = some (.cells #[u0, u1, u2, u3, u4] 59 (0, 0))) : (Instr.loadAt 59 (.pointer (some ⟨g, 0, none⟩))).run Tryz.prog W = .ok (.agg #[u0, u1, u2, u3, u4]) W :=
  load_chD (by rw [cell_of_row _ _ _ _ _ _ h]; rfl) (by rw [cell_of_row _ _ _ _ _ _ h]; rfl) (by rw [cell_of_row _ _ _ _ _ _ h]; rfl) (by rw [cell_of_row _ _ _ _ _ _ h]; rfl) (by rw [cell_of_row _ _ _ _ _ _ h]; rfl)
set_option maxRecDepth 100000 in
set_option maxHeartbeats 16000000 in
theorem may27 (a : Option Addr) (c : Nat) (L : List ChV) (w : World) (hr : RowsK 59 5 w a (L.map ChV.cells)) (hv : ∀ x ∈ L, I64s w x.a1 x.c.was ∧ I64s w x.a2 x.c.now) (hl : ∀ x ∈ L, x.c.was.length ≤ 100000 ∧ x.c.now.length ≤ 100000) (hm : L.length ≤ 100000) :
    Calls Tryz.prog 19 #[.slice a L.length c] w fun e w' => e = .returned (.bool (mayCh (L.map ChV.c))) ∧ Below w.heap.size w w' := by
  obtain ⟨R, hR⟩ : ∃ R, mayCh (L.map ChV.c) = R := ⟨_, rfl⟩
  rw [hR]
  have HR := Lib.hid hR
  have HLD := Lib.hid (fun (i : Nat) (x : ChV) (hi : L[i]? = some x) => load_chR hr hi)
  have HV := Lib.hid hv
  have HL := Lib.hid hl
  have HAT := Lib.hid atCh
  have HCM := Lib.hid compareD
  have HKM := Lib.hid keyMay54
  have HVM := Lib.hid valuesMay55
  obtain ⟨n, hn⟩ : ∃ n, L.length = n := ⟨_, rfl⟩
  have HN := Lib.hid hn
  have HNX := Lib.hid (show ∀ i, i < n → ∃ x, L[i]? = some x from fun i h => ⟨L[i]'(by omega), by simp [show i < L.length by omega]⟩)
  rw [hn] at hm ⊢
  clear hR hr hv hl hn
  go_enter Tryz.func19, Tryz.ntmps19
  go_wp2
  go_loopw [7] (fun vi W => ∃ i : Nat, vi = .int .i64 (i : Int) ∧ i ≤ n ∧ mayCh ((L.map ChV.c).take i) = true ∧ Below w.heap.size w W) (fun vi _ => n - (intOf vi).toNat)
  case atStart => exact ⟨0, rfl, Nat.zero_le _, by rw [List.take_zero]; rfl, Below.refl _ _⟩
  case round =>
    obtain ⟨i, rfl, hi, hmy, hbw⟩ := hrel
    have HMY := Lib.hid hmy
    have HBW := Lib.hid hbw
    clear hmy hbw
    by_cases hlt : i < n
    case neg =>
      have HF := Lib.hid (show R = true by
        have h := HMY.out
        rw [List.take_of_length_le (by rw [List.length_map, HN.out]; omega)] at h
        exact HR.out.symm.trans h)
      go_wp2
      go_ret
      exact ⟨ret_bool HF.out.symm, HBW.out⟩
    obtain ⟨x, hx⟩ := HNX.out i hlt
    obtain ⟨g, o, ha, hld⟩ := HLD.out i x hx
    subst ha
    have HLX := Lib.hid hld
    have HVX := Lib.hid (HV.out x (List.mem_of_getElem? hx))
    have HLN := Lib.hid (HL.out x (List.mem_of_getElem? hx))
    have HPX := Lib.hid (rise_at hx)
    clear hld
    have HPR := Lib.hid (show ∀ j, i = j + 1 → ∃ y, L[j]? = some y from fun j h => HNX.out j (by omega))
    have HXX := Lib.hid hx
    clear hx
    obtain ⟨⟨xl, xa, xb, xv, yv⟩, A1, C1, A2, C2⟩ := x
    dsimp only [ChV.cells, List.toArray] at HLX
    dsimp only at HVX HLN HPX
    go_upto_region 4 with (((with_reducible refine atLoad (ty := 59) (x := .tmp 10) rfl ?_); refine loadE (by rfl) 59 (.tmp 10) rfl _ (.agg #[.int .i64 xl, .int .i64 xa, .int .i64 xb, .slice A1 xv.length C1, .slice A2 yv.length C2]) rfl (HLX.out _ HBW.out) ?_))
    refine at_world (Φ := fun W => W.heap[wr.heap.size]? = some (.cells #[.int .i64 xl, .int .i64 xa, .int .i64 xb, .slice A1 xv.length C1, .slice A2 yv.length C2] 59 (0, 0)) ∧ Below wr.heap.size wr W) ⟨heap_alloc_new wr _, (Below.refl _ _).alloc (Nat.le_refl _) _⟩ ?_
    rintro W3 ⟨hbox, hb3⟩
    have HBX := Lib.hid (fun W (h : Below W3.heap.size W3 W) => load_chB ((h.block _ (lt_of_blk hbox)).trans hbox))
    have HB3 := Lib.hid (show Below w.heap.size w W3 from HBW.out.trans (hb3.mono HBW.out.size))
    clear hbox hb3
    generalize wr.heap.size = gb at *
    generalize hz1 : xv.length = z1 at *
    generalize hz2 : yv.length = z2 at *
    have HZ1 := Lib.hid hz1
    have HZ2 := Lib.hid hz2
    clear hz1 hz2
    have HVM := Lib.hid (fun W (h : Below w.heap.size w W) => HVM.out xl xa xb A1 A2 C1 C2 xv yv W (HVX.out.1.below h) (HVX.out.2.below h) (by rw [HZ1.out]; exact HLN.out.1) (by rw [HZ2.out]; exact HLN.out.2))
    rw [HZ1.out, HZ2.out] at HVM
    obtain ⟨rk, hrk⟩ : ∃ r, keyMayT xl xa xb = r := ⟨_, rfl⟩
    obtain ⟨rv, hrv⟩ : ∃ r, (valuesT xl xv && valuesT xl yv && (xv != yv)) = r := ⟨_, rfl⟩
    have HKM := Lib.hid (HKM.out xl xa xb A1 z1 C1 A2 z2 C2)
    rw [hrk] at HKM
    rw [hrv] at HVM
    have HAT := Lib.hid (fun l a b A n c B m d W => HAT.out l a b A n c B m d W)
    have HON := Lib.hid (show mayOne ⟨xl, xa, xb, xv, yv⟩ = (rk && rv) by rw [mayOne_parts, hrk, hrv])
    clear hrk hrv
    by_cases h0 : i = 0
    · subst h0
      have HST := Lib.hid ((may_first HPX.out).trans HON.out)
      cases rk with
      | false =>
        have HF := Lib.hid (show R = false by rw [← HR.out]; exact may_no (i := 0 + 1) (HST.out.trans rfl))
        refine wp_region_held_drew (S := fun W => Below W3.heap.size W3 W) (by kernel_rfl) ((Below.refl _ _).drew) (fun hS => ?_)
        refine wpAnyH_take (i := 0) (v := .int .i64 0) rfl (by kernel_rfl) (by kernel_rfl) (by kernel_rfl) (fun _ _ _ h => h) (Or.inl ⟨by simp [Region.wanted], fun W _ => by go_simp⟩) hS ?_
        simp only [lgT, lgZ, Act.put, lsT, lsZ, lsS]
        refine wpAnyH_take (i := 1) (v := .bool false) rfl (by kernel_rfl) (by kernel_rfl) (by kernel_rfl) (fun _ _ _ h => h) (Or.inl ⟨by simp [Region.wanted], fun W _ => by go_simp; try omega⟩) hS ?_
        simp only [lgT, lgZ, lgS, Act.put, lsT, lsZ, lsS]
        refine wpAnyH_take (i := 2) (v := .bool false) rfl (by kernel_rfl) (by kernel_rfl) (by kernel_rfl) (fun _ _ _ h => h) (Or.inl ⟨by simp [Region.wanted], fun W _ => by go_simp⟩) hS ?_
        simp only [lgT, lgZ, lgS, Act.put, lsT, lsZ, lsS]
        refine wpAnyH_take (i := 3) (v := undef) rfl (by kernel_rfl) (by kernel_rfl) (by kernel_rfl) (fun _ _ _ h => h) (Or.inr ⟨by rfl, rfl⟩) hS ?_
        simp only [lgT, lgZ, lgS, Act.put, lsT, lsZ, lsS]
        refine wpAnyH_take (i := 4) (v := undef) rfl (by kernel_rfl) (by kernel_rfl) (by kernel_rfl) (fun _ _ _ h => h) (Or.inr ⟨by rfl, rfl⟩) hS ?_
        simp only [lgT, lgZ, lgS, Act.put, lsT, lsZ, lsS]
        refine wpAnyH_take (i := 5) (v := undef) rfl (by kernel_rfl) (by kernel_rfl) (by kernel_rfl) (fun _ _ _ h => h) (Or.inr ⟨by rfl, rfl⟩) hS ?_
        simp only [lgT, lgZ, lgS, Act.put, lsT, lsZ, lsS]
        refine wpAnyH_take (i := 6) (v := undef) rfl (by kernel_rfl) (by kernel_rfl) (by kernel_rfl) (fun _ _ _ h => h) (Or.inr ⟨by rfl, rfl⟩) hS ?_
        simp only [lgT, lgZ, lgS, Act.put, lsT, lsZ, lsS]
        refine wpAnyH_take (i := 7) (v := undef) rfl (by kernel_rfl) (by kernel_rfl) (by kernel_rfl) (fun _ _ _ h => h) (Or.inr ⟨by rfl, rfl⟩) hS ?_
        simp only [lgT, lgZ, lgS, Act.put, lsT, lsZ, lsS]
        refine wpAnyH_take (i := 8) (v := undef) rfl (by kernel_rfl) (by kernel_rfl) (by kernel_rfl) (fun _ _ _ h => h) (Or.inr ⟨by rfl, rfl⟩) hS ?_
        simp only [lgT, lgZ, lgS, Act.put, lsT, lsZ, lsS]
        refine wpAnyH_take (i := 9) (v := undef) rfl (by kernel_rfl) (by kernel_rfl) (by kernel_rfl) (fun _ _ _ h => h) (Or.inr ⟨by rfl, rfl⟩) hS ?_
        simp only [lgT, lgZ, lgS, Act.put, lsT, lsZ, lsS]
        refine wpAnyH_take (i := 10) (v := undef) rfl (by kernel_rfl) (by kernel_rfl) (by kernel_rfl) (fun _ _ _ h => h) (Or.inr ⟨by rfl, rfl⟩) hS ?_
        simp only [lgT, lgZ, lgS, Act.put, lsT, lsZ, lsS]
        refine wpAnyH_take (i := 11) (v := undef) rfl (by kernel_rfl) (by kernel_rfl) (by kernel_rfl) (fun _ _ _ h => h) (Or.inr ⟨by rfl, rfl⟩) hS ?_
        simp only [lgT, lgZ, lgS, Act.put, lsT, lsZ, lsS]
        refine wpAnyH_take (i := 12) (v := undef) rfl (by kernel_rfl) (by kernel_rfl) (by kernel_rfl) (fun _ _ _ h => h) (Or.inr ⟨by rfl, rfl⟩) hS ?_
        simp only [lgT, lgZ, lgS, Act.put, lsT, lsZ, lsS]
        refine wpAnyH_take (i := 13) (v := .bool false) rfl (by kernel_rfl) (by kernel_rfl) (by kernel_rfl) (fun _ _ _ h => h) (Or.inl ⟨by simp [Region.wanted], fun W _ => by go_simp⟩) hS ?_
        simp only [lgT, lgZ, lgS, Act.put, lsT, lsZ, lsS]
        refine wpAnyH_take (i := 14) (v := .bool false) rfl (by kernel_rfl) (by kernel_rfl) (by kernel_rfl) (fun _ _ _ h => h) (Or.inl ⟨by simp [Region.wanted], fun W _ => by go_simp⟩) hS ?_
        simp only [lgT, lgZ, lgS, Act.put, lsT, lsZ, lsS]
        refine wpAnyH_take (i := 15) (v := .agg #[.int .i64 xl, .int .i64 xa, .int .i64 xb, .slice A1 z1 C1, .slice A2 z2 C2]) rfl (by kernel_rfl) (by kernel_rfl) (by kernel_rfl) (fun _ _ _ h => h) (yields_atD (by rfl) 59 (.tmp 4) rfl (.pointer (some ⟨gb, 0, none⟩)) _ rfl (fun W hW => HBX.out _ hW)) hS ?_
        simp only [lgT, lgZ, lgS, Act.put, lsT, lsZ, lsS]
        refine wpAnyH_ready (rs := [16]) (by kernel_rfl) (by simp) ?_
        refine AllReadyH.cons rfl (fun K1 hK1 => ?_) AllReadyH.nil
        rw [if_pos (by rfl)]
        simp only [lgT, lgZ, lgS]
        go_wp2_with (go_at_call 43; refine (HKM.out _).mono ?_; rintro e w7 ⟨rfl, hb7⟩; have HC7 := Lib.hid hb7; clear hb7)
        refine hK1.out _ _ ((hS).trans (HC7.out.mono (hS).size)) (fun hS1 => ?_)
        refine wpAnyH_take (i := 17) (v := .bool true) rfl (by kernel_rfl) (by kernel_rfl) (by kernel_rfl) (fun _ _ _ h => h) (Or.inl ⟨by rfl, fun W _ => by go_simp⟩) hS1 ?_
        simp only [lgT, lgZ, lgS, Act.put, lsT, lsZ, lsS]
        refine wpAnyH_take (i := 18) (v := .bool true) rfl (by kernel_rfl) (by kernel_rfl) (by kernel_rfl) (fun _ _ _ h => h) (Or.inl ⟨by simp [Region.wanted], fun W _ => by go_simp⟩) hS1 ?_
        simp only [lgT, lgZ, lgS, Act.put, lsT, lsZ, lsS]
        refine wpAnyH_take (i := 19) (v := .bool true) rfl (by kernel_rfl) (by kernel_rfl) (by kernel_rfl) (fun _ _ _ h => h) (Or.inl ⟨by simp [Region.wanted], fun W _ => by go_simp⟩) hS1 ?_
        simp only [lgT, lgZ, lgS, Act.put, lsT, lsZ, lsS]
        refine wpAnyH_take (i := 20) (v := undef) rfl (by kernel_rfl) (by kernel_rfl) (by kernel_rfl) (fun _ _ _ h => h) (Or.inr ⟨by rfl, rfl⟩) hS1 ?_
        simp only [lgT, lgZ, lgS, Act.put, lsT, lsZ, lsS]
        refine wpAnyH_take (i := 21) (v := undef) rfl (by kernel_rfl) (by kernel_rfl) (by kernel_rfl) (fun _ _ _ h => h) (Or.inr ⟨by rfl, rfl⟩) hS1 ?_
        simp only [lgT, lgZ, lgS, Act.put, lsT, lsZ, lsS]
        refine wpAnyH_take (i := 22) (v := undef) rfl (by kernel_rfl) (by kernel_rfl) (by kernel_rfl) (fun _ _ _ h => h) (Or.inr ⟨by rfl, rfl⟩) hS1 ?_
        simp only [lgT, lgZ, lgS, Act.put, lsT, lsZ, lsS]
        refine wpAnyH_take (i := 23) (v := .bool true) rfl (by kernel_rfl) (by kernel_rfl) (by kernel_rfl) (fun _ _ _ h => h) (Or.inl ⟨by simp [Region.wanted], fun W _ => by go_simp⟩) hS1 ?_
        simp only [lgT, lgZ, lgS, Act.put, lsT, lsZ, lsS]
        refine wpAnyH_done (by kernel_rfl) ?_ _
        go_wp2
        go_ret
        exact ⟨ret_bool HF.out.symm, HB3.out.trans (hS1.mono HB3.out.size)⟩
      | true =>
        cases rv with
        | false =>
          have HF := Lib.hid (show R = false by rw [← HR.out]; exact may_no (i := 0 + 1) (HST.out.trans rfl))
          refine wp_region_held_drew (S := fun W => Below W3.heap.size W3 W) (by kernel_rfl) ((Below.refl _ _).drew) (fun hS => ?_)
          refine wpAnyH_take (i := 0) (v := .int .i64 0) rfl (by kernel_rfl) (by kernel_rfl) (by kernel_rfl) (fun _ _ _ h => h) (Or.inl ⟨by simp [Region.wanted], fun W _ => by go_simp⟩) hS ?_
          simp only [lgT, lgZ, Act.put, lsT, lsZ, lsS]
          refine wpAnyH_take (i := 1) (v := .bool false) rfl (by kernel_rfl) (by kernel_rfl) (by kernel_rfl) (fun _ _ _ h => h) (Or.inl ⟨by simp [Region.wanted], fun W _ => by go_simp; try omega⟩) hS ?_
          simp only [lgT, lgZ, lgS, Act.put, lsT, lsZ, lsS]
          refine wpAnyH_take (i := 2) (v := .bool false) rfl (by kernel_rfl) (by kernel_rfl) (by kernel_rfl) (fun _ _ _ h => h) (Or.inl ⟨by simp [Region.wanted], fun W _ => by go_simp⟩) hS ?_
          simp only [lgT, lgZ, lgS, Act.put, lsT, lsZ, lsS]
          refine wpAnyH_take (i := 3) (v := undef) rfl (by kernel_rfl) (by kernel_rfl) (by kernel_rfl) (fun _ _ _ h => h) (Or.inr ⟨by rfl, rfl⟩) hS ?_
          simp only [lgT, lgZ, lgS, Act.put, lsT, lsZ, lsS]
          refine wpAnyH_take (i := 4) (v := undef) rfl (by kernel_rfl) (by kernel_rfl) (by kernel_rfl) (fun _ _ _ h => h) (Or.inr ⟨by rfl, rfl⟩) hS ?_
          simp only [lgT, lgZ, lgS, Act.put, lsT, lsZ, lsS]
          refine wpAnyH_take (i := 5) (v := undef) rfl (by kernel_rfl) (by kernel_rfl) (by kernel_rfl) (fun _ _ _ h => h) (Or.inr ⟨by rfl, rfl⟩) hS ?_
          simp only [lgT, lgZ, lgS, Act.put, lsT, lsZ, lsS]
          refine wpAnyH_take (i := 6) (v := undef) rfl (by kernel_rfl) (by kernel_rfl) (by kernel_rfl) (fun _ _ _ h => h) (Or.inr ⟨by rfl, rfl⟩) hS ?_
          simp only [lgT, lgZ, lgS, Act.put, lsT, lsZ, lsS]
          refine wpAnyH_take (i := 7) (v := undef) rfl (by kernel_rfl) (by kernel_rfl) (by kernel_rfl) (fun _ _ _ h => h) (Or.inr ⟨by rfl, rfl⟩) hS ?_
          simp only [lgT, lgZ, lgS, Act.put, lsT, lsZ, lsS]
          refine wpAnyH_take (i := 8) (v := undef) rfl (by kernel_rfl) (by kernel_rfl) (by kernel_rfl) (fun _ _ _ h => h) (Or.inr ⟨by rfl, rfl⟩) hS ?_
          simp only [lgT, lgZ, lgS, Act.put, lsT, lsZ, lsS]
          refine wpAnyH_take (i := 9) (v := undef) rfl (by kernel_rfl) (by kernel_rfl) (by kernel_rfl) (fun _ _ _ h => h) (Or.inr ⟨by rfl, rfl⟩) hS ?_
          simp only [lgT, lgZ, lgS, Act.put, lsT, lsZ, lsS]
          refine wpAnyH_take (i := 10) (v := undef) rfl (by kernel_rfl) (by kernel_rfl) (by kernel_rfl) (fun _ _ _ h => h) (Or.inr ⟨by rfl, rfl⟩) hS ?_
          simp only [lgT, lgZ, lgS, Act.put, lsT, lsZ, lsS]
          refine wpAnyH_take (i := 11) (v := undef) rfl (by kernel_rfl) (by kernel_rfl) (by kernel_rfl) (fun _ _ _ h => h) (Or.inr ⟨by rfl, rfl⟩) hS ?_
          simp only [lgT, lgZ, lgS, Act.put, lsT, lsZ, lsS]
          refine wpAnyH_take (i := 12) (v := undef) rfl (by kernel_rfl) (by kernel_rfl) (by kernel_rfl) (fun _ _ _ h => h) (Or.inr ⟨by rfl, rfl⟩) hS ?_
          simp only [lgT, lgZ, lgS, Act.put, lsT, lsZ, lsS]
          refine wpAnyH_take (i := 13) (v := .bool false) rfl (by kernel_rfl) (by kernel_rfl) (by kernel_rfl) (fun _ _ _ h => h) (Or.inl ⟨by simp [Region.wanted], fun W _ => by go_simp⟩) hS ?_
          simp only [lgT, lgZ, lgS, Act.put, lsT, lsZ, lsS]
          refine wpAnyH_take (i := 14) (v := .bool false) rfl (by kernel_rfl) (by kernel_rfl) (by kernel_rfl) (fun _ _ _ h => h) (Or.inl ⟨by simp [Region.wanted], fun W _ => by go_simp⟩) hS ?_
          simp only [lgT, lgZ, lgS, Act.put, lsT, lsZ, lsS]
          refine wpAnyH_take (i := 15) (v := .agg #[.int .i64 xl, .int .i64 xa, .int .i64 xb, .slice A1 z1 C1, .slice A2 z2 C2]) rfl (by kernel_rfl) (by kernel_rfl) (by kernel_rfl) (fun _ _ _ h => h) (yields_atD (by rfl) 59 (.tmp 4) rfl (.pointer (some ⟨gb, 0, none⟩)) _ rfl (fun W hW => HBX.out _ hW)) hS ?_
          simp only [lgT, lgZ, lgS, Act.put, lsT, lsZ, lsS]
          refine wpAnyH_ready (rs := [16]) (by kernel_rfl) (by simp) ?_
          refine AllReadyH.cons rfl (fun K1 hK1 => ?_) AllReadyH.nil
          rw [if_pos (by rfl)]
          simp only [lgT, lgZ, lgS]
          go_wp2_with (go_at_call 43; refine (HKM.out _).mono ?_; rintro e w7 ⟨rfl, hb7⟩; have HC7 := Lib.hid hb7; clear hb7)
          refine hK1.out _ _ ((hS).trans (HC7.out.mono (hS).size)) (fun hS1 => ?_)
          refine wpAnyH_take (i := 17) (v := .bool false) rfl (by kernel_rfl) (by kernel_rfl) (by kernel_rfl) (fun _ _ _ h => h) (Or.inl ⟨by rfl, fun W _ => by go_simp⟩) hS1 ?_
          simp only [lgT, lgZ, lgS, Act.put, lsT, lsZ, lsS]
          refine wpAnyH_take (i := 18) (v := .bool false) rfl (by kernel_rfl) (by kernel_rfl) (by kernel_rfl) (fun _ _ _ h => h) (Or.inl ⟨by simp [Region.wanted], fun W _ => by go_simp⟩) hS1 ?_
          simp only [lgT, lgZ, lgS, Act.put, lsT, lsZ, lsS]
          refine wpAnyH_take (i := 19) (v := .bool false) rfl (by kernel_rfl) (by kernel_rfl) (by kernel_rfl) (fun _ _ _ h => h) (Or.inl ⟨by simp [Region.wanted], fun W _ => by go_simp⟩) hS1 ?_
          simp only [lgT, lgZ, lgS, Act.put, lsT, lsZ, lsS]
          refine wpAnyH_take (i := 20) (v := .agg #[.int .i64 xl, .int .i64 xa, .int .i64 xb, .slice A1 z1 C1, .slice A2 z2 C2]) rfl (by kernel_rfl) (by kernel_rfl) (by kernel_rfl) (fun _ _ _ h => h) (yields_atD (by rfl) 59 (.tmp 4) rfl (.pointer (some ⟨gb, 0, none⟩)) _ rfl (fun W hW => HBX.out _ hW)) hS1 ?_
          simp only [lgT, lgZ, lgS, Act.put, lsT, lsZ, lsS]
          refine wpAnyH_ready (rs := [21]) (by kernel_rfl) (by simp) ?_
          refine AllReadyH.cons rfl (fun K2 hK2 => ?_) AllReadyH.nil
          rw [if_pos (by rfl)]
          simp only [lgT, lgZ, lgS]
          go_wp2_with (go_at_call 44; refine (HVM.out _ (HB3.out.trans ((hS1).mono HB3.out.size))).mono ?_; rintro e w8 ⟨rfl, hb8⟩; have HC8 := Lib.hid hb8; clear hb8)
          refine hK2.out _ _ ((hS1).trans (HC8.out.mono (hS1).size)) (fun hS2 => ?_)
          refine wpAnyH_take (i := 22) (v := .bool true) rfl (by kernel_rfl) (by kernel_rfl) (by kernel_rfl) (fun _ _ _ h => h) (Or.inl ⟨by rfl, fun W _ => by go_simp⟩) hS2 ?_
          simp only [lgT, lgZ, lgS, Act.put, lsT, lsZ, lsS]
          refine wpAnyH_take (i := 23) (v := .bool true) rfl (by kernel_rfl) (by kernel_rfl) (by kernel_rfl) (fun _ _ _ h => h) (Or.inl ⟨by simp [Region.wanted], fun W _ => by go_simp⟩) hS2 ?_
          simp only [lgT, lgZ, lgS, Act.put, lsT, lsZ, lsS]
          refine wpAnyH_done (by kernel_rfl) ?_ _
          go_wp2
          go_ret
          exact ⟨ret_bool HF.out.symm, HB3.out.trans (hS2.mono HB3.out.size)⟩
        | true =>
          have HT := Lib.hid (show mayCh ((L.map ChV.c).take (0 + 1)) = true from (HST.out.trans rfl))
          refine wp_region_held_drew (S := fun W => Below W3.heap.size W3 W) (by kernel_rfl) ((Below.refl _ _).drew) (fun hS => ?_)
          refine wpAnyH_take (i := 0) (v := .int .i64 0) rfl (by kernel_rfl) (by kernel_rfl) (by kernel_rfl) (fun _ _ _ h => h) (Or.inl ⟨by simp [Region.wanted], fun W _ => by go_simp⟩) hS ?_
          simp only [lgT, lgZ, Act.put, lsT, lsZ, lsS]
          refine wpAnyH_take (i := 1) (v := .bool false) rfl (by kernel_rfl) (by kernel_rfl) (by kernel_rfl) (fun _ _ _ h => h) (Or.inl ⟨by simp [Region.wanted], fun W _ => by go_simp; try omega⟩) hS ?_
          simp only [lgT, lgZ, lgS, Act.put, lsT, lsZ, lsS]
          refine wpAnyH_take (i := 2) (v := .bool false) rfl (by kernel_rfl) (by kernel_rfl) (by kernel_rfl) (fun _ _ _ h => h) (Or.inl ⟨by simp [Region.wanted], fun W _ => by go_simp⟩) hS ?_
          simp only [lgT, lgZ, lgS, Act.put, lsT, lsZ, lsS]
          refine wpAnyH_take (i := 3) (v := undef) rfl (by kernel_rfl) (by kernel_rfl) (by kernel_rfl) (fun _ _ _ h => h) (Or.inr ⟨by rfl, rfl⟩) hS ?_
          simp only [lgT, lgZ, lgS, Act.put, lsT, lsZ, lsS]
          refine wpAnyH_take (i := 4) (v := undef) rfl (by kernel_rfl) (by kernel_rfl) (by kernel_rfl) (fun _ _ _ h => h) (Or.inr ⟨by rfl, rfl⟩) hS ?_
          simp only [lgT, lgZ, lgS, Act.put, lsT, lsZ, lsS]
          refine wpAnyH_take (i := 5) (v := undef) rfl (by kernel_rfl) (by kernel_rfl) (by kernel_rfl) (fun _ _ _ h => h) (Or.inr ⟨by rfl, rfl⟩) hS ?_
          simp only [lgT, lgZ, lgS, Act.put, lsT, lsZ, lsS]
          refine wpAnyH_take (i := 6) (v := undef) rfl (by kernel_rfl) (by kernel_rfl) (by kernel_rfl) (fun _ _ _ h => h) (Or.inr ⟨by rfl, rfl⟩) hS ?_
          simp only [lgT, lgZ, lgS, Act.put, lsT, lsZ, lsS]
          refine wpAnyH_take (i := 7) (v := undef) rfl (by kernel_rfl) (by kernel_rfl) (by kernel_rfl) (fun _ _ _ h => h) (Or.inr ⟨by rfl, rfl⟩) hS ?_
          simp only [lgT, lgZ, lgS, Act.put, lsT, lsZ, lsS]
          refine wpAnyH_take (i := 8) (v := undef) rfl (by kernel_rfl) (by kernel_rfl) (by kernel_rfl) (fun _ _ _ h => h) (Or.inr ⟨by rfl, rfl⟩) hS ?_
          simp only [lgT, lgZ, lgS, Act.put, lsT, lsZ, lsS]
          refine wpAnyH_take (i := 9) (v := undef) rfl (by kernel_rfl) (by kernel_rfl) (by kernel_rfl) (fun _ _ _ h => h) (Or.inr ⟨by rfl, rfl⟩) hS ?_
          simp only [lgT, lgZ, lgS, Act.put, lsT, lsZ, lsS]
          refine wpAnyH_take (i := 10) (v := undef) rfl (by kernel_rfl) (by kernel_rfl) (by kernel_rfl) (fun _ _ _ h => h) (Or.inr ⟨by rfl, rfl⟩) hS ?_
          simp only [lgT, lgZ, lgS, Act.put, lsT, lsZ, lsS]
          refine wpAnyH_take (i := 11) (v := undef) rfl (by kernel_rfl) (by kernel_rfl) (by kernel_rfl) (fun _ _ _ h => h) (Or.inr ⟨by rfl, rfl⟩) hS ?_
          simp only [lgT, lgZ, lgS, Act.put, lsT, lsZ, lsS]
          refine wpAnyH_take (i := 12) (v := undef) rfl (by kernel_rfl) (by kernel_rfl) (by kernel_rfl) (fun _ _ _ h => h) (Or.inr ⟨by rfl, rfl⟩) hS ?_
          simp only [lgT, lgZ, lgS, Act.put, lsT, lsZ, lsS]
          refine wpAnyH_take (i := 13) (v := .bool false) rfl (by kernel_rfl) (by kernel_rfl) (by kernel_rfl) (fun _ _ _ h => h) (Or.inl ⟨by simp [Region.wanted], fun W _ => by go_simp⟩) hS ?_
          simp only [lgT, lgZ, lgS, Act.put, lsT, lsZ, lsS]
          refine wpAnyH_take (i := 14) (v := .bool false) rfl (by kernel_rfl) (by kernel_rfl) (by kernel_rfl) (fun _ _ _ h => h) (Or.inl ⟨by simp [Region.wanted], fun W _ => by go_simp⟩) hS ?_
          simp only [lgT, lgZ, lgS, Act.put, lsT, lsZ, lsS]
          refine wpAnyH_take (i := 15) (v := .agg #[.int .i64 xl, .int .i64 xa, .int .i64 xb, .slice A1 z1 C1, .slice A2 z2 C2]) rfl (by kernel_rfl) (by kernel_rfl) (by kernel_rfl) (fun _ _ _ h => h) (yields_atD (by rfl) 59 (.tmp 4) rfl (.pointer (some ⟨gb, 0, none⟩)) _ rfl (fun W hW => HBX.out _ hW)) hS ?_
          simp only [lgT, lgZ, lgS, Act.put, lsT, lsZ, lsS]
          refine wpAnyH_ready (rs := [16]) (by kernel_rfl) (by simp) ?_
          refine AllReadyH.cons rfl (fun K1 hK1 => ?_) AllReadyH.nil
          rw [if_pos (by rfl)]
          simp only [lgT, lgZ, lgS]
          go_wp2_with (go_at_call 43; refine (HKM.out _).mono ?_; rintro e w7 ⟨rfl, hb7⟩; have HC7 := Lib.hid hb7; clear hb7)
          refine hK1.out _ _ ((hS).trans (HC7.out.mono (hS).size)) (fun hS1 => ?_)
          refine wpAnyH_take (i := 17) (v := .bool false) rfl (by kernel_rfl) (by kernel_rfl) (by kernel_rfl) (fun _ _ _ h => h) (Or.inl ⟨by rfl, fun W _ => by go_simp⟩) hS1 ?_
          simp only [lgT, lgZ, lgS, Act.put, lsT, lsZ, lsS]
          refine wpAnyH_take (i := 18) (v := .bool false) rfl (by kernel_rfl) (by kernel_rfl) (by kernel_rfl) (fun _ _ _ h => h) (Or.inl ⟨by simp [Region.wanted], fun W _ => by go_simp⟩) hS1 ?_
          simp only [lgT, lgZ, lgS, Act.put, lsT, lsZ, lsS]
          refine wpAnyH_take (i := 19) (v := .bool false) rfl (by kernel_rfl) (by kernel_rfl) (by kernel_rfl) (fun _ _ _ h => h) (Or.inl ⟨by simp [Region.wanted], fun W _ => by go_simp⟩) hS1 ?_
          simp only [lgT, lgZ, lgS, Act.put, lsT, lsZ, lsS]
          refine wpAnyH_take (i := 20) (v := .agg #[.int .i64 xl, .int .i64 xa, .int .i64 xb, .slice A1 z1 C1, .slice A2 z2 C2]) rfl (by kernel_rfl) (by kernel_rfl) (by kernel_rfl) (fun _ _ _ h => h) (yields_atD (by rfl) 59 (.tmp 4) rfl (.pointer (some ⟨gb, 0, none⟩)) _ rfl (fun W hW => HBX.out _ hW)) hS1 ?_
          simp only [lgT, lgZ, lgS, Act.put, lsT, lsZ, lsS]
          refine wpAnyH_ready (rs := [21]) (by kernel_rfl) (by simp) ?_
          refine AllReadyH.cons rfl (fun K2 hK2 => ?_) AllReadyH.nil
          rw [if_pos (by rfl)]
          simp only [lgT, lgZ, lgS]
          go_wp2_with (go_at_call 44; refine (HVM.out _ (HB3.out.trans ((hS1).mono HB3.out.size))).mono ?_; rintro e w8 ⟨rfl, hb8⟩; have HC8 := Lib.hid hb8; clear hb8)
          refine hK2.out _ _ ((hS1).trans (HC8.out.mono (hS1).size)) (fun hS2 => ?_)
          refine wpAnyH_take (i := 22) (v := .bool false) rfl (by kernel_rfl) (by kernel_rfl) (by kernel_rfl) (fun _ _ _ h => h) (Or.inl ⟨by rfl, fun W _ => by go_simp⟩) hS2 ?_
          simp only [lgT, lgZ, lgS, Act.put, lsT, lsZ, lsS]
          refine wpAnyH_take (i := 23) (v := .bool false) rfl (by kernel_rfl) (by kernel_rfl) (by kernel_rfl) (fun _ _ _ h => h) (Or.inl ⟨by simp [Region.wanted], fun W _ => by go_simp⟩) hS2 ?_
          simp only [lgT, lgZ, lgS, Act.put, lsT, lsZ, lsS]
          refine wpAnyH_done (by kernel_rfl) ?_ _
          go_wp2
          go_roundw
          case rel => exact ⟨0 + 1, by go_num, hlt, HT.out, HB3.out.trans (hS2.mono HB3.out.size)⟩
          case measure => simp [intOf]; omega
    · obtain ⟨j, rfl⟩ : ∃ j, i = j + 1 := ⟨i - 1, by omega⟩
      obtain ⟨y, hy⟩ := HPR.out j rfl
      obtain ⟨g', o', ha', hld⟩ := HLD.out j y hy
      obtain ⟨rfl, rfl⟩ : g = g' ∧ o = o' := by simpa using ha'
      have HLY := Lib.hid hld
      have HST := Lib.hid ((may_next (rise_at hy) HPX.out HMY.out).trans (by rw [HON.out]))
      clear hld ha' hy
      obtain ⟨⟨pl, pa, pb, pv, qv⟩, P1, Q1, P2, Q2⟩ := y
      dsimp only [ChV.cells, List.toArray] at HLY
      dsimp only at HST
      have hlc : ltC ⟨pl, pa, pb, pv, qv⟩ ⟨xl, xa, xb, xv, yv⟩ = lessD pl pa pb xl xa xb := rfl
      rw [hlc] at HST
      obtain ⟨Z, hZ⟩ : ∃ Z, cmpK pl pa pb xl xa xb = Z := ⟨_, rfl⟩
      have HZ := Lib.hid (show Z < 0 ↔ lessD pl pa pb xl xa xb = true by rw [← hZ]; exact cmpK_neg)
      have HCM := Lib.hid (HCM.out pl pa pb xl xa xb)
      rw [hZ] at HCM
      have hij : IntKind.i64.wrap (j : Int) = (j : Int) := by rw [IntKind.wrap_i64]; omega
      have hjn : j < n := by omega
      clear hlc hZ
      by_cases hz : Z < 0
      · have HLS := Lib.hid (HZ.out.1 hz)
        cases rk with
        | false =>
          have HF := Lib.hid (show R = false by rw [← HR.out]; exact may_no (i := j + 1 + 1) (HST.out.trans (by rw [HLS.out]; rfl)))
          refine wp_region_held_drew (S := fun W => Below W3.heap.size W3 W) (by kernel_rfl) ((Below.refl _ _).drew) (fun hS => ?_)
          refine wpAnyH_take (i := 0) (v := .int .i64 ((j + 1 : Nat) : Int)) rfl (by kernel_rfl) (by kernel_rfl) (by kernel_rfl) (fun _ _ _ h => h) (Or.inl ⟨by simp [Region.wanted], fun W _ => by go_simp⟩) hS ?_
          simp only [lgT, lgZ, Act.put, lsT, lsZ, lsS]
          refine wpAnyH_take (i := 1) (v := .bool true) rfl (by kernel_rfl) (by kernel_rfl) (by kernel_rfl) (fun _ _ _ h => h) (Or.inl ⟨by simp [Region.wanted], fun W _ => by go_simp; try omega⟩) hS ?_
          simp only [lgT, lgZ, lgS, Act.put, lsT, lsZ, lsS]
          refine wpAnyH_take (i := 2) (v := .bool true) rfl (by kernel_rfl) (by kernel_rfl) (by kernel_rfl) (fun _ _ _ h => h) (Or.inl ⟨by simp [Region.wanted], fun W _ => by go_simp⟩) hS ?_
          simp only [lgT, lgZ, lgS, Act.put, lsT, lsZ, lsS]
          refine wpAnyH_take (i := 3) (v := .slice (some ⟨g, o, none⟩) n c) rfl (by kernel_rfl) (by kernel_rfl) (by kernel_rfl) (fun _ _ _ h => h) (Or.inl ⟨by rfl, fun W _ => by go_simp⟩) hS ?_
          simp only [lgT, lgZ, lgS, Act.put, lsT, lsZ, lsS]
          refine wpAnyH_take (i := 4) (v := .int .i64 ((j + 1 : Nat) : Int)) rfl (by kernel_rfl) (by kernel_rfl) (by kernel_rfl) (fun _ _ _ h => h) (Or.inl ⟨by rfl, fun W _ => by go_simp⟩) hS ?_
          simp only [lgT, lgZ, lgS, Act.put, lsT, lsZ, lsS]
          refine wpAnyH_take (i := 5) (v := .int .i64 (j : Int)) rfl (by kernel_rfl) (by kernel_rfl) (by kernel_rfl) (fun _ _ _ h => h) (Or.inl ⟨by rfl, fun W _ => by go_simp⟩) hS ?_
          simp only [lgT, lgZ, lgS, Act.put, lsT, lsZ, lsS]
          refine wpAnyH_take (i := 6) (v := .pointer (some ⟨g, o + j * 5, none⟩)) rfl (by kernel_rfl) (by kernel_rfl) (by kernel_rfl) (fun _ _ _ h => h) (Or.inl ⟨by rfl, fun W _ => by go_simp⟩) hS ?_
          simp only [lgT, lgZ, lgS, Act.put, lsT, lsZ, lsS]
          refine wpAnyH_take (i := 7) (v := .agg #[.int .i64 pl, .int .i64 pa, .int .i64 pb, .slice P1 pv.length Q1, .slice P2 qv.length Q2]) rfl (by kernel_rfl) (by kernel_rfl) (by kernel_rfl) (fun _ _ _ h => h) (yields_atD (by rfl) 59 (.tmp 18) rfl (.pointer (some ⟨g, o + j * 5, none⟩)) _ rfl (fun W hW => HLY.out _ (HB3.out.trans (hW.mono HB3.out.size)))) hS ?_
          simp only [lgT, lgZ, lgS, Act.put, lsT, lsZ, lsS]
          refine wpAnyH_take (i := 9) (v := .agg #[.int .i64 xl, .int .i64 xa, .int .i64 xb, .slice A1 z1 C1, .slice A2 z2 C2]) rfl (by kernel_rfl) (by kernel_rfl) (by kernel_rfl) (fun _ _ _ h => h) (yields_atD (by rfl) 59 (.tmp 4) rfl (.pointer (some ⟨gb, 0, none⟩)) _ rfl (fun W hW => HBX.out _ hW)) hS ?_
          simp only [lgT, lgZ, lgS, Act.put, lsT, lsZ, lsS]
          refine wpAnyH_ready (rs := [8]) (by kernel_rfl) (by simp) ?_
          refine AllReadyH.cons rfl (fun K1 hK1 => ?_) AllReadyH.nil
          rw [if_pos (by rfl)]
          simp only [lgT, lgZ, lgS]
          go_wp2_with (go_at_call 24; refine (HAT.out _ _ _ _ _ _ _ _ _ _).mono ?_; rintro e w4 ⟨rfl, hb4⟩; have HC4 := Lib.hid hb4; clear hb4)
          refine hK1.out _ _ ((hS).trans (HC4.out.mono (hS).size)) (fun hS1 => ?_)
          refine wpAnyH_ready (rs := [10]) (by kernel_rfl) (by simp) ?_
          refine AllReadyH.cons rfl (fun K2 hK2 => ?_) AllReadyH.nil
          rw [if_pos (by rfl)]
          simp only [lgT, lgZ, lgS]
          go_wp2_with (go_at_call 24; refine (HAT.out _ _ _ _ _ _ _ _ _ _).mono ?_; rintro e w5 ⟨rfl, hb5⟩; have HC5 := Lib.hid hb5; clear hb5)
          refine hK2.out _ _ ((hS1).trans (HC5.out.mono (hS1).size)) (fun hS2 => ?_)
          refine wpAnyH_ready (rs := [11]) (by kernel_rfl) (by simp) ?_
          refine AllReadyH.cons rfl (fun K3 hK3 => ?_) AllReadyH.nil
          rw [if_pos (by rfl)]
          simp only [lgT, lgZ, lgS]
          go_wp2_with (go_at_call 42; refine (HCM.out _).mono ?_; rintro e w6 ⟨rfl, hb6⟩; have HC6 := Lib.hid hb6; clear hb6)
          refine hK3.out _ _ ((hS2).trans (HC6.out.mono (hS2).size)) (fun hS3 => ?_)
          refine wpAnyH_take (i := 12) (v := .bool false) rfl (by kernel_rfl) (by kernel_rfl) (by kernel_rfl) (fun _ _ _ h => h) (Or.inl ⟨by rfl, fun W _ => by go_simp; try omega⟩) hS3 ?_
          simp only [lgT, lgZ, lgS, Act.put, lsT, lsZ, lsS]
          refine wpAnyH_take (i := 13) (v := .bool false) rfl (by kernel_rfl) (by kernel_rfl) (by kernel_rfl) (fun _ _ _ h => h) (Or.inl ⟨by simp [Region.wanted], fun W _ => by go_simp⟩) hS3 ?_
          simp only [lgT, lgZ, lgS, Act.put, lsT, lsZ, lsS]
          refine wpAnyH_take (i := 14) (v := .bool false) rfl (by kernel_rfl) (by kernel_rfl) (by kernel_rfl) (fun _ _ _ h => h) (Or.inl ⟨by simp [Region.wanted], fun W _ => by go_simp⟩) hS3 ?_
          simp only [lgT, lgZ, lgS, Act.put, lsT, lsZ, lsS]
          refine wpAnyH_take (i := 15) (v := .agg #[.int .i64 xl, .int .i64 xa, .int .i64 xb, .slice A1 z1 C1, .slice A2 z2 C2]) rfl (by kernel_rfl) (by kernel_rfl) (by kernel_rfl) (fun _ _ _ h => h) (yields_atD (by rfl) 59 (.tmp 4) rfl (.pointer (some ⟨gb, 0, none⟩)) _ rfl (fun W hW => HBX.out _ hW)) hS3 ?_
          simp only [lgT, lgZ, lgS, Act.put, lsT, lsZ, lsS]
          refine wpAnyH_ready (rs := [16]) (by kernel_rfl) (by simp) ?_
          refine AllReadyH.cons rfl (fun K4 hK4 => ?_) AllReadyH.nil
          rw [if_pos (by rfl)]
          simp only [lgT, lgZ, lgS]
          go_wp2_with (go_at_call 43; refine (HKM.out _).mono ?_; rintro e w7 ⟨rfl, hb7⟩; have HC7 := Lib.hid hb7; clear hb7)
          refine hK4.out _ _ ((hS3).trans (HC7.out.mono (hS3).size)) (fun hS4 => ?_)
          refine wpAnyH_take (i := 17) (v := .bool true) rfl (by kernel_rfl) (by kernel_rfl) (by kernel_rfl) (fun _ _ _ h => h) (Or.inl ⟨by rfl, fun W _ => by go_simp⟩) hS4 ?_
          simp only [lgT, lgZ, lgS, Act.put, lsT, lsZ, lsS]
          refine wpAnyH_take (i := 18) (v := .bool true) rfl (by kernel_rfl) (by kernel_rfl) (by kernel_rfl) (fun _ _ _ h => h) (Or.inl ⟨by simp [Region.wanted], fun W _ => by go_simp⟩) hS4 ?_
          simp only [lgT, lgZ, lgS, Act.put, lsT, lsZ, lsS]
          refine wpAnyH_take (i := 19) (v := .bool true) rfl (by kernel_rfl) (by kernel_rfl) (by kernel_rfl) (fun _ _ _ h => h) (Or.inl ⟨by simp [Region.wanted], fun W _ => by go_simp⟩) hS4 ?_
          simp only [lgT, lgZ, lgS, Act.put, lsT, lsZ, lsS]
          refine wpAnyH_take (i := 20) (v := undef) rfl (by kernel_rfl) (by kernel_rfl) (by kernel_rfl) (fun _ _ _ h => h) (Or.inr ⟨by rfl, rfl⟩) hS4 ?_
          simp only [lgT, lgZ, lgS, Act.put, lsT, lsZ, lsS]
          refine wpAnyH_take (i := 21) (v := undef) rfl (by kernel_rfl) (by kernel_rfl) (by kernel_rfl) (fun _ _ _ h => h) (Or.inr ⟨by rfl, rfl⟩) hS4 ?_
          simp only [lgT, lgZ, lgS, Act.put, lsT, lsZ, lsS]
          refine wpAnyH_take (i := 22) (v := undef) rfl (by kernel_rfl) (by kernel_rfl) (by kernel_rfl) (fun _ _ _ h => h) (Or.inr ⟨by rfl, rfl⟩) hS4 ?_
          simp only [lgT, lgZ, lgS, Act.put, lsT, lsZ, lsS]
          refine wpAnyH_take (i := 23) (v := .bool true) rfl (by kernel_rfl) (by kernel_rfl) (by kernel_rfl) (fun _ _ _ h => h) (Or.inl ⟨by simp [Region.wanted], fun W _ => by go_simp⟩) hS4 ?_
          simp only [lgT, lgZ, lgS, Act.put, lsT, lsZ, lsS]
          refine wpAnyH_done (by kernel_rfl) ?_ _
          go_wp2
          go_ret
          exact ⟨ret_bool HF.out.symm, HB3.out.trans (hS4.mono HB3.out.size)⟩
        | true =>
          cases rv with
          | false =>
            have HF := Lib.hid (show R = false by rw [← HR.out]; exact may_no (i := j + 1 + 1) (HST.out.trans (by rw [HLS.out]; rfl)))
            refine wp_region_held_drew (S := fun W => Below W3.heap.size W3 W) (by kernel_rfl) ((Below.refl _ _).drew) (fun hS => ?_)
            refine wpAnyH_take (i := 0) (v := .int .i64 ((j + 1 : Nat) : Int)) rfl (by kernel_rfl) (by kernel_rfl) (by kernel_rfl) (fun _ _ _ h => h) (Or.inl ⟨by simp [Region.wanted], fun W _ => by go_simp⟩) hS ?_
            simp only [lgT, lgZ, Act.put, lsT, lsZ, lsS]
            refine wpAnyH_take (i := 1) (v := .bool true) rfl (by kernel_rfl) (by kernel_rfl) (by kernel_rfl) (fun _ _ _ h => h) (Or.inl ⟨by simp [Region.wanted], fun W _ => by go_simp; try omega⟩) hS ?_
            simp only [lgT, lgZ, lgS, Act.put, lsT, lsZ, lsS]
            refine wpAnyH_take (i := 2) (v := .bool true) rfl (by kernel_rfl) (by kernel_rfl) (by kernel_rfl) (fun _ _ _ h => h) (Or.inl ⟨by simp [Region.wanted], fun W _ => by go_simp⟩) hS ?_
            simp only [lgT, lgZ, lgS, Act.put, lsT, lsZ, lsS]
            refine wpAnyH_take (i := 3) (v := .slice (some ⟨g, o, none⟩) n c) rfl (by kernel_rfl) (by kernel_rfl) (by kernel_rfl) (fun _ _ _ h => h) (Or.inl ⟨by rfl, fun W _ => by go_simp⟩) hS ?_
            simp only [lgT, lgZ, lgS, Act.put, lsT, lsZ, lsS]
            refine wpAnyH_take (i := 4) (v := .int .i64 ((j + 1 : Nat) : Int)) rfl (by kernel_rfl) (by kernel_rfl) (by kernel_rfl) (fun _ _ _ h => h) (Or.inl ⟨by rfl, fun W _ => by go_simp⟩) hS ?_
            simp only [lgT, lgZ, lgS, Act.put, lsT, lsZ, lsS]
            refine wpAnyH_take (i := 5) (v := .int .i64 (j : Int)) rfl (by kernel_rfl) (by kernel_rfl) (by kernel_rfl) (fun _ _ _ h => h) (Or.inl ⟨by rfl, fun W _ => by go_simp⟩) hS ?_
            simp only [lgT, lgZ, lgS, Act.put, lsT, lsZ, lsS]
            refine wpAnyH_take (i := 6) (v := .pointer (some ⟨g, o + j * 5, none⟩)) rfl (by kernel_rfl) (by kernel_rfl) (by kernel_rfl) (fun _ _ _ h => h) (Or.inl ⟨by rfl, fun W _ => by go_simp⟩) hS ?_
            simp only [lgT, lgZ, lgS, Act.put, lsT, lsZ, lsS]
            refine wpAnyH_take (i := 7) (v := .agg #[.int .i64 pl, .int .i64 pa, .int .i64 pb, .slice P1 pv.length Q1, .slice P2 qv.length Q2]) rfl (by kernel_rfl) (by kernel_rfl) (by kernel_rfl) (fun _ _ _ h => h) (yields_atD (by rfl) 59 (.tmp 18) rfl (.pointer (some ⟨g, o + j * 5, none⟩)) _ rfl (fun W hW => HLY.out _ (HB3.out.trans (hW.mono HB3.out.size)))) hS ?_
            simp only [lgT, lgZ, lgS, Act.put, lsT, lsZ, lsS]
            refine wpAnyH_take (i := 9) (v := .agg #[.int .i64 xl, .int .i64 xa, .int .i64 xb, .slice A1 z1 C1, .slice A2 z2 C2]) rfl (by kernel_rfl) (by kernel_rfl) (by kernel_rfl) (fun _ _ _ h => h) (yields_atD (by rfl) 59 (.tmp 4) rfl (.pointer (some ⟨gb, 0, none⟩)) _ rfl (fun W hW => HBX.out _ hW)) hS ?_
            simp only [lgT, lgZ, lgS, Act.put, lsT, lsZ, lsS]
            refine wpAnyH_ready (rs := [8]) (by kernel_rfl) (by simp) ?_
            refine AllReadyH.cons rfl (fun K1 hK1 => ?_) AllReadyH.nil
            rw [if_pos (by rfl)]
            simp only [lgT, lgZ, lgS]
            go_wp2_with (go_at_call 24; refine (HAT.out _ _ _ _ _ _ _ _ _ _).mono ?_; rintro e w4 ⟨rfl, hb4⟩; have HC4 := Lib.hid hb4; clear hb4)
            refine hK1.out _ _ ((hS).trans (HC4.out.mono (hS).size)) (fun hS1 => ?_)
            refine wpAnyH_ready (rs := [10]) (by kernel_rfl) (by simp) ?_
            refine AllReadyH.cons rfl (fun K2 hK2 => ?_) AllReadyH.nil
            rw [if_pos (by rfl)]
            simp only [lgT, lgZ, lgS]
            go_wp2_with (go_at_call 24; refine (HAT.out _ _ _ _ _ _ _ _ _ _).mono ?_; rintro e w5 ⟨rfl, hb5⟩; have HC5 := Lib.hid hb5; clear hb5)
            refine hK2.out _ _ ((hS1).trans (HC5.out.mono (hS1).size)) (fun hS2 => ?_)
            refine wpAnyH_ready (rs := [11]) (by kernel_rfl) (by simp) ?_
            refine AllReadyH.cons rfl (fun K3 hK3 => ?_) AllReadyH.nil
            rw [if_pos (by rfl)]
            simp only [lgT, lgZ, lgS]
            go_wp2_with (go_at_call 42; refine (HCM.out _).mono ?_; rintro e w6 ⟨rfl, hb6⟩; have HC6 := Lib.hid hb6; clear hb6)
            refine hK3.out _ _ ((hS2).trans (HC6.out.mono (hS2).size)) (fun hS3 => ?_)
            refine wpAnyH_take (i := 12) (v := .bool false) rfl (by kernel_rfl) (by kernel_rfl) (by kernel_rfl) (fun _ _ _ h => h) (Or.inl ⟨by rfl, fun W _ => by go_simp; try omega⟩) hS3 ?_
            simp only [lgT, lgZ, lgS, Act.put, lsT, lsZ, lsS]
            refine wpAnyH_take (i := 13) (v := .bool false) rfl (by kernel_rfl) (by kernel_rfl) (by kernel_rfl) (fun _ _ _ h => h) (Or.inl ⟨by simp [Region.wanted], fun W _ => by go_simp⟩) hS3 ?_
            simp only [lgT, lgZ, lgS, Act.put, lsT, lsZ, lsS]
            refine wpAnyH_take (i := 14) (v := .bool false) rfl (by kernel_rfl) (by kernel_rfl) (by kernel_rfl) (fun _ _ _ h => h) (Or.inl ⟨by simp [Region.wanted], fun W _ => by go_simp⟩) hS3 ?_
            simp only [lgT, lgZ, lgS, Act.put, lsT, lsZ, lsS]
            refine wpAnyH_take (i := 15) (v := .agg #[.int .i64 xl, .int .i64 xa, .int .i64 xb, .slice A1 z1 C1, .slice A2 z2 C2]) rfl (by kernel_rfl) (by kernel_rfl) (by kernel_rfl) (fun _ _ _ h => h) (yields_atD (by rfl) 59 (.tmp 4) rfl (.pointer (some ⟨gb, 0, none⟩)) _ rfl (fun W hW => HBX.out _ hW)) hS3 ?_
            simp only [lgT, lgZ, lgS, Act.put, lsT, lsZ, lsS]
            refine wpAnyH_ready (rs := [16]) (by kernel_rfl) (by simp) ?_
            refine AllReadyH.cons rfl (fun K4 hK4 => ?_) AllReadyH.nil
            rw [if_pos (by rfl)]
            simp only [lgT, lgZ, lgS]
            go_wp2_with (go_at_call 43; refine (HKM.out _).mono ?_; rintro e w7 ⟨rfl, hb7⟩; have HC7 := Lib.hid hb7; clear hb7)
            refine hK4.out _ _ ((hS3).trans (HC7.out.mono (hS3).size)) (fun hS4 => ?_)
            refine wpAnyH_take (i := 17) (v := .bool false) rfl (by kernel_rfl) (by kernel_rfl) (by kernel_rfl) (fun _ _ _ h => h) (Or.inl ⟨by rfl, fun W _ => by go_simp⟩) hS4 ?_
            simp only [lgT, lgZ, lgS, Act.put, lsT, lsZ, lsS]
            refine wpAnyH_take (i := 18) (v := .bool false) rfl (by kernel_rfl) (by kernel_rfl) (by kernel_rfl) (fun _ _ _ h => h) (Or.inl ⟨by simp [Region.wanted], fun W _ => by go_simp⟩) hS4 ?_
            simp only [lgT, lgZ, lgS, Act.put, lsT, lsZ, lsS]
            refine wpAnyH_take (i := 19) (v := .bool false) rfl (by kernel_rfl) (by kernel_rfl) (by kernel_rfl) (fun _ _ _ h => h) (Or.inl ⟨by simp [Region.wanted], fun W _ => by go_simp⟩) hS4 ?_
            simp only [lgT, lgZ, lgS, Act.put, lsT, lsZ, lsS]
            refine wpAnyH_take (i := 20) (v := .agg #[.int .i64 xl, .int .i64 xa, .int .i64 xb, .slice A1 z1 C1, .slice A2 z2 C2]) rfl (by kernel_rfl) (by kernel_rfl) (by kernel_rfl) (fun _ _ _ h => h) (yields_atD (by rfl) 59 (.tmp 4) rfl (.pointer (some ⟨gb, 0, none⟩)) _ rfl (fun W hW => HBX.out _ hW)) hS4 ?_
            simp only [lgT, lgZ, lgS, Act.put, lsT, lsZ, lsS]
            refine wpAnyH_ready (rs := [21]) (by kernel_rfl) (by simp) ?_
            refine AllReadyH.cons rfl (fun K5 hK5 => ?_) AllReadyH.nil
            rw [if_pos (by rfl)]
            simp only [lgT, lgZ, lgS]
            go_wp2_with (go_at_call 44; refine (HVM.out _ (HB3.out.trans ((hS4).mono HB3.out.size))).mono ?_; rintro e w8 ⟨rfl, hb8⟩; have HC8 := Lib.hid hb8; clear hb8)
            refine hK5.out _ _ ((hS4).trans (HC8.out.mono (hS4).size)) (fun hS5 => ?_)
            refine wpAnyH_take (i := 22) (v := .bool true) rfl (by kernel_rfl) (by kernel_rfl) (by kernel_rfl) (fun _ _ _ h => h) (Or.inl ⟨by rfl, fun W _ => by go_simp⟩) hS5 ?_
            simp only [lgT, lgZ, lgS, Act.put, lsT, lsZ, lsS]
            refine wpAnyH_take (i := 23) (v := .bool true) rfl (by kernel_rfl) (by kernel_rfl) (by kernel_rfl) (fun _ _ _ h => h) (Or.inl ⟨by simp [Region.wanted], fun W _ => by go_simp⟩) hS5 ?_
            simp only [lgT, lgZ, lgS, Act.put, lsT, lsZ, lsS]
            refine wpAnyH_done (by kernel_rfl) ?_ _
            go_wp2
            go_ret
            exact ⟨ret_bool HF.out.symm, HB3.out.trans (hS5.mono HB3.out.size)⟩
          | true =>
            have HT := Lib.hid (show mayCh ((L.map ChV.c).take (j + 1 + 1)) = true from (HST.out.trans (by rw [HLS.out]; rfl)))
            refine wp_region_held_drew (S := fun W => Below W3.heap.size W3 W) (by kernel_rfl) ((Below.refl _ _).drew) (fun hS => ?_)
            refine wpAnyH_take (i := 0) (v := .int .i64 ((j + 1 : Nat) : Int)) rfl (by kernel_rfl) (by kernel_rfl) (by kernel_rfl) (fun _ _ _ h => h) (Or.inl ⟨by simp [Region.wanted], fun W _ => by go_simp⟩) hS ?_
            simp only [lgT, lgZ, Act.put, lsT, lsZ, lsS]
            refine wpAnyH_take (i := 1) (v := .bool true) rfl (by kernel_rfl) (by kernel_rfl) (by kernel_rfl) (fun _ _ _ h => h) (Or.inl ⟨by simp [Region.wanted], fun W _ => by go_simp; try omega⟩) hS ?_
            simp only [lgT, lgZ, lgS, Act.put, lsT, lsZ, lsS]
            refine wpAnyH_take (i := 2) (v := .bool true) rfl (by kernel_rfl) (by kernel_rfl) (by kernel_rfl) (fun _ _ _ h => h) (Or.inl ⟨by simp [Region.wanted], fun W _ => by go_simp⟩) hS ?_
            simp only [lgT, lgZ, lgS, Act.put, lsT, lsZ, lsS]
            refine wpAnyH_take (i := 3) (v := .slice (some ⟨g, o, none⟩) n c) rfl (by kernel_rfl) (by kernel_rfl) (by kernel_rfl) (fun _ _ _ h => h) (Or.inl ⟨by rfl, fun W _ => by go_simp⟩) hS ?_
            simp only [lgT, lgZ, lgS, Act.put, lsT, lsZ, lsS]
            refine wpAnyH_take (i := 4) (v := .int .i64 ((j + 1 : Nat) : Int)) rfl (by kernel_rfl) (by kernel_rfl) (by kernel_rfl) (fun _ _ _ h => h) (Or.inl ⟨by rfl, fun W _ => by go_simp⟩) hS ?_
            simp only [lgT, lgZ, lgS, Act.put, lsT, lsZ, lsS]
            refine wpAnyH_take (i := 5) (v := .int .i64 (j : Int)) rfl (by kernel_rfl) (by kernel_rfl) (by kernel_rfl) (fun _ _ _ h => h) (Or.inl ⟨by rfl, fun W _ => by go_simp⟩) hS ?_
            simp only [lgT, lgZ, lgS, Act.put, lsT, lsZ, lsS]
            refine wpAnyH_take (i := 6) (v := .pointer (some ⟨g, o + j * 5, none⟩)) rfl (by kernel_rfl) (by kernel_rfl) (by kernel_rfl) (fun _ _ _ h => h) (Or.inl ⟨by rfl, fun W _ => by go_simp⟩) hS ?_
            simp only [lgT, lgZ, lgS, Act.put, lsT, lsZ, lsS]
            refine wpAnyH_take (i := 7) (v := .agg #[.int .i64 pl, .int .i64 pa, .int .i64 pb, .slice P1 pv.length Q1, .slice P2 qv.length Q2]) rfl (by kernel_rfl) (by kernel_rfl) (by kernel_rfl) (fun _ _ _ h => h) (yields_atD (by rfl) 59 (.tmp 18) rfl (.pointer (some ⟨g, o + j * 5, none⟩)) _ rfl (fun W hW => HLY.out _ (HB3.out.trans (hW.mono HB3.out.size)))) hS ?_
            simp only [lgT, lgZ, lgS, Act.put, lsT, lsZ, lsS]
            refine wpAnyH_take (i := 9) (v := .agg #[.int .i64 xl, .int .i64 xa, .int .i64 xb, .slice A1 z1 C1, .slice A2 z2 C2]) rfl (by kernel_rfl) (by kernel_rfl) (by kernel_rfl) (fun _ _ _ h => h) (yields_atD (by rfl) 59 (.tmp 4) rfl (.pointer (some ⟨gb, 0, none⟩)) _ rfl (fun W hW => HBX.out _ hW)) hS ?_
            simp only [lgT, lgZ, lgS, Act.put, lsT, lsZ, lsS]
            refine wpAnyH_ready (rs := [8]) (by kernel_rfl) (by simp) ?_
            refine AllReadyH.cons rfl (fun K1 hK1 => ?_) AllReadyH.nil
            rw [if_pos (by rfl)]
            simp only [lgT, lgZ, lgS]
            go_wp2_with (go_at_call 24; refine (HAT.out _ _ _ _ _ _ _ _ _ _).mono ?_; rintro e w4 ⟨rfl, hb4⟩; have HC4 := Lib.hid hb4; clear hb4)
            refine hK1.out _ _ ((hS).trans (HC4.out.mono (hS).size)) (fun hS1 => ?_)
            refine wpAnyH_ready (rs := [10]) (by kernel_rfl) (by simp) ?_
            refine AllReadyH.cons rfl (fun K2 hK2 => ?_) AllReadyH.nil
            rw [if_pos (by rfl)]
            simp only [lgT, lgZ, lgS]
            go_wp2_with (go_at_call 24; refine (HAT.out _ _ _ _ _ _ _ _ _ _).mono ?_; rintro e w5 ⟨rfl, hb5⟩; have HC5 := Lib.hid hb5; clear hb5)
            refine hK2.out _ _ ((hS1).trans (HC5.out.mono (hS1).size)) (fun hS2 => ?_)
            refine wpAnyH_ready (rs := [11]) (by kernel_rfl) (by simp) ?_
            refine AllReadyH.cons rfl (fun K3 hK3 => ?_) AllReadyH.nil
            rw [if_pos (by rfl)]
            simp only [lgT, lgZ, lgS]
            go_wp2_with (go_at_call 42; refine (HCM.out _).mono ?_; rintro e w6 ⟨rfl, hb6⟩; have HC6 := Lib.hid hb6; clear hb6)
            refine hK3.out _ _ ((hS2).trans (HC6.out.mono (hS2).size)) (fun hS3 => ?_)
            refine wpAnyH_take (i := 12) (v := .bool false) rfl (by kernel_rfl) (by kernel_rfl) (by kernel_rfl) (fun _ _ _ h => h) (Or.inl ⟨by rfl, fun W _ => by go_simp; try omega⟩) hS3 ?_
            simp only [lgT, lgZ, lgS, Act.put, lsT, lsZ, lsS]
            refine wpAnyH_take (i := 13) (v := .bool false) rfl (by kernel_rfl) (by kernel_rfl) (by kernel_rfl) (fun _ _ _ h => h) (Or.inl ⟨by simp [Region.wanted], fun W _ => by go_simp⟩) hS3 ?_
            simp only [lgT, lgZ, lgS, Act.put, lsT, lsZ, lsS]
            refine wpAnyH_take (i := 14) (v := .bool false) rfl (by kernel_rfl) (by kernel_rfl) (by kernel_rfl) (fun _ _ _ h => h) (Or.inl ⟨by simp [Region.wanted], fun W _ => by go_simp⟩) hS3 ?_
            simp only [lgT, lgZ, lgS, Act.put, lsT, lsZ, lsS]
            refine wpAnyH_take (i := 15) (v := .agg #[.int .i64 xl, .int .i64 xa, .int .i64 xb, .slice A1 z1 C1, .slice A2 z2 C2]) rfl (by kernel_rfl) (by kernel_rfl) (by kernel_rfl) (fun _ _ _ h => h) (yields_atD (by rfl) 59 (.tmp 4) rfl (.pointer (some ⟨gb, 0, none⟩)) _ rfl (fun W hW => HBX.out _ hW)) hS3 ?_
            simp only [lgT, lgZ, lgS, Act.put, lsT, lsZ, lsS]
            refine wpAnyH_ready (rs := [16]) (by kernel_rfl) (by simp) ?_
            refine AllReadyH.cons rfl (fun K4 hK4 => ?_) AllReadyH.nil
            rw [if_pos (by rfl)]
            simp only [lgT, lgZ, lgS]
            go_wp2_with (go_at_call 43; refine (HKM.out _).mono ?_; rintro e w7 ⟨rfl, hb7⟩; have HC7 := Lib.hid hb7; clear hb7)
            refine hK4.out _ _ ((hS3).trans (HC7.out.mono (hS3).size)) (fun hS4 => ?_)
            refine wpAnyH_take (i := 17) (v := .bool false) rfl (by kernel_rfl) (by kernel_rfl) (by kernel_rfl) (fun _ _ _ h => h) (Or.inl ⟨by rfl, fun W _ => by go_simp⟩) hS4 ?_
            simp only [lgT, lgZ, lgS, Act.put, lsT, lsZ, lsS]
            refine wpAnyH_take (i := 18) (v := .bool false) rfl (by kernel_rfl) (by kernel_rfl) (by kernel_rfl) (fun _ _ _ h => h) (Or.inl ⟨by simp [Region.wanted], fun W _ => by go_simp⟩) hS4 ?_
            simp only [lgT, lgZ, lgS, Act.put, lsT, lsZ, lsS]
            refine wpAnyH_take (i := 19) (v := .bool false) rfl (by kernel_rfl) (by kernel_rfl) (by kernel_rfl) (fun _ _ _ h => h) (Or.inl ⟨by simp [Region.wanted], fun W _ => by go_simp⟩) hS4 ?_
            simp only [lgT, lgZ, lgS, Act.put, lsT, lsZ, lsS]
            refine wpAnyH_take (i := 20) (v := .agg #[.int .i64 xl, .int .i64 xa, .int .i64 xb, .slice A1 z1 C1, .slice A2 z2 C2]) rfl (by kernel_rfl) (by kernel_rfl) (by kernel_rfl) (fun _ _ _ h => h) (yields_atD (by rfl) 59 (.tmp 4) rfl (.pointer (some ⟨gb, 0, none⟩)) _ rfl (fun W hW => HBX.out _ hW)) hS4 ?_
            simp only [lgT, lgZ, lgS, Act.put, lsT, lsZ, lsS]
            refine wpAnyH_ready (rs := [21]) (by kernel_rfl) (by simp) ?_
            refine AllReadyH.cons rfl (fun K5 hK5 => ?_) AllReadyH.nil
            rw [if_pos (by rfl)]
            simp only [lgT, lgZ, lgS]
            go_wp2_with (go_at_call 44; refine (HVM.out _ (HB3.out.trans ((hS4).mono HB3.out.size))).mono ?_; rintro e w8 ⟨rfl, hb8⟩; have HC8 := Lib.hid hb8; clear hb8)
            refine hK5.out _ _ ((hS4).trans (HC8.out.mono (hS4).size)) (fun hS5 => ?_)
            refine wpAnyH_take (i := 22) (v := .bool false) rfl (by kernel_rfl) (by kernel_rfl) (by kernel_rfl) (fun _ _ _ h => h) (Or.inl ⟨by rfl, fun W _ => by go_simp⟩) hS5 ?_
            simp only [lgT, lgZ, lgS, Act.put, lsT, lsZ, lsS]
            refine wpAnyH_take (i := 23) (v := .bool false) rfl (by kernel_rfl) (by kernel_rfl) (by kernel_rfl) (fun _ _ _ h => h) (Or.inl ⟨by simp [Region.wanted], fun W _ => by go_simp⟩) hS5 ?_
            simp only [lgT, lgZ, lgS, Act.put, lsT, lsZ, lsS]
            refine wpAnyH_done (by kernel_rfl) ?_ _
            go_wp2
            go_roundw
            case rel => exact ⟨j + 1 + 1, by go_num, hlt, HT.out, HB3.out.trans (hS5.mono HB3.out.size)⟩
            case measure => simp [intOf]; omega
      · have HF := Lib.hid (show R = false by
          rw [← HR.out]
          refine may_no (i := j + 1 + 1) (HST.out.trans ?_)
          have h : lessD pl pa pb xl xa xb = false := by rw [← Bool.not_eq_true, ← HZ.out]; exact hz
          rw [h]; rfl)
        have hz' : 0 ≤ Z := by omega
        refine wp_region_held_drew (S := fun W => Below W3.heap.size W3 W) (by kernel_rfl) ((Below.refl _ _).drew) (fun hS => ?_)
        refine wpAnyH_take (i := 0) (v := .int .i64 ((j + 1 : Nat) : Int)) rfl (by kernel_rfl) (by kernel_rfl) (by kernel_rfl) (fun _ _ _ h => h) (Or.inl ⟨by simp [Region.wanted], fun W _ => by go_simp⟩) hS ?_
        simp only [lgT, lgZ, Act.put, lsT, lsZ, lsS]
        refine wpAnyH_take (i := 1) (v := .bool true) rfl (by kernel_rfl) (by kernel_rfl) (by kernel_rfl) (fun _ _ _ h => h) (Or.inl ⟨by simp [Region.wanted], fun W _ => by go_simp; try omega⟩) hS ?_
        simp only [lgT, lgZ, lgS, Act.put, lsT, lsZ, lsS]
        refine wpAnyH_take (i := 2) (v := .bool true) rfl (by kernel_rfl) (by kernel_rfl) (by kernel_rfl) (fun _ _ _ h => h) (Or.inl ⟨by simp [Region.wanted], fun W _ => by go_simp⟩) hS ?_
        simp only [lgT, lgZ, lgS, Act.put, lsT, lsZ, lsS]
        refine wpAnyH_take (i := 3) (v := .slice (some ⟨g, o, none⟩) n c) rfl (by kernel_rfl) (by kernel_rfl) (by kernel_rfl) (fun _ _ _ h => h) (Or.inl ⟨by rfl, fun W _ => by go_simp⟩) hS ?_
        simp only [lgT, lgZ, lgS, Act.put, lsT, lsZ, lsS]
        refine wpAnyH_take (i := 4) (v := .int .i64 ((j + 1 : Nat) : Int)) rfl (by kernel_rfl) (by kernel_rfl) (by kernel_rfl) (fun _ _ _ h => h) (Or.inl ⟨by rfl, fun W _ => by go_simp⟩) hS ?_
        simp only [lgT, lgZ, lgS, Act.put, lsT, lsZ, lsS]
        refine wpAnyH_take (i := 5) (v := .int .i64 (j : Int)) rfl (by kernel_rfl) (by kernel_rfl) (by kernel_rfl) (fun _ _ _ h => h) (Or.inl ⟨by rfl, fun W _ => by go_simp⟩) hS ?_
        simp only [lgT, lgZ, lgS, Act.put, lsT, lsZ, lsS]
        refine wpAnyH_take (i := 6) (v := .pointer (some ⟨g, o + j * 5, none⟩)) rfl (by kernel_rfl) (by kernel_rfl) (by kernel_rfl) (fun _ _ _ h => h) (Or.inl ⟨by rfl, fun W _ => by go_simp⟩) hS ?_
        simp only [lgT, lgZ, lgS, Act.put, lsT, lsZ, lsS]
        refine wpAnyH_take (i := 7) (v := .agg #[.int .i64 pl, .int .i64 pa, .int .i64 pb, .slice P1 pv.length Q1, .slice P2 qv.length Q2]) rfl (by kernel_rfl) (by kernel_rfl) (by kernel_rfl) (fun _ _ _ h => h) (yields_atD (by rfl) 59 (.tmp 18) rfl (.pointer (some ⟨g, o + j * 5, none⟩)) _ rfl (fun W hW => HLY.out _ (HB3.out.trans (hW.mono HB3.out.size)))) hS ?_
        simp only [lgT, lgZ, lgS, Act.put, lsT, lsZ, lsS]
        refine wpAnyH_take (i := 9) (v := .agg #[.int .i64 xl, .int .i64 xa, .int .i64 xb, .slice A1 z1 C1, .slice A2 z2 C2]) rfl (by kernel_rfl) (by kernel_rfl) (by kernel_rfl) (fun _ _ _ h => h) (yields_atD (by rfl) 59 (.tmp 4) rfl (.pointer (some ⟨gb, 0, none⟩)) _ rfl (fun W hW => HBX.out _ hW)) hS ?_
        simp only [lgT, lgZ, lgS, Act.put, lsT, lsZ, lsS]
        refine wpAnyH_ready (rs := [8]) (by kernel_rfl) (by simp) ?_
        refine AllReadyH.cons rfl (fun K1 hK1 => ?_) AllReadyH.nil
        rw [if_pos (by rfl)]
        simp only [lgT, lgZ, lgS]
        go_wp2_with (go_at_call 24; refine (HAT.out _ _ _ _ _ _ _ _ _ _).mono ?_; rintro e w4 ⟨rfl, hb4⟩; have HC4 := Lib.hid hb4; clear hb4)
        refine hK1.out _ _ ((hS).trans (HC4.out.mono (hS).size)) (fun hS1 => ?_)
        refine wpAnyH_ready (rs := [10]) (by kernel_rfl) (by simp) ?_
        refine AllReadyH.cons rfl (fun K2 hK2 => ?_) AllReadyH.nil
        rw [if_pos (by rfl)]
        simp only [lgT, lgZ, lgS]
        go_wp2_with (go_at_call 24; refine (HAT.out _ _ _ _ _ _ _ _ _ _).mono ?_; rintro e w5 ⟨rfl, hb5⟩; have HC5 := Lib.hid hb5; clear hb5)
        refine hK2.out _ _ ((hS1).trans (HC5.out.mono (hS1).size)) (fun hS2 => ?_)
        refine wpAnyH_ready (rs := [11]) (by kernel_rfl) (by simp) ?_
        refine AllReadyH.cons rfl (fun K3 hK3 => ?_) AllReadyH.nil
        rw [if_pos (by rfl)]
        simp only [lgT, lgZ, lgS]
        go_wp2_with (go_at_call 42; refine (HCM.out _).mono ?_; rintro e w6 ⟨rfl, hb6⟩; have HC6 := Lib.hid hb6; clear hb6)
        refine hK3.out _ _ ((hS2).trans (HC6.out.mono (hS2).size)) (fun hS3 => ?_)
        refine wpAnyH_take (i := 12) (v := .bool true) rfl (by kernel_rfl) (by kernel_rfl) (by kernel_rfl) (fun _ _ _ h => h) (Or.inl ⟨by rfl, fun W _ => by go_simp; try omega⟩) hS3 ?_
        simp only [lgT, lgZ, lgS, Act.put, lsT, lsZ, lsS]
        refine wpAnyH_take (i := 13) (v := .bool true) rfl (by kernel_rfl) (by kernel_rfl) (by kernel_rfl) (fun _ _ _ h => h) (Or.inl ⟨by simp [Region.wanted], fun W _ => by go_simp⟩) hS3 ?_
        simp only [lgT, lgZ, lgS, Act.put, lsT, lsZ, lsS]
        refine wpAnyH_take (i := 14) (v := .bool true) rfl (by kernel_rfl) (by kernel_rfl) (by kernel_rfl) (fun _ _ _ h => h) (Or.inl ⟨by simp [Region.wanted], fun W _ => by go_simp⟩) hS3 ?_
        simp only [lgT, lgZ, lgS, Act.put, lsT, lsZ, lsS]
        refine wpAnyH_take (i := 15) (v := undef) rfl (by kernel_rfl) (by kernel_rfl) (by kernel_rfl) (fun _ _ _ h => h) (Or.inr ⟨by rfl, rfl⟩) hS3 ?_
        simp only [lgT, lgZ, lgS, Act.put, lsT, lsZ, lsS]
        refine wpAnyH_take (i := 16) (v := undef) rfl (by kernel_rfl) (by kernel_rfl) (by kernel_rfl) (fun _ _ _ h => h) (Or.inr ⟨by rfl, rfl⟩) hS3 ?_
        simp only [lgT, lgZ, lgS, Act.put, lsT, lsZ, lsS]
        refine wpAnyH_take (i := 17) (v := undef) rfl (by kernel_rfl) (by kernel_rfl) (by kernel_rfl) (fun _ _ _ h => h) (Or.inr ⟨by rfl, rfl⟩) hS3 ?_
        simp only [lgT, lgZ, lgS, Act.put, lsT, lsZ, lsS]
        refine wpAnyH_take (i := 18) (v := .bool true) rfl (by kernel_rfl) (by kernel_rfl) (by kernel_rfl) (fun _ _ _ h => h) (Or.inl ⟨by simp [Region.wanted], fun W _ => by go_simp⟩) hS3 ?_
        simp only [lgT, lgZ, lgS, Act.put, lsT, lsZ, lsS]
        refine wpAnyH_take (i := 19) (v := .bool true) rfl (by kernel_rfl) (by kernel_rfl) (by kernel_rfl) (fun _ _ _ h => h) (Or.inl ⟨by simp [Region.wanted], fun W _ => by go_simp⟩) hS3 ?_
        simp only [lgT, lgZ, lgS, Act.put, lsT, lsZ, lsS]
        refine wpAnyH_take (i := 20) (v := undef) rfl (by kernel_rfl) (by kernel_rfl) (by kernel_rfl) (fun _ _ _ h => h) (Or.inr ⟨by rfl, rfl⟩) hS3 ?_
        simp only [lgT, lgZ, lgS, Act.put, lsT, lsZ, lsS]
        refine wpAnyH_take (i := 21) (v := undef) rfl (by kernel_rfl) (by kernel_rfl) (by kernel_rfl) (fun _ _ _ h => h) (Or.inr ⟨by rfl, rfl⟩) hS3 ?_
        simp only [lgT, lgZ, lgS, Act.put, lsT, lsZ, lsS]
        refine wpAnyH_take (i := 22) (v := undef) rfl (by kernel_rfl) (by kernel_rfl) (by kernel_rfl) (fun _ _ _ h => h) (Or.inr ⟨by rfl, rfl⟩) hS3 ?_
        simp only [lgT, lgZ, lgS, Act.put, lsT, lsZ, lsS]
        refine wpAnyH_take (i := 23) (v := .bool true) rfl (by kernel_rfl) (by kernel_rfl) (by kernel_rfl) (fun _ _ _ h => h) (Or.inl ⟨by simp [Region.wanted], fun W _ => by go_simp⟩) hS3 ?_
        simp only [lgT, lgZ, lgS, Act.put, lsT, lsZ, lsS]
        refine wpAnyH_done (by kernel_rfl) ?_ _
        go_wp2
        go_ret
        exact ⟨ret_bool HF.out.symm, HB3.out.trans (hS3.mono HB3.out.size)⟩
end Go.Proofs.YtellifcjamedkaaGreat
