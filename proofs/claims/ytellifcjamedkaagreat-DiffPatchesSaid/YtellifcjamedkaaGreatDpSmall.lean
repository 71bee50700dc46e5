/- The library's Equal over numbers, Or over keys: contracts. -/
import Derived.Test.YtellifcjamedkaaGreatMEa
import Derived.Test.YtellifcjamedkaaGreatMCl
namespace Go.Proofs.YtellifcjamedkaaGreat
open Go.RowKit Base Base2
theorem eqIn_key (x y z x' y' z' : Int) (W : World) : (Op.equalIn 10000 56 (.agg #[.int .i64 x, .int .i64 y, .int .i64 z]) (.agg #[.int .i64 x', .int .i64 y', .int .i64 z'])).run Tryz.prog W = .ok (x == x' && (y == y' && z == z')) W := by
  have h2 : ∀ a b : Int, (Op.equalIn 9999 2 (.int .i64 a) (.int .i64 b)).run Tryz.prog W = .ok (a == b) W := fun a b => run_equalIn_int W 9998 2 .i64 .i64 a b Tryz.underlying2
  rw [Op.equalIn]
  simp [run_underlying Tryz.underlying56, Tryz.sizeOf2, Result.andThen, Std.Legacy.Range.forIn_eq_forIn_range', List.range', part, h2, Tryz.isAgg2]
  cases hx : (x == x') <;> cases hy : (y == y') <;> cases hz : (z == z') <;> simp_all
theorem neq_key1 (x y z : Int) (h : x ≠ 0) (W : World) : (binOp .neq 56 (.agg #[.int .i64 x, .int .i64 y, .int .i64 z]) (.agg #[.int .i64 0, .int .i64 0, .int .i64 0])).run Tryz.prog W = .ok (.bool true) W := by
  have e : (x == 0) = false := by rw [beq_eq_false_iff_ne]; exact h
  rw [run_neq_struct, eqIn_key, e]; simp [Result.andThen]
theorem neq_key0 (W : World) : (binOp .neq 56 (.agg #[.int .i64 0, .int .i64 0, .int .i64 0]) (.agg #[.int .i64 0, .int .i64 0, .int .i64 0])).run Tryz.prog W = .ok (.bool false) W := by
  rw [run_neq_struct, eqIn_key]; simp [Result.andThen]
set_option maxRecDepth 100000 in
set_option maxHeartbeats 8000000 in
theorem equalI (a u : Option Addr) (c d : Nat) (A B : List Int) (w : World) (ha : I64s w a A) (hb : I64s w u B) (hA : A.length ≤ 100000) :
    Calls Tryz.prog 23 #[.slice a A.length c, .slice u B.length d] w fun e w' => e = .returned (.bool (A == B)) ∧ ∃ m, w' = w.drewN m := by
  obtain ⟨R, hR⟩ : ∃ R, (A == B) = R := ⟨_, rfl⟩
  have HR := Lib.hid hR
  have HA := Lib.hid ha
  have HB := Lib.hid hb
  rw [hR]
  clear hR ha hb
  obtain ⟨n, hn⟩ : ∃ n, A.length = n := ⟨_, rfl⟩
  obtain ⟨k, hk⟩ : ∃ k, B.length = k := ⟨_, rfl⟩
  have HN := Lib.hid hn
  have HK := Lib.hid hk
  rw [hn] at hA ⊢
  rw [hk]
  clear hn hk
  by_cases hnk : n = k
  · subst hnk
    go_enter Tryz.func23, Tryz.ntmps23
    go_wp2
    go_loopw [13] (fun vi W => ∃ i m : Nat, vi = .int .i64 (i : Int) ∧ i ≤ n ∧ (∀ j, j < i → A[j]? = B[j]?) ∧ W = w.drewN m) (fun vi _ => n - (intOf vi).toNat)
    case atStart => exact ⟨0, 0, rfl, Nat.zero_le _, fun j h => absurd h (Nat.not_lt_zero _), rfl⟩
    case round =>
      obtain ⟨i, m, rfl, hi, he, hw⟩ := hrel
      have HE := Lib.hid he
      clear he
      subst hw
      by_cases hlt : i < n
      · obtain ⟨x, hx⟩ : ∃ x, A[i]? = some x := ⟨A[i]'(by have := HN.out; omega), by simp [show i < A.length by have := HN.out; omega]⟩
        obtain ⟨y, hy⟩ : ∃ y, B[i]? = some y := ⟨B[i]'(by have := HK.out; omega), by simp [show i < B.length by have := HK.out; omega]⟩
        obtain ⟨g, o, rfl, k1⟩ : ∃ g o, a = some ⟨g, o, none⟩ ∧ w.cell? ⟨g, o + i, none⟩ = some (.int .i64 x) := by
          rcases HA.out with h | ⟨g, o, h1, _, h3⟩
          · rw [h] at hx; cases hx
          · exact ⟨g, o, h1, h3 i x hx⟩
        obtain ⟨g2, o2, rfl, k2⟩ : ∃ g o, u = some ⟨g, o, none⟩ ∧ w.cell? ⟨g, o + i, none⟩ = some (.int .i64 y) := by
          rcases HB.out with h | ⟨g, o, h1, _, h3⟩
          · rw [h] at hy; cases hy
          · exact ⟨g, o, h1, h3 i y hy⟩
        have k3 : (w.drewN m).drew.cell? ⟨g, o + i, none⟩ = some (.int .i64 x) := k1
        have k4 : (w.drewN m).drew.cell? ⟨g2, o2 + i, none⟩ = some (.int .i64 y) := k2
        have HX := Lib.hid hx
        have HY := Lib.hid hy
        clear hx hy
        by_cases hxy : x = y
        · have g1 : (x != y) = false := by simpa using hxy
          have HXY := Lib.hid hxy
          clear hxy
          go_wp2
          go_region
          go_wp2
          go_roundw
          case rel => exact ⟨i + 1, m + 1, by go_num, hlt, fun j hj => (Nat.lt_succ_iff_lt_or_eq.1 hj).elim (HE.out j) (fun e => by rw [e, HX.out, HY.out, HXY.out]), rfl⟩
          case measure => simp [intOf]; omega
        · have g1 : (x != y) = true := by simpa using hxy
          have HXY := Lib.hid (show R = false by rw [← HR.out, beq_eq_false_iff_ne]; intro e; subst e; rw [HX.out] at HY; exact hxy (Option.some.inj HY.out))
          clear hxy
          go_wp2
          go_region
          go_wp2
          go_ret
          exact ⟨ret_bool HXY.out.symm, m + 1, rfl⟩
      · have HXY := Lib.hid (show R = true by
          rw [← HR.out, beq_iff_eq]
          refine List.ext_getElem? fun j => ?_
          by_cases hj : j < i
          · exact HE.out j hj
          · rw [List.getElem?_eq_none (by have := HN.out; omega), List.getElem?_eq_none (by have := HK.out; omega)])
        go_wp2
        go_ret
        exact ⟨ret_bool HXY.out.symm, m, rfl⟩
  · have g1 : ((n : Int) != (k : Int)) = true := by simp; omega
    have HXY := Lib.hid (show R = false by rw [← HR.out, beq_eq_false_iff_ne]; intro e; subst e; exact hnk (HN.out.symm.trans HK.out))
    go_enter Tryz.func23, Tryz.ntmps23
    go_wp2
    go_ret
    exact ⟨ret_bool HXY.out.symm, 0, rfl⟩
set_option maxRecDepth 100000 in
set_option maxHeartbeats 8000000 in
theorem orFirst (g : Nat) (l a b m c d : Int) (hl : l ≠ 0) (w : World) (hg : w.heap[g]? = some (.cells #[.int .i64 l, .int .i64 a, .int .i64 b, .int .i64 m, .int .i64 c, .int .i64 d] 56 (0, 0))) :
    Calls Tryz.prog 38 #[.slice (some ⟨g, 0, none⟩) 2 2] w fun e w' => e = .returned (.agg #[.int .i64 l, .int .i64 a, .int .i64 b]) ∧ Below w.heap.size w w' := by
  have HG := Lib.hid hg
  have hn0 := neq_key0
  have hn1 := fun W => neq_key1 l a b hl W
  obtain ⟨W0, hW0⟩ : ∃ x, ((w.alloc (.cells #[.int .i64 0, .int .i64 0, .int .i64 0] 56)).alloc (.cells #[.int .i64 0, .int .i64 0, .int .i64 0] 56)) = x := ⟨_, rfl⟩
  have h1 := (two_new (W := w) (O := .cells #[.int .i64 0, .int .i64 0, .int .i64 0] 56) (P := .cells #[.int .i64 0, .int .i64 0, .int .i64 0] 56))
  have h2 : Below w.heap.size w ((w.alloc (.cells #[.int .i64 0, .int .i64 0, .int .i64 0] 56)).alloc (.cells #[.int .i64 0, .int .i64 0, .int .i64 0] 56)) := ((Below.refl _ w).alloc (Nat.le_refl _) _).alloc (by simp) _
  have h3 : W0.heap.size = w.heap.size + 2 := by rw [← hW0]; simp
  rw [hW0] at h1 h2
  have H1 := Lib.hid h1
  have H2 := Lib.hid h2
  have H3 := Lib.hid h3
  clear hl hg h1 h2 h3
  go_enter Tryz.func38, Tryz.ntmps38
  go_wp2
  go_loopw [8] (fun vi W => ∃ i : Nat, vi = .int .i64 (i : Int) ∧ i ≤ 0 ∧ Below W0.heap.size W0 W) (fun vi _ => 1 - (intOf vi).toNat)
  case atStart => exact ⟨0, rfl, Nat.zero_le _, Below.refl _ _⟩
  case round =>
    obtain ⟨i, rfl, hi, hb⟩ := hrel
    have HBB := Lib.hid (H2.out.trans (hb.mono (by have := H3.out; omega)))
    have hr0 := (hb.block w.heap.size (by have := H3.out; omega)).trans H1.out.1
    have hz0 := (hb.block (w.heap.size + 1) (by have := H3.out; omega)).trans H1.out.2
    have hgg := (HBB.out.block g (lt_of_blk HG.out)).trans HG.out
    have HB := Lib.hid hb
    have HSZ := Lib.hid (show w.heap.size + 2 ≤ wr.heap.size by have := H3.out; have := hb.size; omega)
    obtain rfl : i = 0 := by omega
    have hbl := (Below.refl _ wr).alloc (Nat.le_refl _) (.cells #[.int .i64 l, .int .i64 a, .int .i64 b] 56)
    have e0 : wr.cell? ⟨g, 0, none⟩ = some (.int .i64 l) := by rw [cell_of_row _ _ _ _ _ _ hgg]; rfl
    have e1 : wr.cell? ⟨g, 1, none⟩ = some (.int .i64 a) := by rw [cell_of_row _ _ _ _ _ _ hgg]; rfl
    have e2 : wr.cell? ⟨g, 2, none⟩ = some (.int .i64 b) := by rw [cell_of_row _ _ _ _ _ _ hgg]; rfl
    have z0 : (wr.alloc (.cells #[.int .i64 l, .int .i64 a, .int .i64 b] 56)).cell? ⟨w.heap.size + 1, 0, none⟩ = some (.int .i64 0) := by rw [cell_of_row _ _ _ _ _ _ ((hbl.block _ (lt_of_blk hz0)).trans hz0)]; rfl
    have z1 : (wr.alloc (.cells #[.int .i64 l, .int .i64 a, .int .i64 b] 56)).cell? ⟨w.heap.size + 1, 1, none⟩ = some (.int .i64 0) := by rw [cell_of_row _ _ _ _ _ _ ((hbl.block _ (lt_of_blk hz0)).trans hz0)]; rfl
    have z2 : (wr.alloc (.cells #[.int .i64 l, .int .i64 a, .int .i64 b] 56)).cell? ⟨w.heap.size + 1, 2, none⟩ = some (.int .i64 0) := by rw [cell_of_row _ _ _ _ _ _ ((hbl.block _ (lt_of_blk hz0)).trans hz0)]; rfl
    have HR5 := Lib.hid ((hbl.block _ (lt_of_blk hr0)).trans hr0)
    have HBL := Lib.hid (show Below w.heap.size w (wr.alloc (.cells #[.int .i64 l, .int .i64 a, .int .i64 b] 56)) from HBB.out.trans (hbl.mono (by have := HSZ.out; omega)))
    clear hbl hr0 hz0 hgg hb
    go_wp2_with ((with_reducible refine atStore (ty := 56) (x := .tmp 2) (y := .tmp 15) rfl ?_); refine wpList_store_row rfl 56 (.tmp 2) (.tmp 15) rfl w.heap.size #[.int .i64 l, .int .i64 a, .int .i64 b] rfl rfl 56 #[.int .i64 0, .int .i64 0, .int .i64 0] HR5.out infoKey rfl (by simp [Value.oneCell']) ?_)
    refine ret_cell rfl rfl rfl (setRow_heap _ _ _ _ _ _ HR5.out) Tryz.underlying56 rfl infoKey ?_
    exact ⟨rfl, below_row1 HBL.out (Nat.le_refl _)⟩
set_option maxRecDepth 100000 in
set_option maxHeartbeats 8000000 in
theorem orSecond (g : Nat) (m c d : Int) (hm : m ≠ 0) (w : World) (hg : w.heap[g]? = some (.cells #[.int .i64 0, .int .i64 0, .int .i64 0, .int .i64 m, .int .i64 c, .int .i64 d] 56 (0, 0))) :
    Calls Tryz.prog 38 #[.slice (some ⟨g, 0, none⟩) 2 2] w fun e w' => e = .returned (.agg #[.int .i64 m, .int .i64 c, .int .i64 d]) ∧ Below w.heap.size w w' := by
  have HG := Lib.hid hg
  have hn0 := neq_key0
  have hn1 := fun W => neq_key1 m c d hm W
  obtain ⟨W0, hW0⟩ : ∃ x, ((w.alloc (.cells #[.int .i64 0, .int .i64 0, .int .i64 0] 56)).alloc (.cells #[.int .i64 0, .int .i64 0, .int .i64 0] 56)) = x := ⟨_, rfl⟩
  have h1 := (two_new (W := w) (O := .cells #[.int .i64 0, .int .i64 0, .int .i64 0] 56) (P := .cells #[.int .i64 0, .int .i64 0, .int .i64 0] 56))
  have h2 : Below w.heap.size w ((w.alloc (.cells #[.int .i64 0, .int .i64 0, .int .i64 0] 56)).alloc (.cells #[.int .i64 0, .int .i64 0, .int .i64 0] 56)) := ((Below.refl _ w).alloc (Nat.le_refl _) _).alloc (by simp) _
  have h3 : W0.heap.size = w.heap.size + 2 := by rw [← hW0]; simp
  rw [hW0] at h1 h2
  have H1 := Lib.hid h1
  have H2 := Lib.hid h2
  have H3 := Lib.hid h3
  clear hm hg h1 h2 h3
  go_enter Tryz.func38, Tryz.ntmps38
  go_wp2
  go_loopw [8] (fun vi W => ∃ i : Nat, vi = .int .i64 (i : Int) ∧ i ≤ 1 ∧ Below W0.heap.size W0 W) (fun vi _ => 1 - (intOf vi).toNat)
  case atStart => exact ⟨0, rfl, Nat.zero_le _, Below.refl _ _⟩
  case round =>
    obtain ⟨i, rfl, hi, hb⟩ := hrel
    have HBB := Lib.hid (H2.out.trans (hb.mono (by have := H3.out; omega)))
    have hr0 := (hb.block w.heap.size (by have := H3.out; omega)).trans H1.out.1
    have hz0 := (hb.block (w.heap.size + 1) (by have := H3.out; omega)).trans H1.out.2
    have hgg := (HBB.out.block g (lt_of_blk HG.out)).trans HG.out
    have HB := Lib.hid hb
    have HSZ := Lib.hid (show w.heap.size + 2 ≤ wr.heap.size by have := H3.out; have := hb.size; omega)
    by_cases h0 : i = 0
    · subst h0
      have hbl := (Below.refl _ wr).alloc (Nat.le_refl _) (.cells #[.int .i64 0, .int .i64 0, .int .i64 0] 56)
      have e0 : wr.cell? ⟨g, 0, none⟩ = some (.int .i64 0) := by rw [cell_of_row _ _ _ _ _ _ hgg]; rfl
      have e1 : wr.cell? ⟨g, 1, none⟩ = some (.int .i64 0) := by rw [cell_of_row _ _ _ _ _ _ hgg]; rfl
      have e2 : wr.cell? ⟨g, 2, none⟩ = some (.int .i64 0) := by rw [cell_of_row _ _ _ _ _ _ hgg]; rfl
      have z0 : (wr.alloc (.cells #[.int .i64 0, .int .i64 0, .int .i64 0] 56)).cell? ⟨w.heap.size + 1, 0, none⟩ = some (.int .i64 0) := by rw [cell_of_row _ _ _ _ _ _ ((hbl.block _ (lt_of_blk hz0)).trans hz0)]; rfl
      have z1 : (wr.alloc (.cells #[.int .i64 0, .int .i64 0, .int .i64 0] 56)).cell? ⟨w.heap.size + 1, 1, none⟩ = some (.int .i64 0) := by rw [cell_of_row _ _ _ _ _ _ ((hbl.block _ (lt_of_blk hz0)).trans hz0)]; rfl
      have z2 : (wr.alloc (.cells #[.int .i64 0, .int .i64 0, .int .i64 0] 56)).cell? ⟨w.heap.size + 1, 2, none⟩ = some (.int .i64 0) := by rw [cell_of_row _ _ _ _ _ _ ((hbl.block _ (lt_of_blk hz0)).trans hz0)]; rfl
      have HBL := Lib.hid (HB.out.trans (hbl.mono HB.out.size))
      clear hbl hr0 hz0 hgg hb
      go_wp2
      go_roundw
      case rel => exact ⟨1, by go_num, by omega, HBL.out⟩
      case measure => simp [intOf]
    · obtain rfl : i = 1 := by omega
      have hbl := (Below.refl _ wr).alloc (Nat.le_refl _) (.cells #[.int .i64 m, .int .i64 c, .int .i64 d] 56)
      have e0 : wr.cell? ⟨g, 3, none⟩ = some (.int .i64 m) := by rw [cell_of_row _ _ _ _ _ _ hgg]; rfl
      have e1 : wr.cell? ⟨g, 4, none⟩ = some (.int .i64 c) := by rw [cell_of_row _ _ _ _ _ _ hgg]; rfl
      have e2 : wr.cell? ⟨g, 5, none⟩ = some (.int .i64 d) := by rw [cell_of_row _ _ _ _ _ _ hgg]; rfl
      have z0 : (wr.alloc (.cells #[.int .i64 m, .int .i64 c, .int .i64 d] 56)).cell? ⟨w.heap.size + 1, 0, none⟩ = some (.int .i64 0) := by rw [cell_of_row _ _ _ _ _ _ ((hbl.block _ (lt_of_blk hz0)).trans hz0)]; rfl
      have z1 : (wr.alloc (.cells #[.int .i64 m, .int .i64 c, .int .i64 d] 56)).cell? ⟨w.heap.size + 1, 1, none⟩ = some (.int .i64 0) := by rw [cell_of_row _ _ _ _ _ _ ((hbl.block _ (lt_of_blk hz0)).trans hz0)]; rfl
      have z2 : (wr.alloc (.cells #[.int .i64 m, .int .i64 c, .int .i64 d] 56)).cell? ⟨w.heap.size + 1, 2, none⟩ = some (.int .i64 0) := by rw [cell_of_row _ _ _ _ _ _ ((hbl.block _ (lt_of_blk hz0)).trans hz0)]; rfl
      have HR5 := Lib.hid ((hbl.block _ (lt_of_blk hr0)).trans hr0)
      have HBL := Lib.hid (show Below w.heap.size w (wr.alloc (.cells #[.int .i64 m, .int .i64 c, .int .i64 d] 56)) from HBB.out.trans (hbl.mono (by have := HSZ.out; omega)))
      clear hbl hr0 hz0 hgg hb
      go_wp2_with ((with_reducible refine atStore (ty := 56) (x := .tmp 2) (y := .tmp 15) rfl ?_); refine wpList_store_row rfl 56 (.tmp 2) (.tmp 15) rfl w.heap.size #[.int .i64 m, .int .i64 c, .int .i64 d] rfl rfl 56 #[.int .i64 0, .int .i64 0, .int .i64 0] HR5.out infoKey rfl (by simp [Value.oneCell']) ?_)
      refine ret_cell rfl rfl rfl (setRow_heap _ _ _ _ _ _ HR5.out) Tryz.underlying56 rfl infoKey ?_
      exact ⟨rfl, below_row1 HBL.out (Nat.le_refl _)⟩
end Go.Proofs.YtellifcjamedkaaGreat
