/- The product of two great numbers: the contract of the document's Mul. -/
import Derived.Test.YtmndkbfjmamnfaaMoneyAdd
namespace Go.Proofs.Ytmndkbfjmamnfaa
open Go.RowKit Base

theorem made_zero (L : Nat) : madeCells #[.int .i64 0] L = (cellsD (List.replicate L 0)).toArray := by
  apply Array.ext'
  simp [madeCells, cellsD, List.map_replicate]
  rw [List.eq_replicate_iff]
  refine ⟨by simp, fun b hb => ?_⟩
  obtain ⟨i, _, rfl⟩ := List.mem_map.1 hb
  simp [Nat.mod_one]
theorem make23 (L : Nat) (h : L ≤ 100000) (W : World) : (Instr.makeSlice 69 (.int .i64 (L : Int)) (.int .i64 (L : Int))).run Try.prog W = .ok (.slice (some ⟨W.heap.size, 0, none⟩) L L) (W.alloc (.cells (cellsD (List.replicate L 0)).toArray 3)) := by
  obtain ⟨i0, hi, hz0, hz1, hz2⟩ := info_parts info3
  have := run_make (P := Try.prog) W 69 3 i0 (.int .i64 0) Try.underlying69 hi hz0 .i64 .i64 (L : Int) (L : Int) (by omega) (by omega) (by rw [hz2]; omega) (by omega)
  rw [this, hz1, Int.toNat_natCast, Nat.mul_one]
  show Result.ok _ (W.alloc (.cells (madeCells #[.int .i64 0] L) 3)) = _
  rw [made_zero]
theorem cellsD_set (l : List Nat) (k v : Nat) : (cellsD l).toArray.setIfInBounds k (.int .i64 (v : Int)) = (cellsD (l.set k v)).toArray := by
  apply Array.ext'
  simp [cellsD, List.map_set]
/-- Digits in a block of their own. -/
def RowAt (W : World) (g : Nat) (l : List Nat) : Prop := W.heap[g]? = some (.cells (cellsD l).toArray 3 (0, 0))
theorem RowAt.cell {W : World} {g : Nat} {l : List Nat} (h : RowAt W g l) {i : Nat} (hi : i < l.length) : W.cell? ⟨g, i, none⟩ = some (.int .i64 ((l.getD i 0 : Nat) : Int)) := by
  rw [cell_of_row _ _ _ _ 3 (0, 0) h, List.getElem?_toArray]
  unfold cellsD
  rw [List.getElem?_map, getD_some hi]; rfl
theorem RowAt.set {W : World} {g : Nat} {l : List Nat} (h : RowAt W g l) (i v : Nat) : RowAt (W.setCell ⟨g, i, none⟩ (.int .i64 (v : Int))) g (l.set i v) := by
  have := set_blkN h i (.int .i64 (v : Int))
  rw [cellsD_set] at this
  exact this
theorem RowAt.digs {W : World} {g : Nat} {l : List Nat} (h : RowAt W g l) : DigsAt W (some ⟨g, 0, none⟩) l := by
  refine .inr ⟨g, 0, rfl, lt_of_block h, fun i d hd => ?_⟩
  have hi := (List.getElem?_eq_some_iff.1 hd).1
  have := h.cell hi
  rw [List.getD_eq_getElem?_getD, hd] at this
  rw [Nat.zero_add]; exact this
theorem RowAt.below {W W' : World} {g : Nat} {l : List Nat} (h : RowAt W g l) (hb : Below W.heap.size W W') : RowAt W' g l := (hb.block _ (lt_of_block h)).trans h
/-- The boxes of a product. -/
def MulW (B g gd : Nat) (w : World) (x y z : Bool) (u v o : Value) (out : List Nat) (W : World) : Prop :=
  BoxAt W B x u ∧ BoxAt W (B + 1) y v ∧ BoxAt W (B + 1 + 1) false (.slice none 0 0) ∧ BoxAt W g z o ∧ RowAt W gd out ∧ Below B w W
theorem MulW.below {B g gd : Nat} {w : World} {x y z : Bool} {u v o : Value} {out : List Nat} {W W' : World} (h : MulW B g gd w x y z u v o out W) (hB : B = w.heap.size) (hb : Below W.heap.size W W') : MulW B g gd w x y z u v o out W' :=
  ⟨h.1.below hb, h.2.1.below hb, h.2.2.1.below hb, h.2.2.2.1.below hb, h.2.2.2.2.1.below hb, bB hB h.2.2.2.2.2 hb⟩
theorem MulW.lo {B g gd : Nat} {w : World} {x y z : Bool} {u v o : Value} {out : List Nat} {W : World} (h : MulW B g gd w x y z u v o out W) : Below B w W := h.2.2.2.2.2
theorem box_ne_row {W : World} {g gd : Nat} {b : Bool} {v : Value} {l : List Nat} (h : BoxAt W g b v) (hr : RowAt W gd l) : g ≠ gd := by
  rintro rfl
  unfold BoxAt at h
  unfold RowAt at hr
  rw [h] at hr
  simp at hr
theorem MulW.set {B g gd : Nat} {w : World} {x y z : Bool} {u v o : Value} {out : List Nat} {W : World} (h : MulW B g gd w x y z u v o out W) (hgd : B ≤ gd) (i d : Nat) : MulW B g gd w x y z u v o (out.set i d) (W.setCell ⟨gd, i, none⟩ (.int .i64 (d : Int))) :=
  ⟨h.1.other (box_ne_row h.1 h.2.2.2.2.1), h.2.1.other (box_ne_row h.2.1 h.2.2.2.2.1), h.2.2.1.other (box_ne_row h.2.2.1 h.2.2.2.2.1), h.2.2.2.1.other (box_ne_row h.2.2.2.1 h.2.2.2.2.1), h.2.2.2.2.1.set i d, h.2.2.2.2.2.setCell (p := ⟨gd, i, none⟩) hgd _⟩
/-- One place of a product. -/
theorem mul_step {la lb out : List Nat} {i j c V0 : Nat} (hL : i + j < out.length) (hg : digsD out) (da : digsD la) (db : digsD lb) (hc : c < 10000) (h : valD out + 10000 ^ (i + j) * c = V0 + 10000 ^ i * la.getD i 0 * valD (lb.take j)) :
    digsD (out.set (i + j) ((out.getD (i + j) 0 + la.getD i 0 * lb.getD j 0 + c) % 10000)) ∧ (out.getD (i + j) 0 + la.getD i 0 * lb.getD j 0 + c) / 10000 < 10000 ∧
      valD (out.set (i + j) ((out.getD (i + j) 0 + la.getD i 0 * lb.getD j 0 + c) % 10000)) + 10000 ^ (i + (j + 1)) * ((out.getD (i + j) 0 + la.getD i 0 * lb.getD j 0 + c) / 10000) = V0 + 10000 ^ i * la.getD i 0 * valD (lb.take (j + 1)) := by
  have h1 := digsD_getD da i
  have h2 := digsD_getD db j
  have h3 := digsD_getD hg (i + j)
  have hs := valD_set hL ((out.getD (i + j) 0 + la.getD i 0 * lb.getD j 0 + c) % 10000)
  have hp : la.getD i 0 * lb.getD j 0 ≤ 9999 * 9999 := Nat.mul_le_mul (by omega) (by omega)
  rw [valD_take_succ, Nat.mul_add, ← Nat.mul_assoc (10000 ^ i * la.getD i 0) (10000 ^ j)]
  have e : 10000 ^ i * la.getD i 0 * 10000 ^ j * lb.getD j 0 = 10000 ^ (i + j) * (la.getD i 0 * lb.getD j 0) := by
    rw [Nat.pow_add, Nat.mul_assoc (10000 ^ i * la.getD i 0), Nat.mul_assoc (10000 ^ i), Nat.mul_assoc (10000 ^ i), Nat.mul_left_comm (la.getD i 0)]
  rw [e]
  generalize out.getD (i + j) 0 = t at *
  generalize la.getD i 0 * lb.getD j 0 = p at *
  have hq : (t + p + c) / 10000 < 10000 := by omega
  refine ⟨digsD_set hg _ _ (by omega), hq, ?_⟩
  have hm := congrArg (fun u => 10000 ^ (i + j) * u) (Nat.mod_add_div (t + p + c) 10000)
  simp only [Nat.mul_add] at hm
  rw [show i + (j + 1) = (i + j) + 1 by omega, Nat.pow_succ, Nat.mul_assoc (10000 ^ (i + j)) 10000]
  omega
theorem mul_row {la lb out : List Nat} {i c : Nat} (da : digsD la) (db : digsD lb) (h : valD out + 10000 ^ (i + (lb.length + 1)) * c = valD (la.take i) * valD lb + 10000 ^ i * la.getD i 0 * valD (lb.take (lb.length + 1))) :
    valD out = valD (la.take (i + 1)) * valD lb := by
  rw [valD_take_all lb (by omega), ← Nat.add_mul, ← valD_take_succ] at h
  have t1 := valD_lt (digsD_take da (i + 1))
  have t2 := valD_lt db
  have l1 : 10000 ^ (la.take (i + 1)).length ≤ 10000 ^ (i + 1) := Nat.pow_le_pow_right (by omega) (by simp; omega)
  have hlt : valD (la.take (i + 1)) * valD lb < 10000 ^ (i + (lb.length + 1)) := by
    rw [show i + (lb.length + 1) = (i + 1) + lb.length by omega, Nat.pow_add]
    exact Nat.mul_lt_mul'' (by omega) t2
  rcases Nat.eq_zero_or_pos c with rfl | hc
  · omega
  · have := Nat.le_mul_of_pos_right (10000 ^ (i + (lb.length + 1))) hc
    omega
/-- What stands while the product's row is made. -/
def MS (B : Nat) (w : World) (x y : Bool) (u v : Value) (W : World) : Prop := BoxAt W B x u ∧ BoxAt W (B + 1) y v ∧ BoxAt W (B + 1 + 1) false (.slice none 0 0) ∧ Below B w W
theorem MS.alloc {B : Nat} {w : World} {x y : Bool} {u v : Value} {W : World} (h : MS B w x y u v W) (hB : B = w.heap.size) (o : Obj) : MS B w x y u v (W.alloc o) := by
  have hb := (Below.refl W.heap.size W).alloc (Nat.le_refl _) o
  exact ⟨h.1.below hb, h.2.1.below hb, h.2.2.1.below hb, bB hB h.2.2.2 hb⟩
theorem MS.drew {B : Nat} {w : World} {x y : Bool} {u v : Value} {W : World} (h : MS B w x y u v W) : MS B w x y u v W.drew := ⟨h.1, h.2.1, h.2.2.1, h.2.2.2.drew⟩
theorem MS.made {B g gd : Nat} {w : World} {x y : Bool} {u v : Value} {W : World} {l : List Nat} (h : MS B w x y u v W) (hb : BoxAt W g false (.slice none 0 0)) (hr : RowAt W gd l) (hg : B + 1 + 1 < g) (sg : Bool) (L : Nat) :
    MulW B g gd w x y sg u v (.slice (some ⟨gd, 0, none⟩) L L) l (W.setRow g #[.bool sg, .slice (some ⟨gd, 0, none⟩) L L]) := by
  have k : ∀ {q : Nat}, q ≠ g → (W.setRow g #[.bool sg, .slice (some ⟨gd, 0, none⟩) L L]).heap[q]? = W.heap[q]? := fun hq => by rw [setRow_other _ _ _ _ hq]
  exact ⟨(k (by omega)).trans h.1, (k (by omega)).trans h.2.1, (k (by omega)).trans h.2.2.1, setRow_heap _ _ _ _ 71 (0, 0) hb, (k (box_ne_row hb hr).symm).trans hr, below_rowB h.2.2.2 (by omega)⟩
theorem MulW.ms {B g gd : Nat} {w : World} {x y z : Bool} {u v o : Value} {out : List Nat} {W : World} (h : MulW B g gd w x y z u v o out W) : MS B w x y u v W := ⟨h.1, h.2.1, h.2.2.1, h.2.2.2.2.2⟩
theorem digs_at {W : World} {b o : Nat} {l : List Nat} (h : DigsAt W (some ⟨b, o, none⟩) l) {i : Nat} (hi : i < l.length) : W.cell? ⟨b, o + i, none⟩ = some (.int .i64 ((l.getD i 0 : Nat) : Int)) := by
  obtain ⟨b', o', e, _, hc⟩ := h.some (by omega)
  simp only [Option.some.injEq, Addr.mk.injEq, and_true] at e
  obtain ⟨rfl, rfl⟩ := e
  exact hc i _ (getD_some hi)
theorem sgn_mul (x y : Bool) (a b : Nat) : sgn (x != y) (a * b) = sgn x a * sgn y b := by
  cases x <;> cases y <;> simp [sgn, Int.neg_mul, Int.mul_neg]

set_option maxRecDepth 100000 in
set_option maxHeartbeats 1000000 in
theorem mul15 (v1 v2 : Value) (z1 z2 : Int) (w : World) (h1 : BigIs w v1 z1) (h2 : BigIs w v2 z2) (hz1 : z1.natAbs < 10000 ^ 100) (hz2 : z2.natAbs < 10000 ^ 100) :
    Calls Try.prog 37 #[v1, v2] w fun e w' => RetBig w.heap.size w (z1 * z2) e w' := by
  obtain ⟨x, a, la, ca, rfl, hda, hca, hga, hta, hxa, hz1e⟩ := h1
  obtain ⟨y, b, lb, cb, rfl, hdb, hcb, hgb, htb, hxb, hz2e⟩ := h2
  have hn : la.length ≤ 100 := len_le hta 100 (by rw [hz1e] at hz1; cases x <;> simpa [sgn] using hz1)
  have hm : lb.length ≤ 100 := len_le htb 100 (by rw [hz2e] at hz2; cases y <;> simpa [sgn] using hz2)
  obtain ⟨n, hla⟩ : ∃ n, la.length = n := ⟨_, rfl⟩
  obtain ⟨m, hlb⟩ : ∃ n, lb.length = n := ⟨_, rfl⟩
  rw [hla] at hn hca ⊢
  rw [hlb] at hm hcb ⊢
  obtain ⟨B, hB⟩ : ∃ B, B = w.heap.size := ⟨_, rfl⟩
  rw [← hB]
  have HDA := Lib.hid (fun (W : World) (hb : Below B w W) => hda.below' hB hb)
  have HBB := Lib.hid (fun (i : Nat) (W : World) (hb : Below B w W) => at25q b lb m cb i W hlb (hdb.below' hB hb))
  have HGA := Lib.hid hga; have HGB := Lib.hid hgb; have HLA := Lib.hid hla; have HLB := Lib.hid hlb
  have HZ1 := Lib.hid hz1e; have HZ2 := Lib.hid hz2e
  have HB := Lib.hid hB
  have HTR := Lib.hid (fun (z : Bool) (c : Option Addr) (l : List Nat) (k cap : Nat) (W : World) => trimB z c l k cap W)
  obtain ⟨L, hL⟩ : ∃ L : Nat, (n : Int) + (m : Int) + 1 = (L : Int) := ⟨n + m + 1, by omega⟩
  have hL2 : L = n + m + 1 := by omega
  have HL := Lib.hid hL2
  have hL3 : L ≤ 300 := by omega
  have HMK := Lib.hid (make23 L (by omega))
  obtain ⟨sg, hsg⟩ : ∃ s, (x == y) = !s := ⟨!(x == y), by simp⟩
  have HSG := Lib.hid hsg
  clear hda hdb hga hgb hta htb hxa hxb hla hlb hz1e hz2e hB hz1 hz2 hL2
  go_enter Try.func37, Try.ntmps37
  go_upto_region 1 with (fail)
  rw [← HB.out]
  refine at_world (Φ := fun W => A3 B w x y (.slice a n ca) (.slice b m cb) W) ?_ ?_
  · obtain ⟨k1, k2, k3, k5⟩ := three_alloc (w := w) (A := .cells #[.bool x, .slice a n ca] 71) (B := .cells #[.bool y, .slice b m cb] 71) (C := .cells #[.bool false, .slice none 0 0] 71)
    exact ⟨by rw [HB.out]; exact k1, by rw [HB.out]; exact k2, by rw [HB.out]; exact k3, by rw [HB.out]; exact k5, by rw [HB.out]; simp⟩
  rintro W0 hW0
  have HW0 := Lib.hid hW0
  clear hW0
  go_cut [5] from 5 to 24 (fun s5 wx => ∃ g gd, s5 = .pointer (some ⟨g, 0, none⟩) ∧ MulW B g gd w x y sg (.slice a n ca) (.slice b m cb) (.slice (some ⟨gd, 0, none⟩) L L) (List.replicate L 0) wx ∧ B ≤ gd ∧ B + 1 + 1 < g)
  case first =>
    refine wp_region_held_drew (S := MS B w x y (.slice a n ca) (.slice b m cb)) (by kernel_rfl) ⟨HW0.out.1, HW0.out.2.1, HW0.out.2.2.1, HW0.out.2.2.2.1.drew⟩ (fun hS => ?_)
    refine wpAnyH_take (i := 0) (v := .pointer (some ⟨B, 0, none⟩)) rfl (by kernel_rfl) (by kernel_rfl) (by kernel_rfl) (fun _ _ _ h => h) (Or.inl ⟨by simp [Region.wanted], fun W hW => by go_simp⟩) hS ?_
    simp only [List.getElem_toArray, List.getElem_cons_zero, Act.put, List.setIfInBounds_toArray, List.set_cons_zero, List.set_cons_succ]
    refine wpAnyH_take (i := 1) (v := .bool x) rfl (by kernel_rfl) (by kernel_rfl) (by kernel_rfl) (fun _ _ _ h => h) (Or.inl ⟨by simp [Region.wanted], fun W hW => by have h1 := hW.1.c0; go_simp⟩) hS ?_
    simp only [List.getElem_toArray, List.getElem_cons_zero, List.getElem_cons_succ, Act.put, List.setIfInBounds_toArray, List.set_cons_zero, List.set_cons_succ]
    refine wpAnyH_take (i := 2) (v := .pointer (some ⟨B + 1, 0, none⟩)) rfl (by kernel_rfl) (by kernel_rfl) (by kernel_rfl) (fun _ _ _ h => h) (Or.inl ⟨by simp [Region.wanted], fun W hW => by go_simp⟩) hS ?_
    simp only [List.getElem_toArray, List.getElem_cons_zero, List.getElem_cons_succ, Act.put, List.setIfInBounds_toArray, List.set_cons_zero, List.set_cons_succ]
    refine wpAnyH_take (i := 3) (v := .bool y) rfl (by kernel_rfl) (by kernel_rfl) (by kernel_rfl) (fun _ _ _ h => h) (Or.inl ⟨by simp [Region.wanted], fun W hW => by have h1 := hW.2.1.c0; go_simp⟩) hS ?_
    simp only [List.getElem_toArray, List.getElem_cons_zero, List.getElem_cons_succ, Act.put, List.setIfInBounds_toArray, List.set_cons_zero, List.set_cons_succ]
    refine wpAnyH_take (i := 4) (v := .bool sg) rfl (by kernel_rfl) (by kernel_rfl) (by kernel_rfl) (fun _ _ _ h => h) (Or.inl ⟨by simp [Region.wanted], fun W hW => by go_simp⟩) hS ?_
    simp only [List.getElem_toArray, List.getElem_cons_zero, List.getElem_cons_succ, Act.put, List.setIfInBounds_toArray, List.set_cons_zero, List.set_cons_succ]
    refine wpAnyH_take (i := 5) (v := .pointer (some ⟨B, 1, none⟩)) rfl (by kernel_rfl) (by kernel_rfl) (by kernel_rfl) (fun _ _ _ h => h) (Or.inl ⟨by simp [Region.wanted], fun W hW => by go_simp⟩) hS ?_
    simp only [List.getElem_toArray, List.getElem_cons_zero, List.getElem_cons_succ, Act.put, List.setIfInBounds_toArray, List.set_cons_zero, List.set_cons_succ]
    refine wpAnyH_take (i := 6) (v := .slice a n ca) rfl (by kernel_rfl) (by kernel_rfl) (by kernel_rfl) (fun _ _ _ h => h) (Or.inl ⟨by simp [Region.wanted], fun W hW => by have h1 := hW.1.c1; go_simp⟩) hS ?_
    simp only [List.getElem_toArray, List.getElem_cons_zero, List.getElem_cons_succ, Act.put, List.setIfInBounds_toArray, List.set_cons_zero, List.set_cons_succ]
    refine wpAnyH_take (i := 7) (v := .int .i64 (n : Int)) rfl (by kernel_rfl) (by kernel_rfl) (by kernel_rfl) (fun _ _ _ h => h) (Or.inl ⟨by simp [Region.wanted], fun W hW => by go_simp⟩) hS ?_
    simp only [List.getElem_toArray, List.getElem_cons_zero, List.getElem_cons_succ, Act.put, List.setIfInBounds_toArray, List.set_cons_zero, List.set_cons_succ]
    refine wpAnyH_take (i := 8) (v := .pointer (some ⟨B + 1, 1, none⟩)) rfl (by kernel_rfl) (by kernel_rfl) (by kernel_rfl) (fun _ _ _ h => h) (Or.inl ⟨by simp [Region.wanted], fun W hW => by go_simp⟩) hS ?_
    simp only [List.getElem_toArray, List.getElem_cons_zero, List.getElem_cons_succ, Act.put, List.setIfInBounds_toArray, List.set_cons_zero, List.set_cons_succ]
    refine wpAnyH_take (i := 9) (v := .slice b m cb) rfl (by kernel_rfl) (by kernel_rfl) (by kernel_rfl) (fun _ _ _ h => h) (Or.inl ⟨by simp [Region.wanted], fun W hW => by have h1 := hW.2.1.c1; go_simp⟩) hS ?_
    simp only [List.getElem_toArray, List.getElem_cons_zero, List.getElem_cons_succ, Act.put, List.setIfInBounds_toArray, List.set_cons_zero, List.set_cons_succ]
    refine wpAnyH_take (i := 10) (v := .int .i64 (m : Int)) rfl (by kernel_rfl) (by kernel_rfl) (by kernel_rfl) (fun _ _ _ h => h) (Or.inl ⟨by simp [Region.wanted], fun W hW => by go_simp⟩) hS ?_
    simp only [List.getElem_toArray, List.getElem_cons_zero, List.getElem_cons_succ, Act.put, List.setIfInBounds_toArray, List.set_cons_zero, List.set_cons_succ]
    refine wpAnyH_take (i := 11) (v := .int .i64 ((n : Int) + (m : Int))) rfl (by kernel_rfl) (by kernel_rfl) (by kernel_rfl) (fun _ _ _ h => h) (Or.inl ⟨by simp [Region.wanted], fun W hW => by go_simp; rw [IntKind.wrap_i64]; omega⟩) hS ?_
    simp only [List.getElem_toArray, List.getElem_cons_zero, List.getElem_cons_succ, Act.put, List.setIfInBounds_toArray, List.set_cons_zero, List.set_cons_succ]
    refine wpAnyH_take (i := 12) (v := .int .i64 (L : Int)) rfl (by kernel_rfl) (by kernel_rfl) (by kernel_rfl) (fun _ _ _ h => h) (Or.inl ⟨by simp [Region.wanted], fun W hW => by go_simp; rw [IntKind.wrap_i64]; omega⟩) hS ?_
    simp only [List.getElem_toArray, List.getElem_cons_zero, List.getElem_cons_succ, Act.put, List.setIfInBounds_toArray, List.set_cons_zero, List.set_cons_succ]
    have hsz : W0.drew.heap.size = B + 1 + 1 + 1 := HW0.out.2.2.2.2
    have hmk := HMK.out
    have HS0 := Lib.hid (show MS B w x y (.slice a n ca) (.slice b m cb) W0 from ⟨HW0.out.1, HW0.out.2.1, HW0.out.2.2.1, HW0.out.2.2.2.1⟩)
    refine wpAnyH_ready (rs := [13, 15]) (by kernel_rfl) (by simp) ?_
    refine AllReadyH.cons rfl (fun K1 hK1 => ?_) (AllReadyH.cons rfl (fun K1 hK1 => ?_) AllReadyH.nil)
    · refine wanted_go rfl ?_
      simp only [List.getElem_toArray, List.getElem_cons_zero, List.getElem_cons_succ]
      go_wp2
      have hSA := (HS0.out.alloc HB.out (.cells (cellsD (List.replicate L 0)).toArray 3)).drew
      refine hK1.out _ _ hSA (fun hS1 => ?_)
      refine wpAnyH_take (i := 14) (v := .agg #[.bool sg, .slice (some ⟨B + 1 + 1 + 1, 0, none⟩) L L]) rfl (by kernel_rfl) (by kernel_rfl) (by kernel_rfl) (fun _ _ _ h => h) (Or.inl ⟨by simp [Region.wanted], fun W hW => by go_simp⟩) hS1 ?_
      simp only [List.getElem_toArray, List.getElem_cons_zero, List.getElem_cons_succ, Act.put, List.setIfInBounds_toArray, List.set_cons_zero, List.set_cons_succ]
      refine wpAnyH_ready (rs := [15]) (by kernel_rfl) (by simp) ?_
      refine AllReadyH.cons rfl (fun K2 hK2 => ?_) AllReadyH.nil
      refine wanted_go rfl ?_
      simp only [List.getElem_toArray, List.getElem_cons_zero, List.getElem_cons_succ]
      go_wp2
      have hSB := ((HS0.out.alloc HB.out (.cells (cellsD (List.replicate L 0)).toArray 3)).alloc HB.out (.cells #[.bool false, .slice none 0 0] 71)).drew
      refine hK2.out _ _ hSB (fun hS2 => ?_)
      have hbx : BoxAt ((W0.alloc (.cells (cellsD (List.replicate L 0)).toArray 3)).alloc (.cells #[.bool false, .slice none 0 0] 71)).drew (W0.heap.size + 1) false (.slice none 0 0) := by
        have := BoxAt.new (W0.alloc (.cells (cellsD (List.replicate L 0)).toArray 3)) false (.slice none 0 0)
        rwa [show (W0.alloc (.cells (cellsD (List.replicate L 0)).toArray 3)).heap.size = W0.heap.size + 1 by simp] at this
      have hrw : RowAt ((W0.alloc (.cells (cellsD (List.replicate L 0)).toArray 3)).alloc (.cells #[.bool false, .slice none 0 0] 71)).drew (B + 1 + 1 + 1) (List.replicate L 0) := by
        rw [← HW0.out.2.2.2.2]
        exact (Below.heap_alloc _ _ _ (by simp)).trans (heap_alloc_new W0 _)
      have hg1 : B + 1 + 1 < W0.heap.size + 1 := by have := HW0.out.2.2.2.2; omega
      have HBX := Lib.hid hbx; have HRW := Lib.hid hrw
      refine wpAnyH_ready (rs := [16]) (by kernel_rfl) (by simp) ?_
      refine AllReadyH.cons rfl (fun K3 hK3 => ?_) AllReadyH.nil
      refine wanted_go rfl ?_
      simp only [List.getElem_toArray, List.getElem_cons_zero, List.getElem_cons_succ]
      refine wp_store_row 71 (.tmp 5) (.tmp 24) rfl (W0.heap.size + 1) #[.bool sg, .slice (some ⟨B + 1 + 1 + 1, 0, none⟩) L L] rfl rfl 71 #[.bool false, .slice none 0 0] HBX.out info25 rfl (one25 _ _ _ _) ?_
      have hend := hS2.made HBX.out HRW.out hg1 sg L
      refine hK3.out _ _ hend.ms (fun hS3 => ?_)
      refine wpAnyH_done (by kernel_rfl) ?_ _
      have HEND := Lib.hid hend
      clear hend hS hS1 hS2 hS3 hbx hrw
      go_wp2
      go_meet
      exact ⟨W0.heap.size + 1, B + 1 + 1 + 1, rfl, HEND.out, by have := HW0.out.2.2.2.2; omega, hg1⟩
    · refine wanted_go rfl ?_
      simp only [List.getElem_toArray, List.getElem_cons_zero, List.getElem_cons_succ]
      go_wp2
      have hSA := (HS0.out.alloc HB.out (.cells #[.bool false, .slice none 0 0] 71)).drew
      refine hK1.out _ _ hSA (fun hS1 => ?_)
      refine wpAnyH_ready (rs := [13]) (by kernel_rfl) (by simp) ?_
      refine AllReadyH.cons rfl (fun K2 hK2 => ?_) AllReadyH.nil
      refine wanted_go rfl ?_
      simp only [List.getElem_toArray, List.getElem_cons_zero, List.getElem_cons_succ]
      go_wp2
      have hSB := ((HS0.out.alloc HB.out (.cells #[.bool false, .slice none 0 0] 71)).alloc HB.out (.cells (cellsD (List.replicate L 0)).toArray 3)).drew
      refine hK2.out _ _ hSB (fun hS2 => ?_)
      refine wpAnyH_take (i := 14) (v := .agg #[.bool sg, .slice (some ⟨W0.heap.size + 1, 0, none⟩) L L]) rfl (by kernel_rfl) (by kernel_rfl) (by kernel_rfl) (fun _ _ _ h => h) (Or.inl ⟨by simp [Region.wanted], fun W hW => by go_simp⟩) hS2 ?_
      simp only [List.getElem_toArray, List.getElem_cons_zero, List.getElem_cons_succ, Act.put, List.setIfInBounds_toArray, List.set_cons_zero, List.set_cons_succ]
      have hbx : BoxAt ((W0.alloc (.cells #[.bool false, .slice none 0 0] 71)).alloc (.cells (cellsD (List.replicate L 0)).toArray 3)).drew (B + 1 + 1 + 1) false (.slice none 0 0) := by
        rw [← HW0.out.2.2.2.2]
        exact (Below.heap_alloc _ _ _ (by simp)).trans (BoxAt.new W0 _ _)
      have hrw : RowAt ((W0.alloc (.cells #[.bool false, .slice none 0 0] 71)).alloc (.cells (cellsD (List.replicate L 0)).toArray 3)).drew (W0.heap.size + 1) (List.replicate L 0) := by
        have := heap_alloc_new (W0.alloc (.cells #[.bool false, .slice none 0 0] 71)) (.cells (cellsD (List.replicate L 0)).toArray 3)
        rwa [show (W0.alloc (.cells #[.bool false, .slice none 0 0] 71)).heap.size = W0.heap.size + 1 by simp] at this
      have hg1 : B + 1 + 1 < B + 1 + 1 + 1 := by omega
      have HBX := Lib.hid hbx; have HRW := Lib.hid hrw
      refine wpAnyH_ready (rs := [16]) (by kernel_rfl) (by simp) ?_
      refine AllReadyH.cons rfl (fun K3 hK3 => ?_) AllReadyH.nil
      refine wanted_go rfl ?_
      simp only [List.getElem_toArray, List.getElem_cons_zero, List.getElem_cons_succ]
      refine wp_store_row 71 (.tmp 5) (.tmp 24) rfl (B + 1 + 1 + 1) #[.bool sg, .slice (some ⟨W0.heap.size + 1, 0, none⟩) L L] rfl rfl 71 #[.bool false, .slice none 0 0] HBX.out info25 rfl (one25 _ _ _ _) ?_
      have hend := hS2.made HBX.out HRW.out hg1 sg L
      refine hK3.out _ _ hend.ms (fun hS3 => ?_)
      refine wpAnyH_done (by kernel_rfl) ?_ _
      have HEND := Lib.hid hend
      clear hend hS hS1 hS2 hS3 hbx hrw
      go_wp2
      go_meet
      exact ⟨B + 1 + 1 + 1, W0.heap.size + 1, rfl, HEND.out, by have := HW0.out.2.2.2.2; omega, hg1⟩
  case rest =>
    obtain ⟨g, gd, rfl, hM, hgd, hg⟩ := hcut
    have HM := Lib.hid hM; have HGD := Lib.hid hgd
    clear hM hgd HMK
    go_upto_region 3 with (fail)
    go_loopw [6] (fun vi W => ∃ (i : Nat) (out : List Nat), i ≤ n ∧ vi = .int .i64 (i : Int) ∧ MulW B g gd w x y sg (.slice a n ca) (.slice b m cb) (.slice (some ⟨gd, 0, none⟩) L L) out W ∧ out.length = L ∧ digsD out ∧ valD out = valD (la.take i) * valD lb) (fun vi _ => n - (intOf vi).toNat)
    case atStart => exact ⟨0, List.replicate L 0, by omega, rfl, HM.out, by simp, fun d hd => by rw [List.eq_of_mem_replicate hd]; decide, by rw [valD_zeros]; simp [valD]⟩
    case round =>
      obtain ⟨i, out, hi', rfl, hW, hlen, hdg, hv⟩ := hrel
      have ca1 := hW.1.c1
      by_cases hlt : (i : Int) < (n : Int)
      · have HWR := Lib.hid hW; have HLE := Lib.hid hlen; have HDG := Lib.hid hdg; have HV := Lib.hid hv
        clear hW hlen hdg hv
        obtain ⟨ba, oa, hae, _, _⟩ := (HDA.out wr HWR.out.lo).some (by rw [HLA.out]; omega)
        subst hae
        go_upto_region 7 with (fail)
        clear ca1
        go_loopw [7, 8] (fun vc vj W => ∃ (j c : Nat) (o2 : List Nat), j ≤ m + 1 ∧ vj = .int .i64 (j : Int) ∧ vc = .int .i64 (c : Int) ∧ c < 10000 ∧ MulW B g gd w x y sg (.slice (some ⟨ba, oa, none⟩) n ca) (.slice b m cb) (.slice (some ⟨gd, 0, none⟩) L L) o2 W ∧ o2.length = L ∧ digsD o2 ∧ valD o2 + 10000 ^ (i + j) * c = valD (la.take i) * valD lb + 10000 ^ i * la.getD i 0 * valD (lb.take j)) (fun _ vj _ => m + 1 - (intOf vj).toNat)
        case atStart => exact ⟨0, 0, out, by omega, rfl, rfl, by omega, HWR.out, HLE.out, HDG.out, by rw [HV.out]; simp [valD]⟩
        case round =>
          obtain ⟨j, c, o2, hj, rfl, rfl, hc, hW2, hlen2, hdg2, hv2⟩ := hrel
          have HW2 := Lib.hid hW2; have HL2 := Lib.hid hlen2; have HD2 := Lib.hid hdg2; have HV2 := Lib.hid hv2; have HBL := Lib.hid hW2.lo
          have ca2 := hW2.1.c1; have cb2 := hW2.2.1.c1; have cg2 := hW2.2.2.2.1.c1
          by_cases hjm : (j : Int) ≤ (m : Int)
          · obtain ⟨k, hk⟩ : ∃ k : Nat, i + j = k := ⟨_, rfl⟩
            have e0 : (i : Int) + (j : Int) = (k : Int) := by omega
            have hkL : k < L := by have := HL.out; omega
            have HS := Lib.hid (mul_step (by rw [hlen2, hk]; exact hkL) hdg2 HGA.out HGB.out hc hv2)
            have hct := hW2.2.2.2.2.1.cell (i := k) (by rw [hlen2]; exact hkL)
            have hcp := digs_at (HDA.out wr hW2.lo) (i := i) (by rw [HLA.out]; omega)
            have HBj := Lib.hid (HBB.out j)
            have t4 := digsD_getD hdg2 k
            have p4 := digsD_getD HGA.out i
            have q4 := digsD_getD HGB.out j
            rw [hk] at HS
            obtain ⟨t, ht⟩ : ∃ t, o2.getD k 0 = t := ⟨_, rfl⟩
            obtain ⟨p, hp⟩ : ∃ t, la.getD i 0 = t := ⟨_, rfl⟩
            obtain ⟨q, hq⟩ : ∃ t, lb.getD j 0 = t := ⟨_, rfl⟩
            rw [ht] at HS hct t4
            rw [hp] at HS hcp p4
            have HP := Lib.hid hp
            rw [hq] at HS HBj q4
            have hPQ : p * q ≤ 9999 * 9999 := Nat.mul_le_mul (by omega) (by omega)
            obtain ⟨u, hu⟩ : ∃ u, p * q = u := ⟨_, rfl⟩
            rw [hu] at HS hPQ
            have epq : (p : Int) * (q : Int) = (u : Int) := by rw [← hu]; exact (Int.natCast_mul p q).symm
            obtain ⟨r, hr⟩ : ∃ r, (t + u + c) % 10000 = r := ⟨_, rfl⟩
            obtain ⟨d, hd⟩ : ∃ r, (t + u + c) / 10000 = r := ⟨_, rfl⟩
            rw [hr, hd] at HS
            have e1 : ((t : Int) + (u : Int) + (c : Int)).tmod 10000 = (r : Int) := by rw [Int.tmod_eq_emod_of_nonneg (by omega)]; omega
            have e2 : ((t : Int) + (u : Int) + (c : Int)) % 10000 = (r : Int) := by omega
            have e3 : ((t : Int) + (u : Int) + (c : Int)).tdiv 10000 = (d : Int) := by rw [Int.tdiv_eq_ediv_of_nonneg (by omega)]; omega
            have e4 : ((t : Int) + (u : Int) + (c : Int)) / 10000 = (d : Int) := by omega
            clear hW2 hlen2 hdg2 hv2 hk ht hp hq hu hr hd
            go_upto_region 9 with (fail)
            go_quiet ((go_at_call 57; exact Calls.quiet_of_same (HBj.out _ (by first | exact HBL.out | exact HBL.out.drew | exact below_drewN' HBL.out _))))
            go_upto_region 10 with (go_at_call 57; refine (HBj.out _ (by first | exact HBL.out | exact HBL.out.drew | exact below_drewN' HBL.out _)).mono ?_; rintro e w' ⟨rfl, rfl⟩)
            clear ca2 cb2 cg2 hct hcp
            refine at_world (Φ := fun W => MulW B g gd w x y sg (.slice (some ⟨ba, oa, none⟩) n ca) (.slice b m cb) (.slice (some ⟨gd, 0, none⟩) L L) o2 W) (HW2.out.below HB.out (below_drews _)) ?_
            rintro wq hwq
            have HWQ := Lib.hid hwq
            have cg3 := hwq.2.2.2.1.c1
            have ct3 := hwq.2.2.2.2.1.cell (i := k) (by rw [HL2.out]; exact hkL)
            have ft3 := free_of_blkN hwq.2.2.2.2.1 k
            clear hwq
            go_wp2
            go_roundw
            case rel => exact ⟨j + 1, d, o2.set k r, by omega, by go_num, rfl, HS.out.2.1, HWQ.out.set HGD.out k r, by rw [List.length_set]; exact HL2.out, HS.out.1, by rw [HP.out]; exact HS.out.2.2⟩
            case measure => simp [intOf] <;> omega
          · have hjm2 : j = m + 1 := by omega
            subst hjm2
            have hv3 : valD o2 = valD (la.take (i + 1)) * valD lb := mul_row HGA.out HGB.out (by rw [HLB.out]; exact hv2)
            have HV3 := Lib.hid hv3
            clear hW2 hlen2 hdg2 hv2 hv3
            go_wp2
            go_roundw
            case rel => exact ⟨i + 1, o2, by omega, by go_num, HW2.out, HL2.out, HD2.out, HV3.out⟩
            case measure => simp [intOf] <;> omega
      · have hin : i = n := by omega
        subst hin
        have HWR := Lib.hid hW
        have HT := Lib.hid (HTR.out sg (some ⟨gd, 0, none⟩) out L L wr hlen hW.2.2.2.2.1.digs hdg (Nat.le_refl _) (by omega))
        have hv' : valD out = valD la * valD lb := by rw [hv, ← HLA.out, List.take_length]
        rw [hv'] at HT
        clear hW hlen hdg hv hv'
        go_upto_region 12 with (fail)
        go_wp2_with (first
          | (refine wpList_load_row rfl 71 (.tmp 5) rfl g rfl 71 #[.bool sg, .slice (some ⟨gd, 0, none⟩) L L] (0, 0) _ HWR.out.2.2.2.1 Try.underlying71 rfl info25 ?_)
          | (go_at_call 58; refine HT.out.mono ?_; rintro e w5 ⟨xt, at', kt, ct, rfl, hbig, hb5⟩; have HBIG := Lib.hid hbig; have HB5 := Lib.hid hb5; have HR5 := Lib.hid (HWR.out.2.2.1.below hb5); clear hbig hb5)
          | (refine wpList_store_row rfl 71 (.tmp 4) (.tmp 70) rfl (B + 1 + 1) #[.bool xt, .slice at' kt ct] rfl rfl 71 #[.bool false, .slice none 0 0] HR5.out info25 rfl (one25 _ _ _ _) ?_))
        refine ret_cell (p := 4) (ty := 71) (by kernel_rfl) rfl rfl (setRow_heap _ _ _ _ 71 (0, 0) HR5.out) Try.underlying71 rfl info25 ⟨xt, at', kt, ct, rfl, ?_, below_rowB (bB HB.out HWR.out.lo HB5.out) (by omega)⟩
        have hb := HBIG.out.boxRow HR5.out #[.bool xt, .slice at' kt ct]
        have hs : sg = (x != y) := by have := HSG.out; cases x <;> cases y <;> cases sg <;> simp_all
        rw [HZ1.out, HZ2.out, ← sgn_mul, ← hs]
        exact hb
end Go.Proofs.Ytmndkbfjmamnfaa
