/- A Builder that is written on within a round: nothing but blocks of its own two kinds turns. -/
import Derived.Test.YtnhljfhpfpfniaaGreatEvBuild
import Derived.Lib.UnsafeStr
import Derived.Test.YtnhljfhpfpfniaaGreatBase2
import Derived.Test.YtnhljfhpfpfniaaGreatClRange
namespace Go.Proofs.YtnhljfhpfpfniaaGreat
open Go.RowKit Base Base2

/-- A Builder's own block, or bytes. -/
def isBB : Obj → Bool
  | .cells _ t _ => t == 44 || t == 5
  | _ => false
/-- Whatever is no Builder and no bytes lies as it lay. -/
structure KeepB (W W' : World) : Prop where
  size : W.heap.size ≤ W'.heap.size
  same : ∀ (k : Nat) (o : Obj), W.heap[k]? = some o → isBB o = false → W'.heap[k]? = some o
theorem KeepB.refl (W : World) : KeepB W W := ⟨Nat.le_refl _, fun _ _ h _ => h⟩
theorem KeepB.trans {A B C : World} (h : KeepB A B) (k : KeepB B C) : KeepB A C := ⟨Nat.le_trans h.size k.size, fun i o h1 h2 => k.same i o (h.same i o h1 h2) h2⟩
theorem KeepB.below {W W' : World} (h : Below W.heap.size W W') : KeepB W W' := ⟨h.size, fun k _ h1 _ => (h.block k (lt_of_blk h1)).trans h1⟩
theorem KeepB.grown {W W' : World} {row : Option Nat} (h : W.grownBy W' row) (hr : ∀ j, row = some j → ∃ o, W.heap[j]? = some o ∧ isBB o = true) : KeepB W W' :=
  ⟨h.size, fun k o h1 h2 => (h.block k (lt_of_blk h1) (fun e => by obtain ⟨o', h3, h4⟩ := hr k e.symm; rw [h1] at h3; cases h3; rw [h2] at h4; cases h4)).trans h1⟩
theorem KeepB.set {W : World} {b i : Nat} {o : Obj} (h : W.heap[b]? = some o) (ho : isBB o = true) (v : Value) : KeepB W (W.setCell ⟨b, i, none⟩ v) :=
  ⟨by simp [World.setCell], fun k o' h1 h2 => (Below.heap_setCell _ _ _ k (by rintro rfl; rw [h] at h1; cases h1; rw [h2] at ho; cases ho)).trans h1⟩
theorem KeepB.row {W W' : World} {B n : Nat} {v : Value} {xs : List Value} (h : W.ownsRow B 5 1 v n xs) (hg : W.grownBy W' v.ownBlock) : KeepB W W' := by
  refine KeepB.grown hg fun j hj => ?_
  rcases h.2 with ⟨rfl, _⟩ | ⟨g, cap, cur, rfl, _, hgb, _⟩
  · simp [Value.ownBlock] at hj
  · obtain rfl : g = j := by simpa [Value.ownBlock] using hj
    exact ⟨_, hgb, by simp [isBB]⟩
theorem KeepB.from {W W' : World} (h : KeepB W W') (B : Nat) : KeepsFrom B W W' := ⟨h.size, fun k o _ h1 h2 => h.same k o h1 (by cases o <;> first | rfl | (simp [Obj.isCells] at h2))⟩

set_option maxRecDepth 100000 in
set_option maxHeartbeats 1000000 in
theorem checkK (B b : Nat) (bs : List Value) (w : World) (h : Lib.IsBuilder 44 5 B b bs w) :
    Calls Tryz.prog 37 #[.pointer (some ⟨b, 0, none⟩)] w fun e w' => e = .returned (.tuple #[]) ∧ (Lib.BuilderAt 44 5 B b (.pointer (some ⟨b, 0, none⟩)) bs w' ∧ Below B w w') ∧ KeepB w w' := by
  have hes := escape58
  rcases h with h | h
  · have k0 := h.cell0
    have kf := h.frozen0
    obtain ⟨_, p1, p2⟩ := ptrs66 b w h.shape
    have hs2 : (w.setCell ⟨b, 0, none⟩ (.pointer (some ⟨b, 0, none⟩))).shape? b = some (44, 2) := (h.used (.pointer (some ⟨b, 0, none⟩))).shape
    obtain ⟨p3, _, _⟩ := ptrs66 b _ hs2
    have HU := Lib.hid (h.used (.pointer (some ⟨b, 0, none⟩)))
    have HB := Lib.hid ((Below.refl B w).setCell (p := ⟨b, 0, none⟩) h.1 (.pointer (some ⟨b, 0, none⟩)))
    have HK : Hid (KeepB w (w.setCell ⟨b, 0, none⟩ (.pointer (some ⟨b, 0, none⟩)))) := by
      obtain ⟨_, v, hk, _⟩ := h
      exact KeepB.set hk (by simp [isBB]) _
    clear h hs2
    go_enter Tryz.func37, Tryz.ntmps37
    go_wp2_with (simp only [hes])
    go_end0
    exact ⟨rfl, ⟨HU.out, HB.out⟩, HK.out⟩
  · have k0 := h.cell0
    obtain ⟨p3, _, _⟩ := ptrs66 b w h.shape
    have HU := Lib.hid h
    clear h
    go_enter Tryz.func37, Tryz.ntmps37
    go_wp2
    go_end0
    exact ⟨rfl, ⟨HU.out, Below.refl B _⟩, KeepB.refl _⟩

set_option maxHeartbeats 2000000 in
set_option maxRecDepth 100000 in
theorem writeK (B b : Nat) (bs : List Value) (s : ByteArray) (w : World) (h : Lib.IsBuilder 44 5 B b bs w) (hlen : bs.length + s.size ≤ 140737488355328) (hBw : B ≤ w.heap.size) :
    Calls Tryz.prog 15 #[.pointer (some ⟨b, 0, none⟩), .string s] w fun e w' => e = .returned (.tuple #[.int .i64 s.size, .nilIface]) ∧ (Lib.BuilderAt 44 5 B b (.pointer (some ⟨b, 0, none⟩)) (bs ++ Lib.strCells s) w' ∧ Below B w w') ∧ KeepB w w' := by
  obtain ⟨i0, hi, hz0, hz1, hz2⟩ := info_parts info8E
  have HC := Lib.hid (checkK B b bs w h)
  have hm : bs.length + s.size ≤ maxLen := by unfold maxLen; omega
  have hsl := Lib.strCells_length s
  clear h
  go_enter Tryz.func15, Tryz.ntmps15
  go_wp2_with (first
    | (go_at_call 37; refine HC.out.mono ?_; rintro e w1 ⟨rfl, ⟨⟨hB, v, hk, ho, _⟩, hl⟩, hkb⟩; have HK := Lib.hid hk; have HO := Lib.hid ho; have HL := Lib.hid hl; have HKB := Lib.hid hkb; have k1 : w1.cell? ⟨b, 1, none⟩ = some v := by { rw [cell_of_row w1 b 1 _ 44 (0, 0) hk]; rfl }; clear hk ho hl hkb)
    | (at_builtin; refine Lib.wpList_append_own_string _ rfl _ _ 42 9 rfl B 5 i0 Tryz.underlying42 Tryz.underlying9 hi hz0 hz1 hz2 _ _ _ rfl HO.out s rfl hm hlen (Nat.le_trans hBw HL.out.size) ?_; intro u w2 hn hg _; have HT := Lib.hid (built B b bs (Lib.strCells s) v u w w1 w2 hB HK.out HO.out HL.out (Nat.le_trans hBw HL.out.size) (by rw [hsl]; exact hn) hg); have HR := Lib.hid ((HKB.out.trans (KeepB.row HO.out hg)).trans (KeepB.set (i := 1) HT.out.1 (by simp [isBB]) u)); obtain ⟨hu, _⟩ | ⟨gu, cu, _, hu, _⟩ := hn.2 <;> subst hu <;> have k2 := free_of_blkN HT.out.1 1 <;> obtain ⟨k3, k4⟩ := cell_of_blkN HT.out.1 1 (by show 1 < 2; omega) <;> clear hn hg))
  all_goals go_ret2
  all_goals exact ⟨rfl, HT.out.2, HR.out⟩

theorem KeepB.freeze {W : World} {g n : Nat} {o : Obj} (h : W.heap[g]? = some o) (ho : isBB o = true) : KeepB W (W.freeze ⟨g, 0, none⟩ n) := by
  unfold World.freeze
  split
  · exact KeepB.refl W
  · refine ⟨by simp, fun k o' h1 h2 => ?_⟩
    by_cases e : k = g
    · subst e; rw [h] at h1; cases h1; rw [h2] at ho; cases ho
    · simp only [Array.getElem?_modify]
      rw [if_neg (Ne.symm e)]; exact h1
theorem IsB.row {B b : Nat} {l : List UInt8} {w : World} (h : Lib.IsBuilder 44 5 B b (Lib.byteCells l) w) : ∃ p v, w.heap[b]? = some (.cells #[p, v] 44 (0, 0)) ∧ w.ownsRow B 5 1 v l.length (Lib.byteCells l) := by
  rcases h with ⟨_, v, h2, h3, _⟩ | ⟨_, v, h2, h3, _⟩
  · rw [Lib.byteCells_length] at h3; exact ⟨_, v, h2, h3⟩
  · rw [Lib.byteCells_length] at h3; exact ⟨_, v, h2, h3⟩
theorem cellsBB : Tryz.prog.cellsOf 5 = 1 := by kernel_rfl

set_option maxHeartbeats 1000000 in
set_option maxRecDepth 100000 in
theorem stringK (B b : Nat) (l : List UInt8) (w : World) (h : Lib.IsBuilder 44 5 B b (Lib.byteCells l) w) (h0 : l ≠ []) :
    Calls Tryz.prog 19 #[.pointer (some ⟨b, 0, none⟩)] w fun e w' => e = .returned (.string ⟨l.toArray⟩) ∧ Below B w w' ∧ KeepB w w' := by
  obtain ⟨p, v, hk, hrow⟩ := IsB.row h
  clear h
  have hl0 : l.length ≠ 0 := fun e => h0 (List.eq_nil_of_length_eq_zero e)
  rcases hrow.2 with ⟨_, e⟩ | ⟨g, cap, cur, rfl, hBg, hg, hcap, hmax, hsz, _⟩
  · exact absurd e hl0
  have k1 : w.drew.cell? ⟨b, 1, none⟩ = some (.slice (some ⟨g, 0, none⟩) l.length cap) := by rw [cell_of_row w.drew b 1 _ 44 (0, 0) hk]; rfl
  have hd := Lib.run_unsafeSliceData_row (P := Tryz.prog) (w := w.drew) #[42] 133 ⟨g, 0, none⟩ l.length cap (by omega)
  have hs := Lib.run_unsafeString_row (P := Tryz.prog) (w := w.drew) 133 3 9 5 Tryz.underlying133 cellsBB g cur.size (by have e : w.drew.heap[g]? = _ := hg; unfold World.shape?; rw [e]) l h0 (by omega) (by unfold maxLen at hmax; omega)
    (fun j x hx => hrow.cells (g := g) rfl j (.int .u8 x.toNat) (by simp [Lib.byteCells, hx]))
  have HB := Lib.hid (Lib.below_freeze (Below.drew (Below.refl B w)) (p := ⟨g, 0, none⟩) hBg l.length)
  have HK := Lib.hid (KeepB.freeze (W := w.drew) (n := l.length) (show w.drew.heap[g]? = _ from hg) (by simp [isBB]))
  clear hrow hg hBg hsz
  go_enter Tryz.func19, Tryz.ntmps19
  go_wp2
  go_region
  all_goals (go_wp2; go_ret; exact ⟨rfl, HB.out, HK.out.size, HK.out.same⟩)
end Go.Proofs.YtnhljfhpfpfniaaGreat
