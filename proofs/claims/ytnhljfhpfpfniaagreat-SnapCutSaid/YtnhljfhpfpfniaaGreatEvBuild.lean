/- Contracts of the library's Builder as this program has it: its check of copies, and WriteString. The shelf's own contracts do not fit here: the check's body is another one in this program. -/
import Derived.Test.YtnhljfhpfpfniaaGreatMNums
import Derived.Test.YtnhljfhpfpfniaaGreatBase
import Derived.Lib.Builder
import Derived.Lib.AppendStr
import Derived.Laws.Externs
namespace Go.Proofs.YtnhljfhpfpfniaaGreat
open Go.RowKit Base

theorem sizeB : (Tryz.prog.info? 44).map (·.size) = some 2 := by kernel_rfl
theorem liesB : liesAt Tryz.prog Tryz.prog.depth 44 (2 / Tryz.prog.cellsOf 44) 0 44 1 = true := by kernel_rfl
theorem info8E : (Tryz.prog.info? 5).map (fun i => (i.zero, i.size, i.bytes)) = some (some (.int .u8 0), 1, 1) := by kernel_rfl
theorem escape58 (x : Value) (W : World) : (callFunc 102 #[x]).run Tryz.prog W = .ok (.value x) W := by
  rw [run_callFunc_extern Tryz.func102 (by kernel_rfl) (by kernel_rfl) (by kernel_rfl) (e := Extern.AbiNoEscape.same) (by kernel_rfl), Lib.run_noEscape]
  rfl
/-- A pointer to a Builder, held against itself, turned into one of no type and back. -/
theorem ptrs66 (b : Nat) (W : World) (hs : W.shape? b = some (44, 2)) : (binOp .neq 41 (.pointer (some ⟨b, 0, none⟩)) (.pointer (some ⟨b, 0, none⟩))).run Tryz.prog W = .ok (.bool false) W ∧
    (convert 41 175 (.pointer (some ⟨b, 0, none⟩))).run Tryz.prog W = .ok (.pointer (some ⟨b, 0, none⟩)) W ∧ (convert 175 41 (.pointer (some ⟨b, 0, none⟩))).run Tryz.prog W = .ok (.pointer (some ⟨b, 0, none⟩)) W := by
  cases hj : Tryz.prog.info? 44 with
  | none => exact absurd sizeB (by rw [hj]; simp)
  | some j =>
    have hz : j.size = 2 := by have := sizeB; rw [hj] at this; simpa using this
    refine ⟨Lib.run_neq_ptr_same W _ Tryz.underlying41 hj, Lib.run_to_unsafe W ⟨b, 0, none⟩ Tryz.underlying41 Tryz.underlying175 hj (by omega) hs (by show 0 < 2; omega), Lib.run_from_unsafe W ⟨b, 0, none⟩ Tryz.underlying175 Tryz.underlying41 hj hs liesB⟩

set_option maxRecDepth 100000 in
set_option maxHeartbeats 1000000 in
theorem check47 (B b : Nat) (bs : List Value) (w : World) (h : Lib.IsBuilder 44 5 B b bs w) :
    Calls Tryz.prog 37 #[.pointer (some ⟨b, 0, none⟩)] w fun e w' => e = .returned (.tuple #[]) ∧ (Lib.BuilderAt 44 5 B b (.pointer (some ⟨b, 0, none⟩)) bs w' ∧ Below B w w') := by
  have hes := escape58
  rcases h with h | h
  · have k0 := h.cell0
    have kf := h.frozen0
    obtain ⟨_, p1, p2⟩ := ptrs66 b w h.shape
    have hs2 : (w.setCell ⟨b, 0, none⟩ (.pointer (some ⟨b, 0, none⟩))).shape? b = some (44, 2) := (h.used (.pointer (some ⟨b, 0, none⟩))).shape
    obtain ⟨p3, _, _⟩ := ptrs66 b _ hs2
    have HU := Lib.hid (h.used (.pointer (some ⟨b, 0, none⟩)))
    have HB := Lib.hid ((Below.refl B w).setCell (p := ⟨b, 0, none⟩) h.1 (.pointer (some ⟨b, 0, none⟩)))
    clear h hs2
    go_enter Tryz.func37, Tryz.ntmps37
    go_wp2_with (simp only [hes])
    go_end0
    exact ⟨rfl, HU.out, HB.out⟩
  · have k0 := h.cell0
    obtain ⟨p3, _, _⟩ := ptrs66 b w h.shape
    have HU := Lib.hid h
    clear h
    go_enter Tryz.func37, Tryz.ntmps37
    go_wp2
    go_end0
    exact ⟨rfl, HU.out, Below.refl B _⟩

/-- Behind the append: the Builder's block as it was; behind the store: the Builder with more. -/
theorem built (B b : Nat) (bs news : List Value) (v u : Value) (w W1 W2 : World) (hB : B ≤ b) (hk : W1.heap[b]? = some (.cells #[.pointer (some ⟨b, 0, none⟩), v] 44 (0, 0))) (ho : W1.ownsRow B 5 1 v bs.length bs) (hl : Below B w W1) (hs : B ≤ W1.heap.size)
    (hn : W2.ownsRow B 5 1 u (bs.length + news.length) (bs ++ news)) (hg : W1.grownBy W2 v.ownBlock) :
    W2.heap[b]? = some (.cells #[.pointer (some ⟨b, 0, none⟩), v] 44 (0, 0)) ∧ Lib.BuilderAt 44 5 B b (.pointer (some ⟨b, 0, none⟩)) (bs ++ news) (W2.setCell ⟨b, 1, none⟩ u) ∧ Below B w (W2.setCell ⟨b, 1, none⟩ u) := by
  have hk2 := (hg.block b (lt_of_blk hk) (own_ne' ho hk (by decide))).trans hk
  refine ⟨hk2, Lib.BuilderAt.put hB hk2 (by rw [List.length_append]; exact hn) (by decide), ?_⟩
  exact (hl.grown hg hs (own_block_ge ho)).setCell (p := ⟨b, 1, none⟩) hB u

set_option maxHeartbeats 2000000 in
set_option maxRecDepth 100000 in
theorem write33 (B b : Nat) (bs : List Value) (s : ByteArray) (w : World) (h : Lib.IsBuilder 44 5 B b bs w) (hlen : bs.length + s.size ≤ 140737488355328) (hBw : B ≤ w.heap.size) :
    Calls Tryz.prog 15 #[.pointer (some ⟨b, 0, none⟩), .string s] w fun e w' => e = .returned (.tuple #[.int .i64 s.size, .nilIface]) ∧ (Lib.BuilderAt 44 5 B b (.pointer (some ⟨b, 0, none⟩)) (bs ++ Lib.strCells s) w' ∧ Below B w w') := by
  obtain ⟨i0, hi, hz0, hz1, hz2⟩ := info_parts info8E
  have HC := Lib.hid (check47 B b bs w h)
  have hm : bs.length + s.size ≤ maxLen := by unfold maxLen; omega
  have hsl := Lib.strCells_length s
  clear h
  go_enter Tryz.func15, Tryz.ntmps15
  go_wp2_with (first
    | (go_at_call 37; refine HC.out.mono ?_; rintro e w1 ⟨rfl, ⟨hB, v, hk, ho, _⟩, hl⟩; have HK := Lib.hid hk; have HO := Lib.hid ho; have HL := Lib.hid hl; have k1 : w1.cell? ⟨b, 1, none⟩ = some v := by { rw [cell_of_row w1 b 1 _ 44 (0, 0) hk]; rfl }; clear hk ho hl)
    | (at_builtin; refine Lib.wpList_append_own_string _ rfl _ _ 42 9 rfl B 5 i0 Tryz.underlying42 Tryz.underlying9 hi hz0 hz1 hz2 _ _ _ rfl HO.out s rfl hm hlen (Nat.le_trans hBw HL.out.size) ?_; intro u w2 hn hg _; have HT := Lib.hid (built B b bs (Lib.strCells s) v u w w1 w2 hB HK.out HO.out HL.out (Nat.le_trans hBw HL.out.size) (by rw [hsl]; exact hn) hg); obtain ⟨hu, _⟩ | ⟨gu, cu, _, hu, _⟩ := hn.2 <;> subst hu <;> have k2 := free_of_blkN HT.out.1 1 <;> obtain ⟨k3, k4⟩ := cell_of_blkN HT.out.1 1 (by show 1 < 2; omega) <;> clear hn hg))
  all_goals go_ret2
  all_goals exact ⟨rfl, HT.out.2⟩
end Go.Proofs.YtnhljfhpfpfniaaGreat
