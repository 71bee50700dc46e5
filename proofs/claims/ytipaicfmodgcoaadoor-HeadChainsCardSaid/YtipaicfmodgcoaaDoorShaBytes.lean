/- The highest byte first; what comes behind the bytes: the contracts of highestFirst and ending. -/
import Derived.Test.YtipaicfmodgcoaaDoorShaMixed
import Derived.Laws.IdiomStrings
import Derived.Laws.MakeOwn
import Derived.Lib.BufferWrite
namespace Go.Proofs.YtipaicfmodgcoaaDoor
open Go.RowKit

/-- The lowest so many bytes of a number, the highest first. -/
def hf (n c : Nat) : List UInt8 := (List.range c).map fun i => UInt8.ofNat (n / 2 ^ (8 * (c - 1 - i)) % 256)
/-- The first i of them. -/
def hfT (n c i : Nat) : List UInt8 := (List.range i).map fun i => UInt8.ofNat (n / 2 ^ (8 * (c - 1 - i)) % 256)
theorem hfT_next (n c i : Nat) : hfT n c (i + 1) = hfT n c i ++ [UInt8.ofNat (n / 2 ^ (8 * (c - 1 - i)) % 256)] := by simp [hfT, List.range_succ]
theorem be8_hf (n : Nat) : be8 n = hf n 8 := by
  unfold be8 hf
  refine List.map_congr_left fun i _ => ?_
  rw [Nat.pow_mul, show 8 - 1 - i = 7 - i by omega]
theorem ofNat_256 (a : Nat) : UInt8.ofNat (a % 256) = UInt8.ofNat a := by
  apply UInt8.toNat_inj.1; simp
theorem be4_hf (x : Wd) : be4 x = hf x.toNat 4 := by
  simp only [be4, hf, List.range, List.range.loop, List.map_cons, List.map_nil, ofNat_256]
  rw [show 2 ^ (8 * (4 - 1 - 0)) = 16777216 from rfl, show 2 ^ (8 * (4 - 1 - 1)) = 65536 from rfl, show 2 ^ (8 * (4 - 1 - 2)) = 256 from rfl, show 2 ^ (8 * (4 - 1 - 3)) = 1 from rfl, Nat.div_one]
theorem hf_len (n c : Nat) : (hf n c).length = c := by simp [hf]
theorem info5 : (Tryd.prog.info? 5).map (fun i => (i.zero, i.size, i.bytes)) = some (some (.int .u8 0), 1, 1) := by kernel_rfl

theorem one_cell_u8 (n : Int) : ∀ u ∈ [Value.int .u8 n], u.oneCell' = true := by
  intro u hu; simp at hu; subst hu; rfl
def HfRel (w : World) (base n c k : Nat) (l : List UInt8) (v vi : Value) (W : World) : Prop :=
  ∃ i : Nat, i ≤ c ∧ vi = .int .i64 (i : Int) ∧ W.ownsRow base 5 1 v (k + i) (Lib.byteCells (l ++ hfT n c i)) ∧ Below base w W ∧ base ≤ W.heap.size
theorem byteCells_one (l : List UInt8) (b : UInt8) : Lib.byteCells (l ++ [b]) = Lib.byteCells l ++ [.int .u8 (b.toNat : Int)] := by simp [Lib.byteCells]
theorem hf_byte (n k : Nat) : IntKind.u8.wrap ((n : Int) / 2 ^ k) = ((UInt8.ofNat (n / 2 ^ k % 256)).toNat : Int) := by
  have e : ((n : Int) / 2 ^ k) = ((n / 2 ^ k : Nat) : Int) := by simp
  rw [e, IntKind.wrap_u8]
  simp

set_option maxRecDepth 100000 in
set_option maxHeartbeats 1000000 in
theorem highest19 (base n c k : Nat) (l : List UInt8) (v : Value) (w : World) (_hn : n < 18446744073709551616) (hc : c ≤ 8) (hk : k ≤ 1000000) (hown : w.ownsRow base 5 1 v k (Lib.byteCells l)) (hb : base ≤ w.heap.size) :
    Calls Tryd.prog 82 #[v, .int .u64 (n : Int), .int .i64 (c : Int)] w fun e w' => ∃ v', e = .returned v' ∧ w'.ownsRow base 5 1 v' (k + c) (Lib.byteCells (l ++ hf n c)) ∧ Below base w w' := by
  obtain ⟨i0, hi, hz0, hz1, hz2⟩ := info_parts info5
  have HO := Lib.hid hown
  clear hown
  go_enter Tryd.func82, Tryd.ntmps82
  go_wp2
  go_loopw [0, 9] (fun v vi W => HfRel w base n c k l v vi W) (fun _ vi _ => c - (intOf vi).toNat)
  case atStart => exact ⟨0, by omega, rfl, by simpa [hfT] using HO.out, Below.refl _ _, hb⟩
  case round =>
    obtain ⟨i, hic, rfl, ho, hbl, hbw⟩ := hrel
    clear HO
    have HO := Lib.hid ho; have HB := Lib.hid hbl; have HW := Lib.hid hbw
    clear ho hbl hbw
    by_cases hlt : i < c
    · have hlt2 : (i : Int) < (c : Int) := by omega
      obtain ⟨s, hs⟩ : ∃ s, 8 * (c - 1 - i) = s := ⟨_, rfl⟩
      have hs64 : s < 64 := by omega
      have hsi : 8 * ((c : Int) - 1 - (i : Int)) = (s : Int) := by omega
      have hby := hf_byte n s
      have HN := Lib.hid (hfT_next n c i)
      rw [hs] at HN
      clear hs
      generalize UInt8.ofNat (n / 2 ^ s % 256) = b at *
      go_wp2_with (at_builtin; refine wpList_append_own _ rfl _ _ 76 rfl base 5 i0 (.int .u8 0) 1 1 Tryd.underlying76 hi hz0 hz1 hz2 rfl (by decide) _ _ _ rfl (HO.out.alloc _) ⟨wr.heap.size, 0, none⟩ 1 1 [.int .u8 (b.toNat : Int)] rfl rfl (new_one _ _ _) (one_cell_u8 _) (by unfold maxLen; omega) (by omega) (by have := HW.out; simp; omega) ?_; intro v' w1 hown' hgrow _; have HO1 := Lib.hid hown'; have HG1 := Lib.hid hgrow; clear hown' hgrow)
      go_roundw
      case rel =>
        refine ⟨i + 1, by omega, by go_num, ?_, HB.out.grown (World_grown_alloc HG1.out) HW.out (own_block_ge HO.out), by have := HG1.out.size; have := HW.out; simp at *; omega⟩
        rw [HN.out, ← List.append_assoc, byteCells_one]
        exact HO1.out
      case measure => simp [intOf]; omega
    · have hci : i = c := by omega
      have HF := Lib.hid (show wr.ownsRow base 5 1 u0 (k + c) (Lib.byteCells (l ++ hf n c)) by have h := HO.out; rw [hci] at h; exact h)
      clear hci
      go_wp2
      go_ret
      exact ⟨u0, rfl, HF.out, HB.out⟩

theorem ret_str {a b : ByteArray} (h : a = b) : Ending.returned (.string a) = .returned (.string b) := by rw [h]
/-- 'string(b)' of a row of bytes. -/
theorem conv_own {W : World} {base k : Nat} {v : Value} {l : List UInt8} (h : W.ownsRow base 5 1 v k (Lib.byteCells l)) : (convert 76 9 v).run Tryd.prog W = .ok (.string ⟨l.toArray⟩) W := by
  have hl : l.length = k := by have := h.1; simpa [Lib.byteCells] using this
  rcases h.2 with ⟨rfl, h0⟩ | ⟨g, cap, cur, rfl, _, hg, _, _, _, htk⟩
  · have : l = [] := List.eq_nil_of_length_eq_zero (by omega)
    subst this
    rw [run_convert_bytes_nil W 76 5 Tryd.underlying76 Tryd.underlying5 0 0 9 Tryd.underlying9]; rfl
  · subst hl
    exact run_convert_bytes_back W 76 9 5 ⟨g, 0, none⟩ cap l Tryd.underlying76 Tryd.underlying5 Tryd.underlying9
      (fun j hj => Lib.cells_of_row hg l.length j _ (by rw [← Nat.mul_one l.length, htk]; simp [Lib.byteCells, hj]))
theorem own_slice {W : World} {base k : Nat} {v : Value} {xs : List Value} (h : W.ownsRow base 5 1 v k xs) (h0 : 0 < k) : ∃ g cap, v = .slice (some ⟨g, 0, none⟩) k cap := by
  rcases h.2 with ⟨_, h1⟩ | ⟨g, cap, cur, rfl, _⟩
  · omega
  · exact ⟨g, cap, rfl⟩
theorem make36 (l c : Nat) (W : World) (h : l ≤ c) (hc : c ≤ 100000000) (x y : Int) (hx : x = (l : Int)) (hy : y = (c : Int)) (kx ky : IntKind) :
    (Instr.makeSlice 76 (.int kx x) (.int ky y)).run Tryd.prog W = .ok (.slice (some ⟨W.heap.size, 0, none⟩) l c) (W.alloc (.cells (madeCells #[.int .u8 0] c) 5)) := by
  obtain ⟨i0, hi, hz0, hz1, hz2⟩ := info_parts info5
  subst hx; subst hy
  have := run_make W 76 5 i0 _ Tryd.underlying76 hi hz0 kx ky (l : Int) (c : Int) (by omega) (by omega) (by rw [hz2]; omega) (by omega)
  rw [this, hz1]
  simp [Value.cells]
theorem made_list (c : Nat) : (madeCells #[.int .u8 0] c).toList = List.replicate c (.int .u8 0) := by
  apply List.ext_getElem
  · simp [madeCells]
  · intro i h1 h2
    simp [madeCells, Nat.mod_one]

set_option maxRecDepth 100000 in
set_option maxHeartbeats 1000000 in
theorem ending18 (n : Nat) (w : World) (hn : n ≤ 1000000) :
    Calls Tryd.prog 81 #[.int .u64 (n : Int)] w fun e w' => e = .returned (.string ⟨(endB n).toArray⟩) ∧ Below w.heap.size w w' := by
  obtain ⟨q, hq⟩ : ∃ q, q = padn n := ⟨_, rfl⟩
  have hq1 : (119 - (n : Int) % 64) % 64 = (q : Int) := by rw [hq]; unfold padn; omega
  have hq2 : q < 64 := by rw [hq]; unfold padn; omega
  have HE : Hid (endB n = (128 :: List.replicate q 0) ++ hf (8 * n) 8) := by
    show _ = _
    unfold endB; rw [be8_hf, hq]; rfl
  clear hq
  have hm : ∀ W, (Instr.makeSlice 76 (.int .u64 (1 + (q : Int))) (.int .u64 (9 + (q : Int)))).run Tryd.prog W = .ok (.slice (some ⟨W.heap.size, 0, none⟩) (1 + q) (9 + q)) (W.alloc (.cells (madeCells #[.int .u8 0] (9 + q)) 5)) :=
    fun W => make36 (1 + q) (9 + q) W (by omega) (by omega) _ _ (by omega) (by omega) _ _
  have hml := made_list (9 + q)
  have hms : (madeCells #[.int .u8 0] (9 + q)).size = 9 + q := by simp [madeCells]
  generalize madeCells #[.int .u8 0] (9 + q) = Z at *
  have HML := Lib.hid hml; have HMS := Lib.hid hms
  clear hml hms
  go_enter Tryd.func81, Tryd.ntmps81
  go_upto_region 3 with (fail)
  refine at_world (Φ := fun W => W.heap[w.heap.size]? = some (.cells Z 5 (0, 0)) ∧ Below w.heap.size w W ∧ w.heap.size < W.heap.size) ⟨heap_alloc_new w _, (Below.refl _ w).alloc (Nat.le_refl _) _, by simp⟩ ?_
  rintro W ⟨g1, g2, g3⟩
  obtain ⟨uu, huu⟩ := cell_of_blk g1 0 (by rw [HMS.out]; omega)
  have huf := free_of_blk g1 0
  have HO := Lib.hid (show (W.setCell ⟨w.heap.size, 0, none⟩ (.int .u8 128)).ownsRow w.heap.size 5 1 (.slice (some ⟨w.heap.size, 0, none⟩) (1 + q) (9 + q)) (1 + q) (Lib.byteCells (128 :: List.replicate q 0)) from by
    refine ⟨by simp [Lib.byteCells]; omega, .inr ⟨w.heap.size, 9 + q, _, rfl, Nat.le_refl _, set_blk g1 0 _, by omega, by unfold maxLen; omega, by simp [HMS.out], ?_⟩⟩
    rw [Array.toList_setIfInBounds, HML.out, show 9 + q = (q + 8) + 1 by omega, List.replicate_succ, List.set_cons_zero, show (1 + q) * 1 = q + 1 by omega, List.take_succ_cons]
    simp [Lib.byteCells, List.take_replicate])
  have HB := Lib.hid (g2.setCell (p := ⟨w.heap.size, 0, none⟩) (Nat.le_refl _) (.int .u8 128))
  have HS := Lib.hid g3
  have h8 : ((8 * n : Nat) : Int) = (8 : Int) * (n : Int) := by omega
  have hc19 := highest19 w.heap.size (8 * n) 8 (1 + q) _ _ _ (by omega) (by omega) (by omega) HO.out (by simp; have := HS.out; omega)
  rw [h8] at hc19
  have HC19 := Lib.hid hc19
  have hq3 : (0 : Int) < 1 + (q : Int) := by omega
  clear g1 g2 g3 hm h8 hc19
  go_wp2_with (go_at_call 82; refine HC19.out.mono ?_; rintro e w1 ⟨v', rfl, hown, hb1⟩; (obtain ⟨g', cap', hv'⟩ := own_slice hown (by omega)); subst hv'; have hcv := conv_own hown; have HB1 := Lib.hid hb1; clear hown hb1)
  go_ret
  exact ⟨ret_str (by rw [HE.out]; rfl), HB.out.trans (HB1.out)⟩
end Go.Proofs.YtipaicfmodgcoaaDoor
