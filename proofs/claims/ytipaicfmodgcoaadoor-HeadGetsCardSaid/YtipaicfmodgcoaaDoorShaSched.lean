/- The schedule of the program: the contract of schedule. -/
import Derived.Test.YtipaicfmodgcoaaDoorShaRounds
import Derived.StillTailTactics
import Derived.BigRegion
namespace Go.Proofs.YtipaicfmodgcoaaDoor
open Go.RowKit

/-- A block of bytes. -/
def bA (p : List UInt8) : Array Value := (p.map fun b => Value.int .u8 (b.toNat : Int)).toArray
theorem bA_at (p : List UInt8) (i : Nat) (h : i < p.length) : (bA p)[i]? = some (.int .u8 (byteAt p i : Int)) := by
  simp [bA, byteAt, List.getD, h]
theorem sch_len (p : List UInt8) (a n : Nat) : (sch p a n).length = n := by
  induction n with
  | zero => rfl
  | succ n ih => rw [sch, List.length_append, ih]; rfl
/-- The words' row, so many of them made. -/
def wrow (l : List Wd) (n : Nat) : Array Value := ((l.map wv) ++ List.replicate (n - l.length) (Value.int .u32 0)).toArray

theorem byteAt_lt (p : List UInt8) (i : Nat) : byteAt p i < 256 := UInt8.toNat_lt _
theorem BHeld_of {W : World} {g T : Nat} {p : List UInt8} (h : W.heap[g]? = some (.cells (bA p) T (0, 0))) (i : Nat) (hi : i < p.length) : W.cell? ⟨g, i, none⟩ = some (.int .u8 (byteAt p i : Int)) := by
  rw [cell_of_row W g i _ T (0, 0) h, bA_at p i hi]
theorem size5 (W : World) : (sizeOf 5).run Tryd.prog W = .ok 1 W := by kernel_rfl
theorem at_worldL {P : Program} {ops : Array Oper} {Q : Exit → Act → World → Prop} {rest : List Oper} {a : Act} {W : World} (Φ : World → Prop) (hΦ : Φ W) (h : ∀ W', Φ W' → wpList P ops Q rest a W') : wpList P ops Q rest a W := h W hΦ
theorem wrow_size (l : List Wd) (n : Nat) (h : l.length ≤ n) : (wrow l n).size = n := by simp [wrow]; omega
theorem wrow_set (l : List Wd) (n : Nat) (x : Wd) (h : l.length < n) : (wrow l n).setIfInBounds l.length (.int .u32 (vn x)) = wrow (l ++ [x]) n := by
  obtain ⟨m, hm⟩ : ∃ m, n - l.length = m + 1 := ⟨n - l.length - 1, by omega⟩
  unfold wrow
  apply Array.ext'
  rw [Array.toList_setIfInBounds, hm, List.length_append, show n - (l.length + [x].length) = m by simp; omega]
  simp only [List.replicate_succ]
  rw [List.set_append_right _ _ (by simp)]
  simp [wv, vn]
theorem wrow_at (l : List Wd) (n i : Nat) (h : i < l.length) : (wrow l n)[i]? = some (.int .u32 (vn (l.getD i 0))) := by
  simp [wrow, List.getElem?_append, h, List.getD, wv, vn]
theorem wrow_cell {W : World} {g T : Nat} {l : List Wd} {n : Nat} (h : W.heap[g]? = some (.cells (wrow l n) T (0, 0))) (i : Nat) (hi : i < l.length) : W.cell? ⟨g, i, none⟩ = some (.int .u32 (vn (l.getD i 0))) := by
  rw [cell_of_row W g i _ T (0, 0) h, wrow_at l n i hi]
theorem word_or (b0 b1 b2 b3 : Nat) (l0 : b0 < 256) (l1 : b1 < 256) (l2 : b2 < 256) (l3 : b3 < 256) :
    bits BinOp.or IntKind.u32 (bits BinOp.or IntKind.u32 (bits BinOp.or IntKind.u32 ((b0 : Int) * 16777216) ((b1 : Int) * 65536)) ((b2 : Int) * 256)) (b3 : Int) =
      vn (BitVec.ofNat 32 (((b0 * 256 + b1) * 256 + b2) * 256 + b3)) := by
  have e1 : (b0 : Int) * 16777216 = ((b0 * 16777216 : Nat) : Int) := by simp
  have e2 : (b1 : Int) * 65536 = ((b1 * 65536 : Nat) : Int) := by simp
  have e3 : (b2 : Int) * 256 = ((b2 * 256 : Nat) : Int) := by simp
  have o1 : b0 * 16777216 ||| b1 * 65536 = (b0 * 256 + b1) * 65536 := by
    rw [show b0 * 16777216 = b0 <<< 24 from (Nat.shiftLeft_eq b0 24).symm, ← Nat.shiftLeft_add_eq_or_of_lt (by omega), Nat.shiftLeft_eq]; omega
  have o2 : (b0 * 256 + b1) * 65536 ||| b2 * 256 = ((b0 * 256 + b1) * 256 + b2) * 256 := by
    rw [show (b0 * 256 + b1) * 65536 = (b0 * 256 + b1) <<< 16 from (Nat.shiftLeft_eq _ 16).symm, ← Nat.shiftLeft_add_eq_or_of_lt (by omega), Nat.shiftLeft_eq]; omega
  have o3 : ((b0 * 256 + b1) * 256 + b2) * 256 ||| b3 = ((b0 * 256 + b1) * 256 + b2) * 256 + b3 := by
    rw [show ((b0 * 256 + b1) * 256 + b2) * 256 = ((b0 * 256 + b1) * 256 + b2) <<< 8 from (Nat.shiftLeft_eq _ 8).symm, ← Nat.shiftLeft_add_eq_or_of_lt (by omega)]
  rw [e1, e2, u32_or_nat _ _ (by omega) (by omega), o1, e3, u32_or_nat _ _ (by omega) (by omega), o2, u32_or_nat _ _ (by omega) (by omega), o3]
  unfold vn
  rw [BitVec.toNat_ofNat]
  congr 1; omega
theorem sch_next1 (p : List UInt8) (i : Nat) (h : i < 16) (n : Nat) (hn : i < n) : (wrow (sch p 0 (0 + i)) n).setIfInBounds i (.int .u32 (vn (word4 p (4 * i)))) = wrow (sch p 0 (0 + (i + 1))) n := by
  have hl := sch_len p 0 (0 + i)
  have := wrow_set (sch p 0 (0 + i)) n (word4 p (4 * i)) (by rw [hl]; omega)
  rw [hl] at this
  rw [show 0 + (i + 1) = (0 + i) + 1 by omega, sch, if_pos (by omega), show 0 + 4 * (0 + i) = 4 * i by omega, ← this]
  rw [show 0 + i = i by omega]
theorem sch_next2 (p : List UInt8) (i : Nat) (n : Nat) (hn : 16 + i < n) : (wrow (sch p 0 (16 + i)) n).setIfInBounds (i + 16) (.int .u32 (vn (nextW (sch p 0 (16 + i)) (16 + i)))) = wrow (sch p 0 (16 + (i + 1))) n := by
  have hl := sch_len p 0 (16 + i)
  have := wrow_set (sch p 0 (16 + i)) n (nextW (sch p 0 (16 + i)) (16 + i)) (by rw [hl]; omega)
  rw [hl] at this
  rw [show 16 + (i + 1) = (16 + i) + 1 by omega, sch, if_neg (by omega), ← this, Nat.add_comm i 16]
theorem shr3 (x : Wd) : vn x / (8 : Int) = vn (x >>> 3) := by unfold vn; rw [BitVec.toNat_ushiftRight, Nat.shiftRight_eq_div_pow]; omega
theorem shr10 (x : Wd) : vn x / (1024 : Int) = vn (x >>> 10) := by unfold vn; rw [BitVec.toNat_ushiftRight, Nat.shiftRight_eq_div_pow]; omega
theorem info40 : (Tryd.prog.info? 34).map (·.size) = some 64 := by kernel_rfl
theorem wrow_one (l : List Wd) (n : Nat) : (wrow l n).all (·.oneCell') = true := by
  refine all_oneCell_toArray fun v hv => ?_
  rcases List.mem_append.1 hv with h | h
  · obtain ⟨x, _, rfl⟩ := List.mem_map.1 h; rfl
  · rw [List.eq_of_mem_replicate h]; rfl
theorem hin5 : Tryd.prog.elem 123 = 5 := by kernel_rfl

def SchRel (g : Nat) (w : World) (p : List UInt8) (d k : Nat) (v : Value) (W' : World) : Prop :=
  ∃ i : Nat, i ≤ k ∧ v = .int .i64 (i : Int) ∧ W'.heap[g]? = some (.cells (wrow (sch p 0 (d + i)) 64) 34 (0, 0)) ∧ Below w.heap.size w W'

set_option maxRecDepth 100000 in
set_option maxHeartbeats 1000000 in
theorem schedule25 (p : List UInt8) (w : World) (hl : p.length = 64) :
    Calls Tryd.prog 84 #[.agg (bA p)] w fun e w' => e = .returned (.agg (wrow (sch p 0 64) 64)) ∧ Below w.heap.size w w' := by
  have HL := Lib.hid hl
  clear hl
  generalize hB : bA p = ba
  have HBA := Lib.hid hB
  clear hB
  go_enter Tryd.func84, Tryd.ntmps84
  go_wp2
  refine at_world (Φ := fun W => W.heap[w.heap.size]? = some (.cells ba 123 (0, 0)) ∧ W.heap[w.heap.size + 1]? = some (.cells (wrow [] 64) 34 (0, 0)) ∧ W.heap[w.heap.size + 1 + 1]? = some (.cells (wrow [] 64) 34 (0, 0)) ∧ Below w.heap.size w W) ⟨three_alloc.1, three_alloc.2.1, three_alloc.2.2.1, three_alloc.2.2.2⟩ ?_
  rintro W ⟨g1, g2, g3, g4⟩
  have HBY := Lib.hid (show W.heap[w.heap.size]? = some (.cells (bA p) 123 (0, 0)) by rw [HBA.out]; exact g1)
  have H2 := Lib.hid g2
  have H3 := Lib.hid g3
  have HB := Lib.hid g4
  clear g1 g2 g3 g4
  go_loopw [9] (fun v W' => SchRel (w.heap.size + 1 + 1) w p 0 16 v W' ∧ W'.heap[w.heap.size]? = some (.cells (bA p) 123 (0, 0)) ∧ W'.heap[w.heap.size + 1]? = some (.cells (wrow [] 64) 34 (0, 0))) (fun v _ => 16 - (intOf v).toNat)
  case atStart => exact ⟨⟨0, by omega, rfl, H3.out, HB.out⟩, HBY.out, H2.out⟩
  case round =>
    obtain ⟨⟨i, hi, rfl, h1, h2⟩, h3, h4⟩ := hrel
    have H3 := Lib.hid h1; have HB := Lib.hid h2; have HBY := Lib.hid h3; have H2 := Lib.hid h4
    clear h1 h2 h3 h4
    by_cases hlt : i < 16
    · have hlt2 : (i : Int) < 16 := by omega
      have hal : Tryd.prog.arrayLen 123 = 64 := by kernel_rfl
      have hsl : ∀ W, (Instr.sliceAt 123 (.pointer (some ⟨w.heap.size, 0, none⟩)) (some (.int .i64 (4 * (i : Int)))) none none).run Tryd.prog W = .ok (.slice (some ⟨w.heap.size, 4 * i, none⟩) (64 - 4 * i) (64 - 4 * i)) W := fun W => by
        rw [run_sliceAt_array_l W 123 ⟨w.heap.size, 0, none⟩ (by kernel_rfl) .i64 (4 * (i : Int)) (by omega) (by rw [hal]; omega)]
        have e1 : (4 * (i : Int)).toNat = 4 * i := by omega
        rw [hin5, size5]; simp [slicedAt, hal, e1, Result.andThen, Addr.add_mid, if_neg (show ¬ 64 = 4 * i by omega)]
      clear hal
      obtain ⟨b0, hb0⟩ : ∃ b, byteAt p (4 * i) = b := ⟨_, rfl⟩
      obtain ⟨b1, hb1⟩ : ∃ b, byteAt p (4 * i + 1) = b := ⟨_, rfl⟩
      obtain ⟨b2, hb2⟩ : ∃ b, byteAt p (4 * i + 2) = b := ⟨_, rfl⟩
      obtain ⟨b3, hb3⟩ : ∃ b, byteAt p (4 * i + 3) = b := ⟨_, rfl⟩
      have l0 := byteAt_lt p (4 * i); have l1 := byteAt_lt p (4 * i + 1); have l2 := byteAt_lt p (4 * i + 2); have l3 := byteAt_lt p (4 * i + 3)
      have c0 := BHeld_of HBY.out (4 * i) (by rw [HL.out]; omega)
      have c1 := BHeld_of HBY.out (4 * i + 1) (by rw [HL.out]; omega)
      have c2 := BHeld_of HBY.out (4 * i + 2) (by rw [HL.out]; omega)
      have c3 := BHeld_of HBY.out (4 * i + 3) (by rw [HL.out]; omega)
      rw [hb0] at l0 c0; rw [hb1] at l1 c1; rw [hb2] at l2 c2; rw [hb3] at l3 c3
      have HB0 := Lib.hid hb0; have HB1 := Lib.hid hb1; have HB2 := Lib.hid hb2; have HB3 := Lib.hid hb3
      clear hb0 hb1 hb2 hb3
      go_wp2
      go_still_tail 23, (by kernel_rfl)
      refine at_worldL (Φ := fun W => W.heap[w.heap.size]? = some (.cells (bA p) 123 (0, 0)) ∧ W.heap[w.heap.size + 1]? = some (.cells (wrow [] 64) 34 (0, 0)) ∧ W.heap[w.heap.size + 1 + 1]? = some (.cells (wrow (sch p 0 (0 + i)) 64) 34 (0, 0)) ∧ Below w.heap.size w W) ⟨HBY.out, H2.out, H3.out, HB.out.drew⟩ ?_
      clear c0 c1 c2 c3 H2 H3 HB HBY
      rintro W2 ⟨h1, h2, h3, h4⟩
      obtain ⟨uu, huu⟩ := cell_of_blk h3 i (by rw [wrow_size _ _ (by rw [sch_len]; omega)]; omega)
      have huf := free_of_blk h3 i
      have HBY := Lib.hid h1; have H2 := Lib.hid h2; have H3 := Lib.hid h3; have HB := Lib.hid h4
      clear h1 h2 h3 h4
      go_wp2
      go_roundw
      case rel =>
        rw [word_or _ _ _ _ l0 l1 l2 l3, ← HB0.out, ← HB1.out, ← HB2.out, ← HB3.out]
        refine ⟨⟨i + 1, by omega, by go_num, ?_, ?_⟩, ?_, ?_⟩
        · rw [set_blk H3.out, ← sch_next1 p i hlt 64 (by omega)]; rfl
        · exact HB.out.setCell (by simp; omega) _
        · rw [Below.heap_setCell _ _ _ _ (by simp; omega)]; exact HBY.out
        · rw [Below.heap_setCell _ _ _ _ (by simp)]; exact H2.out
      case measure => simp [intOf]; omega
    · have hi16 : i = 16 := by omega
      have h16 : (i : Int) = 16 := by omega
      rw [h16]
      have H3 := Lib.hid (show wr.heap[w.heap.size + 1 + 1]? = some (.cells (wrow (sch p 0 (16 + 0)) 64) 34 (0, 0)) by have h := H3.out; rw [hi16] at h; exact h)
      clear hlt hi HBY hi16 h16
      have hadd := vn_add
      have hxor := vn_xor
      have hs3 := shr3
      have hs10 := shr10
      go_wp2
      go_loopw [41] (fun v W' => SchRel (w.heap.size + 1 + 1) w p 16 48 v W' ∧ W'.heap[w.heap.size + 1]? = some (.cells (wrow [] 64) 34 (0, 0))) (fun v _ => 48 - (intOf v).toNat)
      case atStart => exact ⟨⟨0, by omega, rfl, H3.out, HB.out⟩, H2.out⟩
      case round =>
        obtain ⟨⟨i, hi, rfl, h1, h2⟩, h4⟩ := hrel
        clear H3 HB H2
        have H3 := Lib.hid h1; have HB := Lib.hid h2; have H2 := Lib.hid h4
        clear h1 h2 h4
        by_cases hlt : i < 48
        · have hlt2 : (i : Int) < 48 := by omega
          have hlt3 : (i : Int) < 64 := by omega
          have hlt4 : (i : Int) + 9 < 64 := by omega
          have hlt5 : (i : Int) + 16 < 64 := by omega
          have hsl := sch_len p 0 (16 + i)
          have c0 := wrow_cell H3.out i (by omega)
          have c1 := wrow_cell H3.out (i + 1) (by omega)
          have c9 := wrow_cell H3.out (i + 9) (by omega)
          have c14 := wrow_cell H3.out (i + 14) (by omega)
          obtain ⟨x0, h0⟩ : ∃ x, (sch p 0 (16 + i)).getD i 0 = x := ⟨_, rfl⟩
          obtain ⟨x1, h1⟩ : ∃ x, (sch p 0 (16 + i)).getD (i + 1) 0 = x := ⟨_, rfl⟩
          obtain ⟨x9, h9⟩ : ∃ x, (sch p 0 (16 + i)).getD (i + 9) 0 = x := ⟨_, rfl⟩
          obtain ⟨x14, h14⟩ : ∃ x, (sch p 0 (16 + i)).getD (i + 14) 0 = x := ⟨_, rfl⟩
          rw [h0] at c0; rw [h1] at c1; rw [h9] at c9; rw [h14] at c14
          have HN : Hid (nextW (sch p 0 (16 + i)) (16 + i) = x0 + x9 + sg0 x1 + sg1 x14) := by
            show _ = _
            unfold nextW
            rw [show 16 + i - 16 = i by omega, show 16 + i - 7 = i + 9 by omega, show 16 + i - 15 = i + 1 by omega, show 16 + i - 2 = i + 14 by omega, h0, h1, h9, h14]
          clear h0 h1 h9 h14 hsl
          go_wp2
          go_quiet (fail)
          go_wp2
          refine at_world (Φ := fun W => W.cell? ⟨w.heap.size + 1 + 1, i, none⟩ = some (.int .u32 (vn x0)) ∧ W.cell? ⟨w.heap.size + 1 + 1, i + 9, none⟩ = some (.int .u32 (vn x9)) ∧
            W.heap[w.heap.size + 1]? = some (.cells (wrow [] 64) 34 (0, 0)) ∧ W.heap[w.heap.size + 1 + 1]? = some (.cells (wrow (sch p 0 (16 + i)) 64) 34 (0, 0)) ∧ Below w.heap.size w W) ⟨by simpa using c0, by simpa using c9, by simpa using H2.out, by simpa using H3.out, below_drewN HB.out _⟩ ?_
          clear c0 c1 c9 c14 H2 H3 HB
          rintro W2 ⟨c0, c9, h2, h3, h4⟩
          have H2 := Lib.hid h2; have H3 := Lib.hid h3; have HB := Lib.hid h4
          clear h2 h3 h4
          have s1 : IntKind.i64.wrap ((i : Int) + 9) = (i : Int) + 9 := IntWalk.i64_in _ (by omega)
          have s2 : 0 ≤ (i : Int) + 9 := by omega
          have s3 : ((i : Int) + 9).toNat = i + 9 := by omega
          have s4 : IntKind.i64.wrap ((i : Int) + 16) = (i : Int) + 16 := IntWalk.i64_in _ (by omega)
          have s5 : 0 ≤ (i : Int) + 16 := by omega
          have s6 : ((i : Int) + 16).toNat = i + 16 := by omega
          go_still_tail 28, (by kernel_rfl)
          repeat (first | still_step | ((refine wpStill_step (fun K hK => ?_)); go_simp; (refine ⟨_, (right_q _ _ _ (by decide) (by decide)), hK _ ?_⟩); clear hK K))
          refine wpStill_nil ?_
          refine at_worldL (Φ := fun W => W.heap[w.heap.size + 1]? = some (.cells (wrow [] 64) 34 (0, 0)) ∧ W.heap[w.heap.size + 1 + 1]? = some (.cells (wrow (sch p 0 (16 + i)) 64) 34 (0, 0)) ∧ Below w.heap.size w W) ⟨H2.out, H3.out, HB.out.drew⟩ ?_
          clear c0 c9 H2 H3 HB s1 s2 s3 s4 s5 s6
          rintro W3 ⟨h2, h3, h4⟩
          obtain ⟨uu, huu⟩ := cell_of_blk h3 (i + 16) (by rw [wrow_size _ _ (by rw [sch_len]; omega)]; omega)
          have huf := free_of_blk h3 (i + 16)
          have H2 := Lib.hid h2; have H3 := Lib.hid h3; have HB := Lib.hid h4
          clear h2 h3 h4
          go_wp2
          go_roundw
          case rel =>
            refine ⟨⟨i + 1, by omega, by go_num, ?_, ?_⟩, ?_⟩
            · rw [set_blk H3.out, ← sch_next2 p i 64 (by omega), HN.out]; rfl
            · exact HB.out.setCell (by simp; omega) _
            · rw [Below.heap_setCell _ _ _ _ (by simp)]; exact H2.out
          case measure => simp [intOf]; omega
        · have hi48 : i = 48 := by omega
          have h48 : (i : Int) = 48 := by omega
          have H3 := Lib.hid (show wr.heap[w.heap.size + 1 + 1]? = some (.cells (wrow (sch p 0 (16 + 48)) 64) 34 (0, 0)) by have h := H3.out; rw [hi48] at h; exact h)
          rw [h48]
          clear hi48 h48
          have i40 : (Tryd.prog.info? 34).map (·.size) = some (wrow (sch p 0 64) 64).size := by rw [wrow_size _ _ (by rw [sch_len]; omega)]; exact info40
          have z40 : (wrow [] 64).size = (wrow (sch p 0 64) 64).size := by rw [wrow_size (sch p 0 64) 64 (by rw [sch_len]; omega), wrow_size [] 64 (Nat.zero_le _)]
          have o40 := wrow_one (sch p 0 64) 64
          have h3' : wr.heap[w.heap.size + 1 + 1]? = some (.cells (wrow (sch p 0 64) 64) 34 (0, 0)) := H3.out
          clear H3
          generalize hws : wrow (sch p 0 64) 64 = ws at *
          have I40 := Lib.hid i40; have Z40 := Lib.hid z40
          generalize hz : wrow [] 64 = zs at *
          have HWS := Lib.hid hws
          have H3' := Lib.hid h3'
          have H2' := Lib.hid (show wr.heap[w.heap.size + 1]? = some (.cells zs 34 (0, 0)) from H2.out)
          clear h3' H2 hws hz i40 z40 hlt hi hadd hxor hs3 hs10
          go_wp2_with (first
            | (refine wpList_load_row rfl 34 (.tmp 3) rfl (w.heap.size + 1 + 1) rfl 34 ws (0, 0) _ H3'.out Tryd.underlying34 rfl I40.out ?_)
            | (refine wpList_store_row rfl 34 (.tmp 2) (.tmp 82) rfl (w.heap.size + 1) ws rfl rfl 34 zs H2'.out I40.out Z40.out o40 ?_))
          refine bodyPost_ret (v := .agg ws) ?_ rfl ⟨by rw [HWS.out], ?_⟩
          · rw [results_cell rfl]
            exact results_run1 _ _ _ rfl (run_loadVar_row _ _ 34 34 ws (0, 0) _ (setRow_heap _ _ zs ws 34 (0, 0) H2'.out) Tryd.underlying34 rfl I40.out)
          · exact below_row1 HB.out (by omega)
end Go.Proofs.YtipaicfmodgcoaaDoor
