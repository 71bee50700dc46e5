/- Contracts of Num, the program's and the document's: whatever number comes, both return the bytes that the plain mathematics names. -/
import Derived.Test.YtjbhgifdpdnppaaSmall
import Derived.Laws.IdiomStrings
import Derived.Deep.RegionWith
namespace Go.Proofs.Ytjbhgifdpdnppaa
open Go.RowKit

theorem ret_strN {a b : ByteArray} (h : a = b) : Ending.returned (.string a) = .returned (.string b) := by rw [h]

theorem cell_of_blkN {W : World} {g : Nat} {cs : Array Value} {t : TypeId} (h : W.heap[g]? = some (.cells cs t (0, 0))) (i : Nat) (hi : i < cs.size) : ∃ u, W.cell? ⟨g, i, none⟩ = some u := by
  refine ⟨cs[i], ?_⟩
  rw [cell_of_row W g i cs t (0, 0) h]; simp [hi]
theorem free_of_blkN {W : World} {g : Nat} {cs : Array Value} {t : TypeId} (h : W.heap[g]? = some (.cells cs t (0, 0))) (i : Nat) : W.frozen? ⟨g, i, none⟩ = false := by
  simp [World.frozen?, h]
theorem set_blkN {W : World} {g : Nat} {cs : Array Value} {t : TypeId} (h : W.heap[g]? = some (.cells cs t (0, 0))) (i : Nat) (u : Value) : (W.setCell ⟨g, i, none⟩ u).heap[g]? = some (.cells (cs.setIfInBounds i u) t (0, 0)) := by
  simp [World.setCell, Array.getElem?_modify, h]
theorem lt_of_blk {W : World} {g : Nat} {o : Obj} (h : W.heap[g]? = some o) : g < W.heap.size := by
  rcases Nat.lt_or_ge g W.heap.size with hlt | hge
  · exact hlt
  · rw [Array.getElem?_eq_none hge] at h; cases h

/-- Bytes that stand in a block's first cells, and one more behind them. -/
theorem take_set (cs : Array Value) (k : Nat) (pre : List UInt8) (b : UInt8) (hk : k < cs.size) (_hp : pre.length = k) (h : cs.toList.take k = Lib.byteCells pre) :
    (cs.setIfInBounds k (.int .u8 (b.toNat : Int))).toList.take (k + 1) = Lib.byteCells (pre ++ [b]) := by
  rw [Array.toList_setIfInBounds, List.take_add_one, List.take_set_of_le (by omega), h, Lib.byteCells_append]
  simp [hk, Lib.byteCells]

/-- 'string(b[:n])' where the block's first cells are bytes. -/
theorem conv_blk (W : World) (g : Nat) (cs : Array Value) (t : TypeId) (c : Nat) (l : List UInt8) (h : W.heap[g]? = some (.cells cs t (0, 0))) (htk : cs.toList.take l.length = Lib.byteCells l) :
    (convert 39 9 (.slice (some ⟨g, 0, none⟩) l.length c)).run Try.prog W = .ok (.string ⟨l.toArray⟩) W :=
  run_convert_bytes_back W 39 9 5 ⟨g, 0, none⟩ c l Try.underlying39 Try.underlying5 Try.underlying9
    (fun j hj => Lib.cells_of_row h l.length j _ (by rw [htk]; simp [Lib.byteCells, hj]))

set_option maxRecDepth 100000 in
theorem slice49 (W : World) (g k : Nat) (h : k ≤ 9) : (Instr.sliceAt 65 (.pointer (some ⟨g, 0, none⟩)) none (some (.int .i64 ((k : Int) + 1))) none).run Try.prog W = .ok (.slice (some ⟨g, 0, none⟩) (k + 1) 10) W := by
  have ha : Try.prog.arrayLen 65 = 10 := by kernel_rfl
  have := run_sliceAt_array_h (P := Try.prog) (w := W) (t := 65) (a := ⟨g, 0, none⟩) Try.underlying65 .i64 ((k : Int) + 1) (by omega) (by rw [ha]; omega)
  rw [this, ha]
  congr 2

/-- What the loop of Num holds: k digits are laid, m is left. -/
def NumRel (w : World) (n : Int) (b0 b4 : Value) (W : World) : Prop :=
  ∃ (k m : Nat) (pre : List UInt8) (cs : Array Value), k ≤ 9 ∧ b4 = .int .i64 k ∧ b0 = .int .u64 m ∧ (m : Int) ≤ n ∧ m * 128 ^ k < 18446744073709551616 ∧ M.enc n.toNat = pre ++ M.encF (9 - k) m ∧ pre.length = k ∧
    cs.size = 10 ∧ cs.toList.take k = Lib.byteCells pre ∧ W.heap[w.heap.size]? = some (.cells cs 65 (0, 0)) ∧ Below w.heap.size w W

theorem or128 (m : Int) (h1 : 0 ≤ m) : bits BinOp.or IntKind.u8 (IntKind.u8.wrap m) 128 = ((UInt8.ofNat (m.toNat % 128 + 128)).toNat : Int) := by
  obtain ⟨a, rfl⟩ := Int.eq_ofNat_of_zero_le h1
  rw [M.toNat_hi, IntKind.wrap_u8]
  rw [u8_or _ _ (by omega) (by omega) (by omega) (by omega)]
  have e1 : ((a : Int) % 256).toNat = a % 256 := by omega
  have e2 : (128 : Int).toNat = 128 := rfl
  rw [e1, e2, Int.toNat_natCast]
  have : a % 256 ||| 128 = a % 128 + 128 := by
    by_cases h : a % 256 < 128
    · have := nat_join 7 128 (a % 256) (by decide) (by simpa using h)
      rw [Nat.or_comm, this]; omega
    · have e : a % 256 = 128 ||| (a % 128) := by
        rw [nat_join 7 128 (a % 128) (by decide) (by simpa using Nat.mod_lt a (by omega : 0 < 128))]; omega
      rw [e, Nat.or_comm, ← Nat.or_assoc, Nat.or_self, ← e]; omega
  rw [this]

set_option maxRecDepth 100000 in
set_option maxHeartbeats 400000 in
theorem num8 (n : Int) (w : World) (h1 : 0 ≤ n) (h2 : n ≤ 18446744073709551615) :
    Calls Try.prog 15 #[.int .u64 n] w fun e w' => e = .returned (.string (M.encB n.toNat)) ∧ Below w.heap.size w w' := by
  have hst : NumRel w n (.int .u64 n) (.int .i64 0) (w.alloc (.cells #[.int .u8 0, .int .u8 0, .int .u8 0, .int .u8 0, .int .u8 0, .int .u8 0, .int .u8 0, .int .u8 0, .int .u8 0, .int .u8 0] 65)) :=
    ⟨0, n.toNat, [], _, by omega, rfl, by rw [Int.toNat_of_nonneg h1], by omega, by omega, rfl, rfl, rfl, rfl, heap_alloc_new w _, (Below.refl _ w).alloc (Nat.le_refl _) _⟩
  go_enter Try.func15, Try.ntmps15
  go_wp2
  go_loopw [0, 4] (fun b0 b4 W => NumRel w n b0 b4 W) (fun b0 _ _ => (intOf b0).toNat)
  case atStart => exact hst
  case round =>
    clear hst
    obtain ⟨k, m, pre, cs, hk, rfl, rfl, hmn, hm, henc, hpre, hcs, htk, hW, hb⟩ := hrel
    obtain ⟨u1, c1⟩ := cell_of_blkN hW k (by omega)
    have c2 := free_of_blkN hW k
    by_cases hlt : m < 128
    · have ht : ¬ (128 : Int) ≤ m := by omega
      have hs := slice49
      have HF : Hid (M.enc n.toNat = pre ++ [UInt8.ofNat m]) := by
        show M.enc n.toNat = _
        rw [henc]
        cases 9 - k with
        | zero => rfl
        | succ f => rw [M.encF, if_pos hlt]
      have e0 : (UInt8.ofNat m).toNat = m := M.toNat_lo m hlt
      have hW2 := set_blkN hW k (.int .u8 (m : Int))
      have htk2 := take_set cs k pre (UInt8.ofNat m) (by omega) hpre htk
      rw [e0] at htk2
      have hl2 : (pre ++ [UInt8.ofNat m]).length = k + 1 := by simp [hpre]
      have hcv := conv_blk _ _ _ _ 10 (pre ++ [UInt8.ofNat m]) hW2 (by rw [hl2]; exact htk2)
      rw [hl2] at hcv
      have hb2 := hb.setCell (p := ⟨w.heap.size, k, none⟩) (Nat.le_refl _) (.int .u8 (m : Int))
      have HW2 := Lib.hid hW2; clear hW2
      have HE := Lib.hid henc; clear henc
      have HP := Lib.hid hpre; clear hpre
      have HC := Lib.hid hcs
      have HT := Lib.hid htk; clear htk
      have HT2 := Lib.hid htk2; clear htk2
      have HL := Lib.hid hl2; clear hl2
      have HE0 := Lib.hid e0; clear e0
      clear hW hcs
      go_wp2
      go_ret
      exact ⟨ret_strN (by unfold M.encB; rw [HF.out]), hb2⟩
    · have ht : (128 : Int) ≤ m := by omega
      have hk9 : k ≠ 9 := by
        rintro rfl
        have : (128 : Nat) ^ 9 = 9223372036854775808 := by decide
        rw [this] at hm; omega
      have HB := Lib.hid (or128 m (by omega))
      have hb2 := hb.setCell (p := ⟨w.heap.size, k, none⟩) (Nat.le_refl _) (bits BinOp.or IntKind.u8 (IntKind.u8.wrap m) 128 |> Value.int .u8)
      have hW2 := set_blkN hW k (bits BinOp.or IntKind.u8 (IntKind.u8.wrap m) 128 |> Value.int .u8)
      have HR : Hid (NumRel w n (.int .u64 ((m : Int) / 128)) (.int .i64 ((k : Int) + 1)) (wr.setCell ⟨w.heap.size, k, none⟩ (.int .u8 (bits BinOp.or IntKind.u8 (IntKind.u8.wrap m) 128)))) := by
        refine ⟨k + 1, m / 128, pre ++ [UInt8.ofNat (m % 128 + 128)], _, by omega, by go_num, by go_num, by omega, ?_, ?_, by simp [hpre], by simpa using hcs, ?_, hW2, hb2⟩
        · rw [Nat.pow_succ, ← Nat.mul_assoc]
          refine Nat.lt_of_le_of_lt ?_ hm
          rw [Nat.mul_assoc, Nat.mul_comm (128 ^ k) 128, ← Nat.mul_assoc]
          exact Nat.mul_le_mul_right _ (by omega)
        · rw [henc]
          obtain ⟨f, hf⟩ : ∃ f, 9 - k = f + 1 := ⟨8 - k, by omega⟩
          rw [hf, M.encF, if_neg hlt, show 9 - (k + 1) = f from by omega]; simp
        · rw [HB.out, Int.toNat_natCast]
          exact take_set cs k pre _ (by omega) hpre htk
      clear hW2 hb2 henc hpre hcs htk hW HB
      go_wp2
      go_roundw
      case rel => exact HR.out
      case measure => simp [intOf]; omega
/-- 'string([]byte{b})' where the block is one byte. -/
theorem conv_one (W : World) (g : Nat) (b : UInt8) (h : W.heap[g]? = some (.cells #[.int .u8 (b.toNat : Int)] 5 (0, 0))) :
    (convert 39 9 (.slice (some ⟨g, 0, none⟩) 1 1)).run Try.prog W = .ok (.string ⟨#[b]⟩) W :=
  conv_blk W g _ 5 1 [b] h rfl

theorem cat_str (b : UInt8) (l : List UInt8) : (⟨#[b]⟩ : ByteArray) ++ ⟨l.toArray⟩ = ⟨(b :: l).toArray⟩ := by
  apply ByteArray.ext; simp

set_option maxRecDepth 100000 in
set_option maxHeartbeats 400000 in
theorem ref9F (f : Nat) : f ≤ 9 → ∀ (n : Int) (w : World), 0 ≤ n → n < 128 ^ (f + 1) → n ≤ 18446744073709551615 →
    Calls Try.prog 19 #[.int .u64 n] w fun e w' => e = .returned (.string ⟨(M.encF f n.toNat).toArray⟩) ∧ Below w.heap.size w w' := by
  have base : ∀ (f : Nat) (n : Int) (w : World), 0 ≤ n → n < 128 →
      Calls Try.prog 19 #[.int .u64 n] w fun e w' => e = .returned (.string ⟨(M.encF f n.toNat).toArray⟩) ∧ Below w.heap.size w w' := by
    intro f n w h0 hlt
    have HF : Hid (M.encF f n.toNat = [UInt8.ofNat n.toNat]) := by
      show M.encF f n.toNat = _
      cases f with
      | zero => rfl
      | succ f => rw [M.encF, if_pos (by omega)]
    have e0 : ((UInt8.ofNat n.toNat).toNat : Int) = n := by rw [M.toNat_lo _ (by omega)]; omega
    have hcv := conv_one (w.alloc (.cells #[.int .u8 n] 5)) w.heap.size (UInt8.ofNat n.toNat) (by rw [e0]; exact heap_alloc_new w _)
    clear e0
    go_enter Try.func19, Try.ntmps19
    go_wp2_with fail
    go_ret
    exact ⟨ret_strN (by rw [HF.out]), (Below.refl _ w).alloc (Nat.le_refl _) _⟩
  induction f with
  | zero => intro _ n w h0 hm h64; exact base 0 n w h0 (by omega)
  | succ f ih =>
    intro hf9 n w h0 hm h64
    by_cases hlt : n < 128
    · exact base _ n w h0 hlt
    · obtain ⟨b, hb⟩ : ∃ b, b = UInt8.ofNat (n.toNat % 128 + 128) := ⟨_, rfl⟩
      have he1 : IntKind.u8.wrap (IntKind.u8.wrap (n.tmod 128) + 128) = (b.toNat : Int) := by
        rw [hb, M.toNat_hi, Int.tmod_eq_emod_of_nonneg h0]
        simp only [IntKind.wrap_u8]; omega
      have he2 : IntKind.u64.wrap (n.tdiv 128) = n / 128 := by
        rw [Int.tdiv_eq_ediv_of_nonneg h0, IntKind.wrap_u64]; omega
      have HF : Hid (M.encF (f + 1) n.toNat = b :: M.encF f (n / 128).toNat) := by
        show M.encF (f + 1) n.toNat = _
        rw [M.encF, if_neg (by omega), hb]
        congr 2; omega
      have IH := Lib.hid (ih (by omega) (n / 128) · (by omega) (by rw [Int.pow_succ] at hm; omega) (by omega)); clear ih base
      have hA1 : ∀ W : World, (convert 39 9 (.slice (some ⟨W.heap.size, 0, none⟩) 1 1)).run Try.prog (W.alloc (.cells #[.int .u8 (b.toNat : Int)] 5)) = .ok (.string ⟨#[b]⟩) (W.alloc (.cells #[.int .u8 (b.toNat : Int)] 5)) :=
        fun W => conv_one _ _ b (heap_alloc_new W _)
      have hA2 : ∀ W : World, (convert 39 9 (.slice (some ⟨W.heap.size, 0, none⟩) 1 1)).run Try.prog (W.alloc (.cells #[.int .u8 (b.toNat : Int)] 5)).drew = .ok (.string ⟨#[b]⟩) (W.alloc (.cells #[.int .u8 (b.toNat : Int)] 5)).drew :=
        fun W => conv_one (W.alloc (.cells #[.int .u8 (b.toNat : Int)] 5)).drew _ b (heap_alloc_new W _)
      have hlen : (M.encF f (n / 128).toNat).length ≤ f + 1 := (M.encF_len f _).2
      clear hb hm
      go_enter Try.func19, Try.ntmps19
      go_wp2_with fail
      go_region_with (go_at_call 19; refine (IH.out _).mono ?_; rintro e w1 ⟨rfl, hb1⟩; first | (have hq := conv_one w1 w.heap.size b ((hb1.block _ (by simp)).trans (heap_alloc_new w _))) | skip)
      all_goals
        go_wp2
        go_ret
        refine ⟨ret_strN (by rw [HF.out]; exact cat_str b _), ?_⟩
        first
          | exact ((Below.refl _ w).alloc (Nat.le_refl _) _).drew.trans (hb1.mono (by simp))
          | exact ((Below.refl _ w).drew.trans hb1).alloc hb1.size _

/-- The document's Num returns the number's bytes. -/
theorem ref9 (n : Int) (w : World) (h0 : 0 ≤ n) (h64 : n ≤ 18446744073709551615) :
    Calls Try.prog 19 #[.int .u64 n] w fun e w' => e = .returned (.string (M.encB n.toNat)) ∧ Below w.heap.size w w' :=
  ref9F 9 (Nat.le_refl _) n w h0 (by
    have : (128 : Int) ^ (9 + 1) = 1180591620717411303424 := by decide
    rw [this]; omega) h64
end Go.Proofs.Ytjbhgifdpdnppaa
