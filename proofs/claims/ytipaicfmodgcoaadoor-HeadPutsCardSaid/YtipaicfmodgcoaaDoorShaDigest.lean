/- The document's digest: the contract of Digest. -/
import Derived.Test.YtipaicfmodgcoaaDoorShaRowZ
import Derived.Test.YtipaicfmodgcoaaDoorShaKeyFacts
namespace Go.Proofs.YtipaicfmodgcoaaDoor
open Go.RowKit

def padJ (l : List UInt8) (j : Nat) : List UInt8 := l ++ 128 :: List.replicate j 0
theorem padJ_len (l : List UInt8) (j : Nat) : (padJ l j).length = l.length + 1 + j := by simp [padJ]; omega
theorem padJ_next (l : List UInt8) (j : Nat) : padJ l (j + 1) = padJ l j ++ [0] := by
  unfold padJ; rw [List.append_assoc, List.cons_append, ← List.replicate_succ']
def sliceLen : Value → Nat
  | .slice _ n _ => n
  | _ => 0
/-- What stands while the bytes are made. -/
def PRel (W : World) (base : Nat) (l : List UInt8) (v : Value) (W' : World) : Prop := ownZ W' base v l.length (Lib.byteCells l) ∧ Below base W W' ∧ base ≤ W'.heap.size
theorem PRel.grown {W W1 W2 : World} {base : Nat} {l l' : List UInt8} {v v' : Value} (h : PRel W base l v W1) {o : Obj} (hg : (W1.alloc o).grownBy W2 v.ownBlock) (ho : ownZ W2 base v' l'.length (Lib.byteCells l')) : PRel W base l' v' W2 :=
  ⟨ho, (h.2.1.alloc h.2.2 o).grown hg (by have := h.2.2; simp; omega) (ownZ_ge h.1), by have := hg.size; have := h.2.2; simp at *; omega⟩
theorem cell_new1 (W : World) (v : Value) (T : TypeId) : (W.alloc (.cells #[v] T)).cell? ⟨W.heap.size, 0, none⟩ = some v := cell_of_one (heap_alloc_new W _)
theorem bc_snoc (l : List UInt8) (b : UInt8) : Lib.byteCells (l ++ [b]) = Lib.byteCells l ++ [.int .u8 (b.toNat : Int)] := byteCells_one l b

/-- A word out of its first bytes. -/
def pw (p : List UInt8) (a : Nat) : Nat → Wd
  | 0 => 0
  | j + 1 => pw p a j * 256#32 + BitVec.ofNat 32 (byteAt p (a + j))
theorem pw_4 (p : List UInt8) (a : Nat) : pw p a 4 = word4 p a := by
  have h0 := byteAt_lt p a; have h1 := byteAt_lt p (a + 1); have h2 := byteAt_lt p (a + 2); have h3 := byteAt_lt p (a + 3)
  apply BitVec.eq_of_toNat_eq
  simp only [pw, word4, BitVec.toNat_add, BitVec.toNat_mul, BitVec.toNat_ofNat, Nat.add_zero]
  omega
theorem vn_mul256 (x : Wd) : (vn x * 256) % 4294967296 = vn (x * 256#32) := by unfold vn; rw [BitVec.toNat_mul]; simp
theorem vn_addb (x : Wd) (b : Nat) : (vn x + (b : Int)) % 4294967296 = vn (x + BitVec.ofNat 32 b) := by unfold vn; rw [BitVec.toNat_add, BitVec.toNat_ofNat]; omega
theorem vn_muladd (x : Wd) (b : Nat) : (vn x * 256 + (b : Int)) % 4294967296 = vn (x * 256#32 + BitVec.ofNat 32 b) := by rw [← vn_addb, ← vn_mul256]; omega
theorem vn_mod (x : Wd) : vn x % 4294967296 = vn x := by have := vn_lo x; have := vn_hi x; omega
theorem wrow_set0 (l : List Wd) (n : Nat) : (wrow l n).setIfInBounds l.length (.int .u32 (vn 0)) = wrow l n := by
  apply Array.ext_getElem?
  intro j
  rw [Array.getElem?_setIfInBounds]
  by_cases hj : l.length = j
  · subst hj
    by_cases hn : l.length < (wrow l n).size
    · rw [if_pos rfl, if_pos hn]
      have hn2 : l.length < n := by simp [wrow] at hn; omega
      show some (Value.int .u32 0) = _
      unfold wrow
      rw [List.getElem?_toArray, List.getElem?_append_right (by simp)]
      simp [List.getElem?_replicate]; omega
    · rw [if_pos rfl, if_neg hn, Array.getElem?_eq_none (by omega)]
  · rw [if_neg hj]
theorem turn_q (x : Wd) (n : Nat) (w : World) (h0 : 0 < n) (h1 : n < 32) :
    Calls Tryd.prog 54 #[.int .u32 (vn x), .int .i64 (n : Int)] w fun e w' => e = .returned (.int .u32 (vn (ror x n))) ∧ w' = w := (turn_v x n w h0 h1).mono fun _ _ h => ⟨h.1, h.2.symm⟩
theorem move_q (x : Wd) (n : Nat) (w : World) (h1 : n < 32) :
    Calls Tryd.prog 55 #[.int .u32 (vn x), .int .i64 (n : Int)] w fun e w' => e = .returned (.int .u32 (vn (x >>> n))) ∧ w' = w := (move_v x n w h1).mono fun _ _ h => ⟨h.1, h.2.symm⟩
theorem sch_nextA (p : List UInt8) (a i n : Nat) (h : i < 16) (hn : i < n) : (wrow (sch p a i) n).setIfInBounds i (.int .u32 (vn (word4 p (a + 4 * i)))) = wrow (sch p a (i + 1)) n := by
  have hl := sch_len p a i
  have := wrow_set (sch p a i) n (word4 p (a + 4 * i)) (by rw [hl]; omega)
  rw [hl] at this
  rw [sch, if_pos h, ← this]
theorem sch_nextB (p : List UInt8) (a i n : Nat) (h : ¬ i < 16) (hn : i < n) : (wrow (sch p a i) n).setIfInBounds i (.int .u32 (vn (nextW (sch p a i) i))) = wrow (sch p a (i + 1)) n := by
  have hl := sch_len p a i
  have := wrow_set (sch p a i) n (nextW (sch p a i) i) (by rw [hl]; omega)
  rw [hl] at this
  rw [sch, if_neg h, ← this]
theorem set_set (A : Array Value) (i : Nat) (v u : Value) : (A.setIfInBounds i v).setIfInBounds i u = A.setIfInBounds i u := by
  apply Array.ext'
  simp [Array.toList_setIfInBounds]
theorem set_cell {W : World} {g T : Nat} {A : Array Value} {i : Nat} {v : Value} (h : W.heap[g]? = some (.cells (A.setIfInBounds i v) T (0, 0))) (hi : i < A.size) : W.cell? ⟨g, i, none⟩ = some v := by
  rw [cell_of_row W g i _ T (0, 0) h]
  simp [hi]
theorem st_set8 {W : World} {g T : Nat} {s : St} (h : W.heap[g]? = some (.cells (stA s) T (0, 0))) (v0 v1 v2 v3 v4 v5 v6 v7 : Value) :
    (((((((((W.setCell ⟨g, 0, none⟩ v0).setCell ⟨g, 1, none⟩ v1).setCell ⟨g, 2, none⟩ v2).setCell ⟨g, 3, none⟩ v3).setCell ⟨g, 4, none⟩ v4).setCell ⟨g, 5, none⟩ v5).setCell ⟨g, 6, none⟩ v6).setCell ⟨g, 7, none⟩ v7).heap[g]? = some (.cells #[v0, v1, v2, v3, v4, v5, v6, v7] T (0, 0))) := by
  have e : (((((((((stA s).setIfInBounds 0 v0).setIfInBounds 1 v1).setIfInBounds 2 v2).setIfInBounds 3 v3).setIfInBounds 4 v4).setIfInBounds 5 v5).setIfInBounds 6 v6).setIfInBounds 7 v7) = #[v0, v1, v2, v3, v4, v5, v6, v7] := by simp [stA]
  have h8 := set_blk (set_blk (set_blk (set_blk (set_blk (set_blk (set_blk (set_blk h 0 v0) 1 v1) 2 v2) 3 v3) 4 v4) 5 v5) 6 v6) 7 v7
  rw [e] at h8
  exact h8
theorem hf4_cells (y : Nat) (h : y < 4294967296) : Lib.byteCells (hf y 4) = [.int .u8 ((y / 16777216 : Nat) : Int), .int .u8 ((y / 65536 % 256 : Nat) : Int), .int .u8 ((y / 256 % 256 : Nat) : Int), .int .u8 ((y % 256 : Nat) : Int)] := by
  simp only [Lib.byteCells, hf, List.range, List.range.loop, List.map_cons, List.map_nil]
  rw [show 2 ^ (8 * (4 - 1 - 0)) = 16777216 from rfl, show 2 ^ (8 * (4 - 1 - 1)) = 65536 from rfl, show 2 ^ (8 * (4 - 1 - 2)) = 256 from rfl, show 2 ^ (8 * (4 - 1 - 3)) = 1 from rfl, Nat.div_one]
  simp only [UInt8.toNat_ofNat', Nat.mod_mod]
  rw [Nat.mod_eq_of_lt (show y / 16777216 < 256 by omega)]
theorem four_one (a b c d : Int) : ∀ u ∈ [Value.int .u8 a, Value.int .u8 b, Value.int .u8 c, Value.int .u8 d], u.oneCell' = true := by
  intro u hu; simp at hu; rcases hu with rfl | rfl | rfl | rfl <;> rfl
theorem new_four (W : World) (a b c d : Value) (T : TypeId) : ∀ (j : Nat) (u : Value), [a, b, c, d][j]? = some u → (W.alloc (.cells #[a, b, c, d] T)).cell? ((⟨W.heap.size, 0, none⟩ : Addr).add j) = some u := by
  intro j u hj
  rw [Addr.add_mid, cell_of_row _ _ _ _ T (0, 0) (heap_alloc_new W _)]
  simpa using hj
theorem bc_at (p : List UInt8) (j : Nat) (h : j < p.length) : (Lib.byteCells p)[j]? = some (.int .u8 (byteAt p j : Int)) := by
  simp [Lib.byteCells, byteAt, h, List.getD]

set_option maxRecDepth 100000 in
set_option maxHeartbeats 40000000 in
theorem digest16 (s : ByteArray) (w : World) (hs : s.size ≤ 100000) :
    Calls Tryd.prog 29 #[.agg keyCells, .string s] w fun e w' => e = .returned (.string ⟨(digB s.data.toList).toArray⟩) ∧ Below w.heap.size w w' := by
  have hkk := key_k
  have hkh := key_h
  have hks := key_size
  generalize keyCells = kc at *
  have HKK := Lib.hid hkk; have HKH := Lib.hid hkh; have HKS := Lib.hid hks
  clear hkk hkh hks
  obtain ⟨n, hn⟩ : ∃ n, s.size = n := ⟨_, rfl⟩
  have hn1 : n ≤ 100000 := by omega
  obtain ⟨l, hl⟩ : ∃ l, s.data.toList = l := ⟨_, rfl⟩
  have hll : l.length = n := by rw [← hl, ← hn]; simp
  rw [hl]
  have HN := Lib.hid hn; have HLL := Lib.hid hll; have HL := Lib.hid hl
  clear hn hll hl
  go_enter Tryd.func29, Tryd.ntmps29
  go_upto_region 1 with (fail)
  refine at_world (Φ := fun W => W.heap[w.heap.size]? = some (.cells kc 37 (0, 0)) ∧ Below w.heap.size w W ∧ W.heap.size = w.heap.size + 1) ⟨heap_alloc_new w _, (Below.refl _ w).alloc (Nat.le_refl _) _, by simp⟩ ?_
  rintro W ⟨h1, h2, h3⟩
  obtain ⟨base, hbase⟩ : ∃ base, W.heap.size = base := ⟨_, rfl⟩
  obtain ⟨v1, w1, hconv, ho1, hb1, hs1⟩ := bytes_of W s (by omega)
  rw [HN.out, HL.out] at ho1
  rw [hbase] at h3 ho1 hb1 hs1
  have HKB := Lib.hid h1; have HBW := Lib.hid h2; have HBS := Lib.hid h3; have HBB := Lib.hid hbase
  have HP1 := Lib.hid (show PRel W base l v1 w1 from ⟨by rw [HLL.out]; exact ho1, hb1, by omega⟩)
  obtain ⟨g1, cap1, hv1, _⟩ := ownZ_slice ho1
  subst hv1
  clear h1 h2 h3 ho1 hb1 hs1 hbase
  go_upto_region 3 with (at_builtin; refine wpList_append_Z rfl _ _ rfl base _ n (Lib.byteCells l) rfl (ownZ_alloc (by have h := HP1.out.1; rw [HLL.out] at h; exact h) _) ⟨w1.heap.size, 0, none⟩ (.int .u8 128) rfl (cell_new1 _ _ _) rfl (by omega) (by have := HP1.out.2.2; simp; omega) ?_; intro v2 w2 ho2 hg2; have HO2 := Lib.hid ho2; have HG2 := Lib.hid hg2; clear ho2 hg2)
  have HP2 := Lib.hid (show PRel W base (padJ l 0) v2 w2 from HP1.out.grown HG2.out (by rw [padJ_len, HLL.out]; have h := HO2.out; rw [show padJ l 0 = l ++ [128] from rfl, bc_snoc]; exact h))
  clear HO2 HG2 hconv
  go_loopw [5] (fun v W' => ∃ j, j ≤ padn n ∧ PRel W base (padJ l j) v W') (fun v _ => n + 70 - sliceLen v)
  case atStart => exact ⟨0, by omega, HP2.out⟩
  case round =>
    clear HP1 HP2
    obtain ⟨j, hj, hp⟩ := hrel
    obtain ⟨L, hL⟩ : ∃ L, (padJ l j).length = L := ⟨_, rfl⟩
    have hLn : L = n + 1 + j := by rw [← hL, padJ_len, HLL.out]
    have ho := hp.1
    rw [hL] at ho
    obtain ⟨g, cap, hv, _⟩ := ownZ_slice ho
    subst hv
    have HP := Lib.hid hp; have HO := Lib.hid ho; have HLN := Lib.hid hLn; have HLL2 := Lib.hid hL
    have hjn : padn n < 64 := by unfold padn; omega
    have hL2 : L ≤ 200000 := by omega
    clear hp ho hL
    by_cases hlt : j < padn n
    · as_aux_lemma =>
      have ht : ((L : Int) % 64 != 56) = true := by rw [bne_iff_ne]; unfold padn at *; omega
      clear hLn
      go_wp2_with (at_builtin; refine wpList_append_Z rfl _ _ rfl base _ L (Lib.byteCells (padJ l j)) rfl (ownZ_alloc HO.out _) ⟨wr.heap.size, 0, none⟩ (.int .u8 0) rfl (cell_new1 _ _ _) rfl (by omega) (by have := HP.out.2.2; simp; omega) ?_; intro v2 w2 ho2 hg2; have HO2 := Lib.hid ho2; have HG2 := Lib.hid hg2; clear ho2 hg2)
      go_roundw
      case rel => exact ⟨j + 1, by omega, HP.out.grown HG2.out (by rw [padJ_next, bc_snoc, List.length_append, HLL2.out]; exact HO2.out)⟩
      case measure =>
        obtain ⟨g2, cap2, hv2, _⟩ := ownZ_slice HO2.out
        subst hv2
        simp [sliceLen]; have := HLN.out; omega
    · have ht : ((L : Int) % 64 != 56) = false := by rw [bne_eq_false_iff_eq]; unfold padn at *; omega
      have hjp : j = padn n := by omega
      clear hLn
      go_upto_region 6 with (fail)
      obtain ⟨M, hM⟩ : ∃ M, 8 * n = M := ⟨_, rfl⟩
      have eM : (s.size : Int) * 8 = (M : Int) := by have := HN.out; omega
      rw [eM]
      have hM2 : M ≤ 800000 := by omega
      obtain ⟨B, hB⟩ : ∃ B, padJ l j = B := ⟨_, rfl⟩
      have HBJ := Lib.hid (show padJ l (padn n) = B by rw [← hjp]; exact hB)
      rw [hB] at HP HO HLL2
      have HMM := Lib.hid hM
      have HLB := Lib.hid (show L % 64 = 56 from by have h := HLN.out; rw [h, hjp]; unfold padn; omega)
      clear eM hB hM hjp ht hlt hj
      go_upto_region 7 with (fail)
      go_loopw [5, 7] (fun v vi W' => ∃ i : Nat, i ≤ 8 ∧ vi = .int .i64 (i : Int) ∧ PRel W base (B ++ hfT M 8 i) v W') (fun _ vi _ => 8 - (intOf vi).toNat)
      case atStart => exact ⟨0, by omega, rfl, by simpa [hfT] using HP.out⟩
      case round =>
        clear HP HO
        obtain ⟨i, hi, rfl, hp⟩ := hrel
        obtain ⟨L2, hL2⟩ : ∃ L2, (B ++ hfT M 8 i).length = L2 := ⟨_, rfl⟩
        have hLn2 : L2 = L + i := by rw [← hL2, List.length_append, HLL2.out]; simp [hfT]
        have ho := hp.1
        rw [hL2] at ho
        obtain ⟨g2, cap2, hv2, _⟩ := ownZ_slice ho
        subst hv2
        have HP := Lib.hid hp; have HO := Lib.hid ho; have HLN2 := Lib.hid hLn2; have HLL3 := Lib.hid hL2
        have hL3 : L2 ≤ 200100 := by omega
        clear hp ho hL2 hLn2
        by_cases hlt : i < 8
        · as_aux_lemma =>
          have hlt2 : (i : Int) < 8 := by omega
          go_upto_region 11 with (fail)
          go_loop [8, 9] (fun vd vj => ∃ k d : Nat, k ≤ 7 - i ∧ vj = .int .i64 ((i + k : Nat) : Int) ∧ vd = .int .u64 (d : Int) ∧ d = M / 256 ^ k) (fun _ vj => 7 - (intOf vj).toNat)
          case atStart => exact ⟨0, M, by omega, rfl, rfl, by simp⟩
          case round =>
            obtain ⟨k, d, hk, rfl, rfl, hd⟩ := hrel
            have hdM : d ≤ 800000 := by rw [hd]; exact Nat.le_trans (Nat.div_le_self _ _) hM2
            have HD := Lib.hid hd
            clear hd
            by_cases hlt3 : i + k < 7
            · have hlt4 : ((i + k : Nat) : Int) < 7 := by omega
              go_wp2
              go_round
              case rel => exact ⟨k + 1, d / 256, by omega, by go_num, by go_num, by rw [HD.out, Nat.pow_succ, Nat.div_div_eq_div_mul]⟩
              case measure => simp [intOf]; omega
            · have hlt4 : ¬ ((i + k : Nat) : Int) < 7 := by omega
              obtain ⟨b, hb⟩ : ∃ b, UInt8.ofNat (M / 2 ^ (8 * (8 - 1 - i)) % 256) = b := ⟨_, rfl⟩
              have hby : (d : Int) % 256 = (b.toNat : Int) := by
                have hki : k = 7 - i := by omega
                rw [← hb, HD.out, hki, show (256 : Nat) = 2 ^ 8 from rfl, ← Nat.pow_mul, show 8 * (8 - 1 - i) = 8 * (7 - i) by omega]
                simp
              have HNX := Lib.hid (show hfT M 8 (i + 1) = hfT M 8 i ++ [b] by rw [hfT_next, hb])
              clear hb
              go_wp2_with (at_builtin; refine wpList_append_Z rfl _ _ rfl base _ L2 (Lib.byteCells (B ++ hfT M 8 i)) rfl (ownZ_alloc HO.out _) ⟨wr.heap.size, 0, none⟩ (.int .u8 (b.toNat : Int)) rfl (cell_new1 _ _ _) rfl (by omega) (by have := HP.out.2.2; simp; omega) ?_; intro v2 w2 ho2 hg2; have HO2 := Lib.hid ho2; have HG2 := Lib.hid hg2; clear ho2 hg2)
              go_roundw
              case rel => exact ⟨i + 1, by omega, by go_num, HP.out.grown HG2.out (by rw [HNX.out, ← List.append_assoc, bc_snoc, List.length_append (bs := [b]), HLL3.out]; exact HO2.out)⟩
              case measure => simp [intOf]; omega
        · have hi8 : i = 8 := by omega
          obtain ⟨W0, hW0⟩ : ∃ W0, W0 = wr := ⟨_, rfl⟩
          subst hW0
          obtain ⟨Pd, hPd⟩ : ∃ P, B ++ hfT M 8 i = P := ⟨_, rfl⟩
          have HPAD := Lib.hid (show Pd = pad l from by rw [← hPd, hi8, ← HBJ.out, ← HMM.out]; unfold pad padJ endB; rw [be8_hf, HLL.out, List.append_assoc]; rfl)
          have ei : (i : Int) = 8 := by omega
          rw [ei]
          rw [hPd] at HP HO HLL3
          obtain ⟨K, hK⟩ : ∃ K, L2 / 64 = K := ⟨_, rfl⟩
          have hK64 : L2 = 64 * K := by have := HLN2.out; have := HLB.out; omega
          have hKb : K ≤ 4000 := by omega
          obtain ⟨g3, cap3, hv3, hgb, hcap, hglt, hcells⟩ := ownZ_slice HO.out
          have e3 : g3 = g2 := by simpa [Value.ownBlock] using congrArg Value.ownBlock hv3.symm
          subst e3
          clear hv3
          obtain ⟨B1, hB1⟩ : ∃ B1, W0.heap.size = B1 := ⟨_, rfl⟩
          have HCELL := Lib.hid (show ∀ j, j < L2 → W0.cell? ⟨g3, j, none⟩ = some (.int .u8 (byteAt Pd j : Int)) from fun j hj => hcells j _ (bc_at Pd j (by rw [HLL3.out]; exact hj)))
          have hkb := (HP.out.2.1.block w.heap.size (by have := HBS.out; omega)).trans HKB.out
          rw [hB1] at hglt
          have HB1 := Lib.hid hB1
          have HKBR := Lib.hid hkb
          have HBWR := Lib.hid (HBW.out.trans (HP.out.2.1.mono (by have := HBS.out; omega)))
          have HB1b := Lib.hid (show w.heap.size < B1 from by have := HP.out.2.2; have := HBS.out; omega)
          have hl41 : (Instr.loadAt 35 (.pointer (some ⟨w.heap.size, 64, none⟩))).run Tryd.prog W0 = .ok (.agg (stA st0)) W0 := by
            have hr : W0.rangeAt w.heap.size 64 (stA st0).toList := fun j v hv => by
              have hj : j < 8 := (List.getElem?_eq_some_iff.1 hv).1
              rw [cell_of_row W0 _ _ kc 37 (0, 0) hkb, HKH.out j hj, ← hv, Array.getElem?_toList, stA_at st0 j hj]
            have := load_at (P := Tryd.prog) W0 w.heap.size 64 35 (stA st0).toList _ hr Tryd.underlying35 rfl (by rw [info41]; rfl)
            simpa using this
          have hone := stA_one st0
          have hinf : (Tryd.prog.info? 35).map (·.size) = some (stA st0).size := info41
          have hsz8 : (8 : Nat) = (stA st0).size := rfl
          have hsa0 : stA (blks Pd 0) = stA st0 := rfl
          generalize stA st0 = sa0 at *
          have HL41 := Lib.hid hl41; have HINF := Lib.hid hinf; have HSZ8 := Lib.hid hsz8; have HSA0 := Lib.hid hsa0; have HKK64 := Lib.hid hK64
          have HGLT := Lib.hid hglt
          clear hl41 hinf hsz8 hsa0 hPd hi8 ei hK hK64 hkb hB1 hlt hcells hglt HLN2 HLB HLN HLL2 HBJ HMM HP HO
          go_upto_region 16 with (first
            | (refine wpList_load_eq rfl 35 (.tmp 64) rfl _ _ rfl HL41.out ?_)
            | (refine wpList_store_row rfl 35 (.tmp 10) (.tmp 65) rfl W0.heap.size sa0 rfl rfl 35 _ (heap_alloc_new W0 _) HINF.out HSZ8.out hone ?_))
          refine at_world (Φ := fun W1 => W1.heap[B1]? = some (.cells sa0 35 (0, 0)) ∧ Below B1 W0 W1 ∧ B1 < W1.heap.size) ⟨by rw [← HB1.out]; exact setRow_heap _ _ _ _ 35 (0, 0) (heap_alloc_new W0 _), ?_, by rw [← HB1.out]; simp⟩ ?_
          · rw [← HB1.out]; exact below_row1 ((Below.refl _ W0).alloc (Nat.le_refl _) _) (Nat.le_refl _)
          rintro W1 ⟨h1, h2, h3⟩
          rw [HB1.out]
          have HS1 := Lib.hid (show W1.heap[B1]? = some (.cells (stA (blks Pd 0)) 35 (0, 0)) by rw [HSA0.out]; exact h1)
          have HB2 := Lib.hid h2; have HB3 := Lib.hid h3
          clear h1 h2 h3 hone
          go_upto_region 17 with (fail)
          go_loopw [11] (fun v W' => ∃ k : Nat, k ≤ K ∧ v = .int .i64 ((64 * k : Nat) : Int) ∧ W'.heap[B1]? = some (.cells (stA (blks Pd k)) 35 (0, 0)) ∧ Below B1 W0 W' ∧ B1 < W'.heap.size) (fun v _ => 64 * K - (intOf v).toNat)
          case atStart => exact ⟨0, by omega, rfl, HS1.out, HB2.out, HB3.out⟩
          case round =>
            clear HS1 HB2 HB3
            obtain ⟨k, hk, rfl, h1, h2, h3⟩ := hrel
            obtain ⟨S, hS⟩ : ∃ S, blks Pd k = S := ⟨_, rfl⟩
            rw [hS] at h1
            have HS := Lib.hid hS; have HST := Lib.hid h1; have HB2 := Lib.hid h2; have HB3 := Lib.hid h3
            clear hS h1 h2 h3
            obtain ⟨a, ha⟩ : ∃ a, 64 * k = a := ⟨_, rfl⟩
            rw [ha]
            have HA := Lib.hid ha
            clear ha
            by_cases hlt : k < K
            · have hal : (a : Int) < (L2 : Int) := by have := HA.out; have := HKK64.out; omega
              have hab : a + 64 ≤ L2 := by have := HA.out; have := HKK64.out; omega
              go_upto_region 20 with (fail)
              obtain ⟨gw, hgw⟩ : ∃ gw, wr.heap.size = gw := ⟨_, rfl⟩
              have hgb1 : B1 < gw := by rw [← hgw]; exact HB3.out
              refine at_world (Φ := fun W2 => W2.heap[gw]? = some (.cells (wrow (sch Pd a 0) 64) 34 (0, 0)) ∧ W2.heap[B1]? = some (.cells (stA S) 35 (0, 0)) ∧ Below B1 W0 W2 ∧ gw < W2.heap.size) ⟨?_, ?_, HB2.out.alloc (Nat.le_of_lt HB3.out) _, ?_⟩ ?_
              · rw [← hgw]; exact heap_alloc_new wr _
              · rw [Below.heap_alloc _ _ _ HB3.out]; exact HST.out
              · rw [← hgw]; simp
              rintro W2 ⟨h1, h2, h4, h5⟩
              rw [hgw]
              have HW0 := Lib.hid h1; have HST := Lib.hid h2; have HBW2 := Lib.hid h4; have HGW := Lib.hid h5
              clear h1 h2 h4 h5 hgw HB2 HB3
              have HP2 := Lib.hid (show ∀ j, j < L2 → W2.cell? ⟨g3, j, none⟩ = some (.int .u8 (byteAt Pd j : Int)) from fun j hj => (HBW2.out.cell (p := ⟨g3, j, none⟩) HGLT.out).trans (HCELL.out j hj))
              have HK2 := Lib.hid (show ∀ j, j < 64 → W2.cell? ⟨w.heap.size, j, none⟩ = some (.int .u32 (vn (kw j))) from fun j hj => (HBW2.out.cell (p := ⟨w.heap.size, j, none⟩) HB1b.out).trans (by rw [cell_of_row _ _ j kc 37 (0, 0) HKBR.out]; exact HKK.out j hj))
              go_upto_region 21 with (fail)
              go_loopw [13] (fun v W' => ∃ i : Nat, i ≤ 64 ∧ v = .int .i64 (i : Int) ∧ W'.heap[gw]? = some (.cells (wrow (sch Pd a i) 64) 34 (0, 0)) ∧ Below gw W2 W') (fun v _ => 64 - (intOf v).toNat)
              case atStart => exact ⟨0, by omega, rfl, HW0.out, Below.refl _ _⟩
              case round =>
                clear HW0
                obtain ⟨i, hi, rfl, h1, h2⟩ := hrel
                have HWI := Lib.hid h1; have HB5 := Lib.hid h2
                clear h1 h2
                by_cases hlt : i < 64
                · as_aux_lemma =>
                  have hlt2 : (i : Int) < 64 := by omega
                  by_cases h16 : i < 16
                  · have h162 : (i : Int) < 16 := by omega
                    go_upto_region 25 with (fail)
                    go_loopw [14] (fun v W' => ∃ j : Nat, j ≤ 4 ∧ v = .int .i64 (j : Int) ∧ W'.heap[gw]? = some (.cells ((wrow (sch Pd a i) 64).setIfInBounds i (.int .u32 (vn (pw Pd (a + 4 * i) j)))) 34 (0, 0)) ∧ Below gw W2 W') (fun v _ => 4 - (intOf v).toNat)
                    case atStart =>
                      have hz := wrow_set0 (sch Pd a i) 64
                      rw [sch_len] at hz
                      exact ⟨0, by omega, rfl, by rw [show pw Pd (a + 4 * i) 0 = 0 from rfl, hz]; exact HWI.out, HB5.out⟩
                    case round =>
                      clear HWI HB5
                      obtain ⟨j, hj, rfl, h1, h2⟩ := hrel
                      have HWI := Lib.hid h1; have HB5 := Lib.hid h2
                      clear h1 h2
                      by_cases hj4 : j < 4
                      · have hj42 : (j : Int) < 4 := by omega
                        have hws : i < (wrow (sch Pd a i) 64).size := by rw [wrow_size _ _ (by rw [sch_len]; omega)]; omega
                        have c1 := set_cell HWI.out hws
                        obtain ⟨uu, huu⟩ : ∃ uu, wr.cell? ⟨gw, i, none⟩ = some uu := ⟨_, c1⟩
                        have f1 := free_of_blk HWI.out i
                        obtain ⟨q, hq⟩ : ∃ q, a + 4 * i + j = q := ⟨_, rfl⟩
                        have hqL : q < L2 := by omega
                        have c2 := (HB5.out.cell (p := ⟨g3, q, none⟩) (Nat.lt_trans HGLT.out hgb1)).trans (HP2.out q hqL)
                        have hqi : (q : Int) < (L2 : Int) := by omega
                        have hq0 : (0 : Int) ≤ (q : Int) := by omega
                        have s1 : IntKind.i64.wrap (4 * (i : Int)) = 4 * (i : Int) := IntWalk.i64_in _ (by omega)
                        have s2 : IntKind.i64.wrap ((a : Int) + 4 * (i : Int)) = (a : Int) + 4 * (i : Int) := IntWalk.i64_in _ (by omega)
                        have s3 : IntKind.i64.wrap ((a : Int) + 4 * (i : Int) + (j : Int)) = (q : Int) := by rw [IntWalk.i64_in _ (by omega)]; omega
                        have s4 : (a : Int) + 4 * (i : Int) + (j : Int) = (q : Int) := by omega
                        have s5 : IntKind.i64.wrap (q : Int) = (q : Int) := IntWalk.i64_in _ (by omega)
                        obtain ⟨x, hx⟩ : ∃ x, pw Pd (a + 4 * i) j = x := ⟨_, rfl⟩
                        obtain ⟨b, hb⟩ : ∃ b, byteAt Pd q = b := ⟨_, rfl⟩
                        have hb256 : b < 256 := by rw [← hb]; exact byteAt_lt _ _
                        rw [hx] at c1; rw [hb] at c2
                        have hmul := vn_mul256 x
                        have hadb := vn_addb (x * 256#32) b
                        have HNX := Lib.hid (show pw Pd (a + 4 * i) (j + 1) = x * 256#32 + BitVec.ofNat 32 b by rw [pw, hx, hq, hb])
                        clear hx hb hq huu
                        go_wp2
                        go_still_tail 16, (by kernel_rfl)
                        refine at_worldL (Φ := fun W => W.heap[gw]? = wr.heap[gw]? ∧ Below gw W2 W) ?_ ?_
                        · exact ⟨rfl, HB5.out.drew⟩
                        rintro W6 ⟨h1, h2⟩
                        rw [HWI.out] at h1
                        obtain ⟨uu, huu⟩ := cell_of_blk h1 i (by simpa using hws)
                        have f2 := free_of_blk h1 i
                        have HW6 := Lib.hid h1; have HB6 := Lib.hid h2
                        clear h1 h2 s1 s2 s3 s4 s5 c1 c2 hmul hadb f1
                        go_wp2
                        go_roundw
                        case rel => exact ⟨j + 1, by omega, by go_num, by rw [HNX.out, set_blk HW6.out, set_set, vn_muladd], HB6.out.setCell (by simp) _⟩
                        case measure => simp [intOf]; omega
                      · have hj4 : j = 4 := by omega
                        have ej : (j : Int) = 4 := by omega
                        have HW6 := Lib.hid (show wr.heap[gw]? = some (.cells (wrow (sch Pd a (i + 1)) 64) 34 (0, 0)) by have h := HWI.out; rw [hj4, pw_4, sch_nextA Pd a i 64 h16 hlt] at h; exact h)
                        clear HWI
                        rw [ej]
                        clear hj4 ej
                        go_wp2
                        go_roundw
                        case rel => exact ⟨i + 1, by omega, by go_num, HW6.out, HB5.out⟩
                        case measure => simp [intOf]; omega
                  · have h162 : ¬ (i : Int) < 16 := by omega
                    obtain ⟨u, hu⟩ : ∃ u, i = u + 16 := ⟨i - 16, by omega⟩
                    have hl := sch_len Pd a i
                    have c0 := wrow_cell HWI.out u (by omega)
                    have c1 := wrow_cell HWI.out (u + 1) (by omega)
                    have c9 := wrow_cell HWI.out (u + 9) (by omega)
                    have c14 := wrow_cell HWI.out (u + 14) (by omega)
                    obtain ⟨x0, h0⟩ : ∃ x, (sch Pd a i).getD u 0 = x := ⟨_, rfl⟩
                    obtain ⟨x1, h1⟩ : ∃ x, (sch Pd a i).getD (u + 1) 0 = x := ⟨_, rfl⟩
                    obtain ⟨x9, h9⟩ : ∃ x, (sch Pd a i).getD (u + 9) 0 = x := ⟨_, rfl⟩
                    obtain ⟨x14, h14⟩ : ∃ x, (sch Pd a i).getD (u + 14) 0 = x := ⟨_, rfl⟩
                    rw [h0] at c0; rw [h1] at c1; rw [h9] at c9; rw [h14] at c14
                    have HNX := Lib.hid (show wrow (sch Pd a (i + 1)) 64 = (wrow (sch Pd a i) 64).setIfInBounds i (.int .u32 (vn (x0 + x9 + sg0 x1 + sg1 x14))) by
                      rw [← sch_nextB Pd a i 64 h16 hlt]
                      unfold nextW
                      rw [show i - 16 = u by omega, show i - 7 = u + 9 by omega, show i - 15 = u + 1 by omega, show i - 2 = u + 14 by omega, h0, h1, h9, h14])
                    clear h0 h1 h9 h14 hl
                    obtain ⟨i1, hi1⟩ : ∃ x, u + 1 = x := ⟨_, rfl⟩
                    obtain ⟨i9, hi9⟩ : ∃ x, u + 9 = x := ⟨_, rfl⟩
                    obtain ⟨i14, hi14⟩ : ∃ x, u + 14 = x := ⟨_, rfl⟩
                    rw [hi1] at c1; rw [hi9] at c9; rw [hi14] at c14
                    have r1 : (i : Int) - 15 = (i1 : Int) := by omega
                    have r2 : (i : Int) - 2 = (i14 : Int) := by omega
                    have r3 : (i : Int) - 16 = (u : Int) := by omega
                    have r4 : (i : Int) - 7 = (i9 : Int) := by omega
                    have w1' : IntKind.i64.wrap ((i : Int) - 15) = (i1 : Int) := by rw [IntWalk.i64_in _ (by omega)]; omega
                    have w2' : IntKind.i64.wrap ((i : Int) - 2) = (i14 : Int) := by rw [IntWalk.i64_in _ (by omega)]; omega
                    have w3' : IntKind.i64.wrap ((i : Int) - 16) = (u : Int) := by rw [IntWalk.i64_in _ (by omega)]; omega
                    have w4' : IntKind.i64.wrap ((i : Int) - 7) = (i9 : Int) := by rw [IntWalk.i64_in _ (by omega)]; omega
                    have b1 : (i1 : Int) < 64 := by omega
                    have b2 : (i14 : Int) < 64 := by omega
                    have b3 : (u : Int) < 64 := by omega
                    have b4 : (i9 : Int) < 64 := by omega
                    have hadd := vn_add
                    have hxor := vn_xor
                    clear hu hi1 hi9 hi14
                    go_upto_region 28 with (fail)
                    go_quiet (fail)
                    go_wp2
                    refine at_world (Φ := fun W => W.cell? ⟨gw, u, none⟩ = some (.int .u32 (vn x0)) ∧ W.cell? ⟨gw, i9, none⟩ = some (.int .u32 (vn x9)) ∧ W.heap[gw]? = some (.cells (wrow (sch Pd a i) 64) 34 (0, 0)) ∧ Below gw W2 W) ?_ ?_
                    · exact ⟨by simpa using c0, by simpa using c9, by simpa using HWI.out, below_drewN HB5.out _⟩
                    clear c0 c1 c9 c14 HWI HB5
                    rintro W5 ⟨c0, c9, h2, h3⟩
                    have HWI := Lib.hid h2; have HB5 := Lib.hid h3
                    clear h2 h3 r1 r2 w1' w2' b1 b2
                    have v3 : IntKind.i64.wrap (u : Int) = (u : Int) := IntWalk.i64_in _ (by omega)
                    have v4 : IntKind.i64.wrap (i9 : Int) = (i9 : Int) := IntWalk.i64_in _ (by omega)
                    have hlt64 : (i : Int) < 64 := hlt2
                    go_still_tail 28, (by kernel_rfl)
                    repeat (first | still_step | ((refine wpStill_step (fun K hK => ?_)); go_simp; (first | (refine ⟨_, (turn_q _ _ _ (by decide) (by decide)), hK _ ?_⟩) | (refine ⟨_, (move_q _ _ _ (by decide)), hK _ ?_⟩)); clear hK K))
                    refine wpStill_nil ?_
                    refine at_worldL (Φ := fun W => W.heap[gw]? = some (.cells (wrow (sch Pd a i) 64) 34 (0, 0)) ∧ Below gw W2 W) ?_ ?_
                    · exact ⟨HWI.out, HB5.out.drew⟩
                    clear c0 c9 HWI HB5 v3 v4 r3 r4 w3' w4'
                    rintro W6 ⟨h2, h3⟩
                    obtain ⟨uu, huu⟩ := cell_of_blk h2 i (by rw [wrow_size _ _ (by rw [sch_len]; omega)]; omega)
                    have huf := free_of_blk h2 i
                    have HWI := Lib.hid h2; have HB5 := Lib.hid h3
                    clear h2 h3
                    go_wp2
                    go_roundw
                    case rel => exact ⟨i + 1, by omega, by go_num, by rw [HNX.out, set_blk HWI.out]; rfl, HB5.out.setCell (by simp) _⟩
                    case measure => simp [intOf]; omega
                · --END5
                  have hi64 : i = 64 := by omega
                  have ei : (i : Int) = 64 := by omega
                  rw [ei]
                  obtain ⟨W5, hW5⟩ : ∃ W5, W5 = wr := ⟨_, rfl⟩
                  subst hW5
                  have HWS := Lib.hid (show WHeld W5 gw (sch Pd a 64) from fun j hj => by have h := HWI.out; rw [hi64] at h; exact wrow_cell h j hj)
                  have HSS := Lib.hid (SHeld_of (s := S) ((HB5.out.block B1 hgb1).trans HST.out))
                  have HKS2 := Lib.hid (show ∀ j, j < 64 → W5.cell? ⟨w.heap.size, j, none⟩ = some (.int .u32 (vn (kw j))) from fun j hj => (HB5.out.cell (p := ⟨w.heap.size, j, none⟩) (Nat.lt_trans HB1b.out hgb1)).trans (HK2.out j hj))
                  have HSB := Lib.hid ((HB5.out.block B1 hgb1).trans HST.out)
                  have HBT := Lib.hid (HBW2.out.trans (HB5.out.mono (Nat.le_of_lt hgb1)))
                  have HBSZ := Lib.hid (show B1 < W5.heap.size by have := HB5.out.size; have := HGW.out; omega)
                  have HLW := Lib.hid (sch_len Pd a 64)
                  obtain ⟨wd, hwd⟩ : ∃ wd, sch Pd a 64 = wd := ⟨_, rfl⟩
                  rw [hwd] at HWS HLW
                  have HWD := Lib.hid hwd
                  have hadd := vn_add
                  have hxor := vn_xor
                  have hor := vn_or
                  have hand := vn_and
                  have hnot := vn_not
                  have hmod := vn_mod
                  clear hwd hi64 ei hlt hi HWI HB5 HP2 HK2
                  go_upto_region 30 with (fail)
                  obtain ⟨k0, k1, k2, k3, k4, k5, k6, k7⟩ := HSS.out
                  go_quiet (fail)
                  go_upto_region 32 with (fail)
                  clear k0 k1 k2 k3 k4 k5 k6 k7
                  go_loopw [17, 18, 19, 20, 21, 22, 23, 24, 25] (fun va vb vc vd ve vf vg vh vi W' => RndRel W5 wd S va vb vc vd ve vf vg vh vi W') (fun _ _ _ _ _ _ _ _ vi _ => 64 - (intOf vi).toNat)
                  case atStart => exact ⟨0, by omega, rfl, rfl, rfl, rfl, rfl, rfl, rfl, rfl, rfl, nq, rfl⟩
                  case round =>
                    obtain ⟨i, hi, rfl, rfl, rfl, rfl, rfl, rfl, rfl, rfl, rfl, n7, rfl⟩ := hrel
                    by_cases hlt : i < 64
                    · as_aux_lemma =>
                      have hlt2 : (i : Int) < 64 := by omega
                      have k1 := HKS2.out i hlt
                      have k2 := HWS.out i (by rw [HLW.out]; exact hlt)
                      obtain ⟨Si, hS⟩ : ∃ Si, rnds wd S i = Si := ⟨_, rfl⟩
                      obtain ⟨wi, hwi⟩ : ∃ wi, wd.getD i 0 = wi := ⟨_, rfl⟩
                      obtain ⟨ki, hki⟩ : ∃ ki, kw i = ki := ⟨_, rfl⟩
                      rw [hS]; rw [hwi] at k2; rw [hki] at k1
                      have HSI := Lib.hid hS; have HWI := Lib.hid hwi; have HKI := Lib.hid hki
                      clear hS hwi hki
                      go_upto_region 34 with (fail)
                      refine at_world (Φ := fun W9 => W9.cell? ⟨w.heap.size, i, none⟩ = some (.int .u32 (vn ki)) ∧ W9.cell? ⟨gw, i, none⟩ = some (.int .u32 (vn wi)) ∧ ∃ m, W9 = W5.drewN m) ?_ ?_
                      · exact ⟨by simpa using k1, by simpa using k2, n7, rfl⟩
                      clear k1 k2
                      rintro W9 ⟨k1, k2, hm⟩
                      have HM := Lib.hid hm
                      clear hm
                      go_quiet ((go_at_call 54; exact Calls.quiet_of_same (turn_q _ _ _ (by decide) (by decide))))
                      go_wp2_with (go_at_call 54; refine (turn_v _ _ _ (by decide) (by decide)).mono ?_; rintro e w' ⟨rfl, rfl⟩)
                      go_roundw
                      case rel =>
                        obtain ⟨m, rfl⟩ := HM.out
                        refine ⟨i + 1, by omega, ?_, ?_, ?_, ?_, ?_, ?_, ?_, ?_, by go_num, m + nq, World.drewN_drewN _ _ _⟩ <;> (rw [rnds, HSI.out, HKI.out, HWI.out]; rfl)
                      case measure => simp [intOf]; omega
                    · --END7
                      have hi64 : i = 64 := by omega
                      have ei : (i : Int) = 64 := by omega
                      rw [ei]
                      obtain ⟨R, hR⟩ : ∃ R, rnds wd S 64 = R := ⟨_, rfl⟩
                      have HRR := Lib.hid hR
                      rw [hi64, hR]
                      clear hR hi64 ei hlt hi hxor hor hand hnot hmod
                      have hwp := st_set8 (W := W5.drewN n7) (g := B1) (T := 35) HSB.out
                      have HSET := Lib.hid hwp
                      clear hwp
                      refine at_world (Φ := fun W10 => SHeld W10 B1 S ∧ (∀ o, W10.frozen? ⟨B1, o, none⟩ = false) ∧ (∀ v0 v1 v2 v3 v4 v5 v6 v7, (((((((((W10.setCell ⟨B1, 0, none⟩ v0).setCell ⟨B1, 1, none⟩ v1).setCell ⟨B1, 2, none⟩ v2).setCell ⟨B1, 3, none⟩ v3).setCell ⟨B1, 4, none⟩ v4).setCell ⟨B1, 5, none⟩ v5).setCell ⟨B1, 6, none⟩ v6).setCell ⟨B1, 7, none⟩ v7).heap[B1]? = some (.cells #[v0, v1, v2, v3, v4, v5, v6, v7] 35 (0, 0)))) ∧ Below B1 W0 W10 ∧ B1 < W10.heap.size) ?_ ?_
                      · exact ⟨SHeld_of HSB.out, fun o => free_of_blk (W := W5.drewN n7) HSB.out o, HSET.out, below_drewN HBT.out _, HBSZ.out⟩
                      rintro W10 ⟨⟨k0, k1, k2, k3, k4, k5, k6, k7⟩, h2, h3, h4, h5⟩
                      have f0 := h2 0; have f1 := h2 1; have f2 := h2 2; have f3 := h2 3; have f4 := h2 4; have f5 := h2 5; have f6 := h2 6; have f7 := h2 7
                      have HSE := Lib.hid h3; have HBE := Lib.hid h4; have HBZ := Lib.hid h5
                      clear h2 h3 h4 h5 HSET
                      have HNB := Lib.hid (show blks Pd (k + 1) = add8 S R by rw [blks, HA.out, HS.out, blk, HWD.out, HRR.out])
                      go_wp2
                      go_roundw
                      case rel => exact ⟨k + 1, by omega, congrArg (Value.int .i64) (by have := HA.out; omega), by rw [HSE.out, HNB.out]; rfl, ((((((((HBE.out.setCell (Nat.le_refl _) _).setCell (Nat.le_refl _) _).setCell (Nat.le_refl _) _).setCell (Nat.le_refl _) _).setCell (Nat.le_refl _) _).setCell (Nat.le_refl _) _).setCell (Nat.le_refl _) _).setCell (Nat.le_refl _) _), by simpa using HBZ.out⟩
                      case measure => simp [intOf]; have := HA.out; omega
            · --END4
              have hkK : k = K := by omega
              have hal : ¬ (a : Int) < (L2 : Int) := by have := HA.out; have := HKK64.out; omega
              have HOUT := Lib.hid (show outB S = digB l by
                have h64 : L2 / 64 = K := by have := HKK64.out; omega
                rw [← HS.out, hkK, digB, ← HPAD.out, HLL3.out, h64])
              obtain ⟨W4, hW4⟩ : ∃ W4, W4 = wr := ⟨_, rfl⟩
              subst hW4
              obtain ⟨B4, hB4⟩ : ∃ B4, W4.heap.size = B4 := ⟨_, rfl⟩
              have HB4 := Lib.hid hB4
              have HB14 := Lib.hid (show B1 < B4 by rw [← hB4]; exact HB3.out)
              obtain ⟨i0, hi0, hz0, hz1, hz2⟩ := info_parts info5
              clear hB4 hkK hlt hk
              go_upto_region 41 with (fail)
              go_loopw [28, 29] (fun v vi W' => ∃ i : Nat, i ≤ 8 ∧ vi = .int .i64 (i : Int) ∧ W'.ownsRow B4 5 1 v (4 * i) (Lib.byteCells (outT S i)) ∧ Below B4 W4 W' ∧ B4 ≤ W'.heap.size) (fun _ vi _ => 8 - (intOf vi).toNat)
              case atStart => exact ⟨0, by omega, rfl, World.ownsRow_nil _ _ _ _, Below.refl _ _, by rw [HB4.out]; exact Nat.le_refl _⟩
              case round =>
                obtain ⟨i, hi, rfl, ho, hbl, hbs⟩ := hrel
                have HO := Lib.hid ho; have HB := Lib.hid hbl; have HS3 := Lib.hid hbs
                clear ho hbl hbs
                by_cases hlt : i < 8
                · as_aux_lemma =>
                  have hlt2 : (i : Int) < 8 := by omega
                  have c1 : ∀ W, Below B4 W4 W → W.cell? ⟨B1, i, none⟩ = some (.int .u32 (vn (sw S i))) := fun W h => (h.cell (p := ⟨B1, i, none⟩) HB14.out).trans (by rw [cell_of_row W4 _ i _ 35 (0, 0) HST.out, stA_at S i hlt])
                  obtain ⟨y, hy⟩ : ∃ y, (sw S i).toNat = y := ⟨_, rfl⟩
                  have hy2 : y < 4294967296 := by rw [← hy]; exact (sw S i).isLt
                  have hvy : vn (sw S i) = (y : Int) := by unfold vn; rw [hy]
                  rw [hvy] at c1
                  have HNX := Lib.hid (show Lib.byteCells (outT S (i + 1)) = Lib.byteCells (outT S i) ++ [.int .u8 ((y / 16777216 : Nat) : Int), .int .u8 ((y / 65536 % 256 : Nat) : Int), .int .u8 ((y / 256 % 256 : Nat) : Int), .int .u8 ((y % 256 : Nat) : Int)] by rw [outT, Lib.byteCells_append, hy, hf4_cells y hy2])
                  obtain ⟨m0, hm0⟩ : ∃ m, y / 16777216 = m := ⟨_, rfl⟩
                  obtain ⟨m1, hm1⟩ : ∃ m, y / 65536 = m := ⟨_, rfl⟩
                  obtain ⟨m2, hm2⟩ : ∃ m, y / 256 = m := ⟨_, rfl⟩
                  rw [hm0, hm1, hm2] at HNX
                  obtain ⟨k1, hk1⟩ : ∃ m, m1 % 256 = m := ⟨_, rfl⟩
                  obtain ⟨k2, hk2⟩ : ∃ m, m2 % 256 = m := ⟨_, rfl⟩
                  obtain ⟨k3, hk3⟩ : ∃ m, y % 256 = m := ⟨_, rfl⟩
                  rw [hk1, hk2, hk3] at HNX
                  have q0 : (y : Int) / 16777216 = (m0 : Int) := by omega
                  have q1 : (y : Int) / 65536 = (m1 : Int) := by omega
                  have q2 : (y : Int) / 256 = (m2 : Int) := by omega
                  have p0 : (y : Int).tdiv 16777216 = (m0 : Int) := by rw [Int.tdiv_eq_ediv_of_nonneg (by omega)]; exact q0
                  have p1 : (y : Int).tdiv 65536 = (m1 : Int) := by rw [Int.tdiv_eq_ediv_of_nonneg (by omega)]; exact q1
                  have p2 : (y : Int).tdiv 256 = (m2 : Int) := by rw [Int.tdiv_eq_ediv_of_nonneg (by omega)]; exact q2
                  have r1 : (m1 : Int) % 256 = (k1 : Int) := by omega
                  have r2 : (m2 : Int) % 256 = (k2 : Int) := by omega
                  have r3 : (y : Int) % 256 = (k3 : Int) := by omega
                  have t1 : (m1 : Int).tmod 256 = (k1 : Int) := by rw [Int.tmod_eq_emod_of_nonneg (by omega)]; exact r1
                  have t2 : (m2 : Int).tmod 256 = (k2 : Int) := by rw [Int.tmod_eq_emod_of_nonneg (by omega)]; exact r2
                  have t3 : (y : Int).tmod 256 = (k3 : Int) := by rw [Int.tmod_eq_emod_of_nonneg (by omega)]; exact r3
                  have z0 : IntKind.u32.wrap (m0 : Int) = (m0 : Int) := by rw [IntKind.wrap_u32]; omega
                  have z1 : IntKind.u32.wrap (m1 : Int) = (m1 : Int) := by rw [IntKind.wrap_u32]; omega
                  have z2 : IntKind.u32.wrap (m2 : Int) = (m2 : Int) := by rw [IntKind.wrap_u32]; omega
                  have z3 : IntKind.u32.wrap (k1 : Int) = (k1 : Int) := by rw [IntKind.wrap_u32]; omega
                  have z4 : IntKind.u32.wrap (k2 : Int) = (k2 : Int) := by rw [IntKind.wrap_u32]; omega
                  have z5 : IntKind.u32.wrap (k3 : Int) = (k3 : Int) := by rw [IntKind.wrap_u32]; omega
                  have a0 : IntKind.u8.wrap (m0 : Int) = (m0 : Int) := by rw [IntKind.wrap_u8]; omega
                  have a1 : IntKind.u8.wrap (k1 : Int) = (k1 : Int) := by rw [IntKind.wrap_u8]; omega
                  have a2 : IntKind.u8.wrap (k2 : Int) = (k2 : Int) := by rw [IntKind.wrap_u8]; omega
                  have a3 : IntKind.u8.wrap (k3 : Int) = (k3 : Int) := by rw [IntKind.wrap_u8]; omega
                  have HC1 := Lib.hid c1
                  clear c1 hy hvy hm0 hm1 hm2 hk1 hk2 hk3
                  go_upto_region 43 with (fail)
                  refine wp_region_held_drew (S := fun W => W.cell? ⟨B1, i, none⟩ = some (.int .u32 (y : Int))) (by kernel_rfl) (show wr.drew.cell? ⟨B1, i, none⟩ = some (.int .u32 (y : Int)) from HC1.out _ HB.out.drew) (fun hS => ?_)
                  refine wpAnyH_take (i := 0) (v := u28) rfl (by kernel_rfl) (by kernel_rfl) (by kernel_rfl) (fun _ _ _ h => h) (Or.inl ⟨by simp [Region.wanted], fun W _ => by go_simp⟩) hS ?_
                  simp only [List.getElem_toArray, List.getElem_cons_zero, Act.put, List.setIfInBounds_toArray, List.set_cons_zero, List.set_cons_succ]
                  refine wpAnyH_take (i := 1) (v := (.int .i64 (i : Int))) rfl (by kernel_rfl) (by kernel_rfl) (by kernel_rfl) (fun _ _ _ h => h) (Or.inl ⟨by simp [Region.wanted], fun W _ => by go_simp⟩) hS ?_
                  simp only [List.getElem_toArray, List.getElem_cons_zero, List.getElem_cons_succ, Act.put, List.setIfInBounds_toArray, List.set_cons_zero, List.set_cons_succ]
                  refine wpAnyH_take (i := 2) (v := (.pointer (some ⟨B1, i, none⟩))) rfl (by kernel_rfl) (by kernel_rfl) (by kernel_rfl) (fun _ _ _ h => h) (Or.inl ⟨by simp [Region.wanted], fun W _ => by go_simp⟩) hS ?_
                  simp only [List.getElem_toArray, List.getElem_cons_zero, List.getElem_cons_succ, Act.put, List.setIfInBounds_toArray, List.set_cons_zero, List.set_cons_succ]
                  refine wpAnyH_take (i := 3) (v := (.int .u32 (y : Int))) rfl (by kernel_rfl) (by kernel_rfl) (by kernel_rfl) (fun _ _ _ h => h) (Or.inl ⟨by simp [Region.wanted], fun W h => by have h' : W.cell? ⟨B1, i, none⟩ = some (.int .u32 (y : Int)) := h; go_simp⟩) hS ?_
                  simp only [List.getElem_toArray, List.getElem_cons_zero, List.getElem_cons_succ, Act.put, List.setIfInBounds_toArray, List.set_cons_zero, List.set_cons_succ]
                  refine wpAnyH_take (i := 4) (v := (.int .u32 (m0 : Int))) rfl (by kernel_rfl) (by kernel_rfl) (by kernel_rfl) (fun _ _ _ h => h) (Or.inl ⟨by simp [Region.wanted], fun W _ => by go_simp⟩) hS ?_
                  simp only [List.getElem_toArray, List.getElem_cons_zero, List.getElem_cons_succ, Act.put, List.setIfInBounds_toArray, List.set_cons_zero, List.set_cons_succ]
                  refine wpAnyH_take (i := 5) (v := (.int .u8 (m0 : Int))) rfl (by kernel_rfl) (by kernel_rfl) (by kernel_rfl) (fun _ _ _ h => h) (Or.inl ⟨by simp [Region.wanted], fun W _ => by go_simp⟩) hS ?_
                  simp only [List.getElem_toArray, List.getElem_cons_zero, List.getElem_cons_succ, Act.put, List.setIfInBounds_toArray, List.set_cons_zero, List.set_cons_succ]
                  refine wpAnyH_take (i := 6) (v := (.int .i64 (i : Int))) rfl (by kernel_rfl) (by kernel_rfl) (by kernel_rfl) (fun _ _ _ h => h) (Or.inl ⟨by simp [Region.wanted], fun W _ => by go_simp⟩) hS ?_
                  simp only [List.getElem_toArray, List.getElem_cons_zero, List.getElem_cons_succ, Act.put, List.setIfInBounds_toArray, List.set_cons_zero, List.set_cons_succ]
                  refine wpAnyH_take (i := 7) (v := (.pointer (some ⟨B1, i, none⟩))) rfl (by kernel_rfl) (by kernel_rfl) (by kernel_rfl) (fun _ _ _ h => h) (Or.inl ⟨by simp [Region.wanted], fun W _ => by go_simp⟩) hS ?_
                  simp only [List.getElem_toArray, List.getElem_cons_zero, List.getElem_cons_succ, Act.put, List.setIfInBounds_toArray, List.set_cons_zero, List.set_cons_succ]
                  refine wpAnyH_take (i := 8) (v := (.int .u32 (y : Int))) rfl (by kernel_rfl) (by kernel_rfl) (by kernel_rfl) (fun _ _ _ h => h) (Or.inl ⟨by simp [Region.wanted], fun W h => by have h' : W.cell? ⟨B1, i, none⟩ = some (.int .u32 (y : Int)) := h; go_simp⟩) hS ?_
                  simp only [List.getElem_toArray, List.getElem_cons_zero, List.getElem_cons_succ, Act.put, List.setIfInBounds_toArray, List.set_cons_zero, List.set_cons_succ]
                  refine wpAnyH_take (i := 9) (v := (.int .u32 (m1 : Int))) rfl (by kernel_rfl) (by kernel_rfl) (by kernel_rfl) (fun _ _ _ h => h) (Or.inl ⟨by simp [Region.wanted], fun W _ => by go_simp⟩) hS ?_
                  simp only [List.getElem_toArray, List.getElem_cons_zero, List.getElem_cons_succ, Act.put, List.setIfInBounds_toArray, List.set_cons_zero, List.set_cons_succ]
                  refine wpAnyH_take (i := 10) (v := (.int .u32 (k1 : Int))) rfl (by kernel_rfl) (by kernel_rfl) (by kernel_rfl) (fun _ _ _ h => h) (Or.inl ⟨by simp [Region.wanted], fun W _ => by go_simp⟩) hS ?_
                  simp only [List.getElem_toArray, List.getElem_cons_zero, List.getElem_cons_succ, Act.put, List.setIfInBounds_toArray, List.set_cons_zero, List.set_cons_succ]
                  refine wpAnyH_take (i := 11) (v := (.int .u8 (k1 : Int))) rfl (by kernel_rfl) (by kernel_rfl) (by kernel_rfl) (fun _ _ _ h => h) (Or.inl ⟨by simp [Region.wanted], fun W _ => by go_simp⟩) hS ?_
                  simp only [List.getElem_toArray, List.getElem_cons_zero, List.getElem_cons_succ, Act.put, List.setIfInBounds_toArray, List.set_cons_zero, List.set_cons_succ]
                  refine wpAnyH_take (i := 12) (v := (.int .i64 (i : Int))) rfl (by kernel_rfl) (by kernel_rfl) (by kernel_rfl) (fun _ _ _ h => h) (Or.inl ⟨by simp [Region.wanted], fun W _ => by go_simp⟩) hS ?_
                  simp only [List.getElem_toArray, List.getElem_cons_zero, List.getElem_cons_succ, Act.put, List.setIfInBounds_toArray, List.set_cons_zero, List.set_cons_succ]
                  refine wpAnyH_take (i := 13) (v := (.pointer (some ⟨B1, i, none⟩))) rfl (by kernel_rfl) (by kernel_rfl) (by kernel_rfl) (fun _ _ _ h => h) (Or.inl ⟨by simp [Region.wanted], fun W _ => by go_simp⟩) hS ?_
                  simp only [List.getElem_toArray, List.getElem_cons_zero, List.getElem_cons_succ, Act.put, List.setIfInBounds_toArray, List.set_cons_zero, List.set_cons_succ]
                  refine wpAnyH_take (i := 14) (v := (.int .u32 (y : Int))) rfl (by kernel_rfl) (by kernel_rfl) (by kernel_rfl) (fun _ _ _ h => h) (Or.inl ⟨by simp [Region.wanted], fun W h => by have h' : W.cell? ⟨B1, i, none⟩ = some (.int .u32 (y : Int)) := h; go_simp⟩) hS ?_
                  simp only [List.getElem_toArray, List.getElem_cons_zero, List.getElem_cons_succ, Act.put, List.setIfInBounds_toArray, List.set_cons_zero, List.set_cons_succ]
                  refine wpAnyH_take (i := 15) (v := (.int .u32 (m2 : Int))) rfl (by kernel_rfl) (by kernel_rfl) (by kernel_rfl) (fun _ _ _ h => h) (Or.inl ⟨by simp [Region.wanted], fun W _ => by go_simp⟩) hS ?_
                  simp only [List.getElem_toArray, List.getElem_cons_zero, List.getElem_cons_succ, Act.put, List.setIfInBounds_toArray, List.set_cons_zero, List.set_cons_succ]
                  refine wpAnyH_take (i := 16) (v := (.int .u32 (k2 : Int))) rfl (by kernel_rfl) (by kernel_rfl) (by kernel_rfl) (fun _ _ _ h => h) (Or.inl ⟨by simp [Region.wanted], fun W _ => by go_simp⟩) hS ?_
                  simp only [List.getElem_toArray, List.getElem_cons_zero, List.getElem_cons_succ, Act.put, List.setIfInBounds_toArray, List.set_cons_zero, List.set_cons_succ]
                  refine wpAnyH_take (i := 17) (v := (.int .u8 (k2 : Int))) rfl (by kernel_rfl) (by kernel_rfl) (by kernel_rfl) (fun _ _ _ h => h) (Or.inl ⟨by simp [Region.wanted], fun W _ => by go_simp⟩) hS ?_
                  simp only [List.getElem_toArray, List.getElem_cons_zero, List.getElem_cons_succ, Act.put, List.setIfInBounds_toArray, List.set_cons_zero, List.set_cons_succ]
                  refine wpAnyH_take (i := 18) (v := (.int .i64 (i : Int))) rfl (by kernel_rfl) (by kernel_rfl) (by kernel_rfl) (fun _ _ _ h => h) (Or.inl ⟨by simp [Region.wanted], fun W _ => by go_simp⟩) hS ?_
                  simp only [List.getElem_toArray, List.getElem_cons_zero, List.getElem_cons_succ, Act.put, List.setIfInBounds_toArray, List.set_cons_zero, List.set_cons_succ]
                  refine wpAnyH_take (i := 19) (v := (.pointer (some ⟨B1, i, none⟩))) rfl (by kernel_rfl) (by kernel_rfl) (by kernel_rfl) (fun _ _ _ h => h) (Or.inl ⟨by simp [Region.wanted], fun W _ => by go_simp⟩) hS ?_
                  simp only [List.getElem_toArray, List.getElem_cons_zero, List.getElem_cons_succ, Act.put, List.setIfInBounds_toArray, List.set_cons_zero, List.set_cons_succ]
                  refine wpAnyH_take (i := 20) (v := (.int .u32 (y : Int))) rfl (by kernel_rfl) (by kernel_rfl) (by kernel_rfl) (fun _ _ _ h => h) (Or.inl ⟨by simp [Region.wanted], fun W h => by have h' : W.cell? ⟨B1, i, none⟩ = some (.int .u32 (y : Int)) := h; go_simp⟩) hS ?_
                  simp only [List.getElem_toArray, List.getElem_cons_zero, List.getElem_cons_succ, Act.put, List.setIfInBounds_toArray, List.set_cons_zero, List.set_cons_succ]
                  refine wpAnyH_take (i := 21) (v := (.int .u32 (k3 : Int))) rfl (by kernel_rfl) (by kernel_rfl) (by kernel_rfl) (fun _ _ _ h => h) (Or.inl ⟨by simp [Region.wanted], fun W _ => by go_simp⟩) hS ?_
                  simp only [List.getElem_toArray, List.getElem_cons_zero, List.getElem_cons_succ, Act.put, List.setIfInBounds_toArray, List.set_cons_zero, List.set_cons_succ]
                  refine wpAnyH_take (i := 22) (v := (.int .u8 (k3 : Int))) rfl (by kernel_rfl) (by kernel_rfl) (by kernel_rfl) (fun _ _ _ h => h) (Or.inl ⟨by simp [Region.wanted], fun W _ => by go_simp⟩) hS ?_
                  simp only [List.getElem_toArray, List.getElem_cons_zero, List.getElem_cons_succ, Act.put, List.setIfInBounds_toArray, List.set_cons_zero, List.set_cons_succ]
                  clear q0 q1 q2 p0 p1 p2 r1 r2 r3 t1 t2 t3 z0 z1 z2 z3 z4 z5 a0 a1 a2 a3
                  have HCE := Lib.hid hS
                  clear hS
                  refine wpAnyH_ready (rs := [23]) (by kernel_rfl) (by simp) ?_
                  refine AllReadyH.cons rfl (fun K1 hK1 => ?_) AllReadyH.nil
                  refine wanted_go rfl ?_
                  simp only [List.getElem_toArray, List.getElem_cons_zero, List.getElem_cons_succ]
                  go_wp2
                  have hlw : B1 < wr.heap.size := Nat.lt_of_lt_of_le HB14.out HS3.out
                  refine hK1.out _ _ ((World.cell?_alloc_lt wr.drew _ ⟨B1, i, none⟩ hlw).trans HCE.out) (fun hS2 => ?_)
                  have HCE2 := Lib.hid hS2
                  clear hS2
                  refine wpAnyH_ready (rs := [24]) (by kernel_rfl) (by simp) ?_
                  refine AllReadyH.cons rfl (fun K2 hK2 => ?_) AllReadyH.nil
                  refine wanted_go rfl ?_
                  simp only [List.getElem_toArray, List.getElem_cons_zero, List.getElem_cons_succ]
                  refine wp_append_own _ _ _ 76 rfl B4 5 i0 (.int .u8 0) 1 1 Tryd.underlying76 hi0 hz0 hz1 hz2 rfl (by decide) u28 (4 * i) _ rfl (own_drew_alloc HO.out _) ⟨wr.heap.size, 0, none⟩ 4 4 [.int .u8 (m0 : Int), .int .u8 (k1 : Int), .int .u8 (k2 : Int), .int .u8 (k3 : Int)] rfl rfl (new_four _ _ _ _ _ _) (four_one _ _ _ _) (by unfold maxLen; omega) (by omega) (by have := HS3.out; simp; omega) ?_
                  intro v' w7 hown' hgrow _
                  have HO7 := Lib.hid hown'; have HG7 := Lib.hid hgrow; clear hown' hgrow
                  have hb7 : Below B4 W4 w7 := HB.out.drew.grown (show wr.drew.grownBy w7 u28.ownBlock from World_grown_alloc HG7.out) HS3.out (own_block_ge HO.out)
                  have HB7 := Lib.hid hb7
                  clear hb7
                  refine hK2.out _ _ (HC1.out _ HB7.out) (fun hS3 => ?_)
                  simp only [Act.put, List.setIfInBounds_toArray, List.set_cons_zero, List.set_cons_succ]
                  refine wpAnyH_ready (rs := [25]) (by kernel_rfl) (by simp) ?_
                  refine AllReadyH.cons rfl (fun K3 hK3 => ?_) AllReadyH.nil
                  refine wanted_go rfl ?_
                  simp only [List.getElem_toArray, List.getElem_cons_zero, List.getElem_cons_succ]
                  go_wp2
                  refine hK3.out _ _ hS3 (fun _ => ?_)
                  refine wpAnyH_done (by kernel_rfl) ?_ _
                  go_wp2
                  go_roundw
                  case rel => exact ⟨i + 1, by omega, by go_num, by rw [HNX.out]; exact HO7.out, HB7.out, by have := HG7.out.size; have := HS3.out; simp at *; omega⟩
                  case measure => simp [intOf]; omega
                · --END8
                  have hi8 : i = 8 := by omega
                  have HF := Lib.hid (show wr.ownsRow B4 5 1 u28 32 (Lib.byteCells (digB l)) by have h := HO.out; rw [hi8, outT_8, HOUT.out] at h; exact h)
                  obtain ⟨g', cap', hv'⟩ := own_slice HF.out (by omega)
                  subst hv'
                  have hcv := conv_own HF.out
                  have ei : (i : Int) = 8 := by omega
                  rw [ei]
                  clear hi8 ei hlt hi HO
                  go_wp2
                  go_ret
                  exact ⟨rfl, (HBWR.out.trans (HB2.out.mono (Nat.le_of_lt HB1b.out))).trans (HB.out.mono (by have := HB14.out; have := HB1b.out; omega))⟩
end Go.Proofs.YtipaicfmodgcoaaDoor
