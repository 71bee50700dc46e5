/- The contract of the document's Put of bytes at a place of a file. -/
import Derived.Test.YtcedkilgfoiifaaDkSet
import Derived.Laws.IdiomStrings
import Derived.Laws.BytesArg
import Derived.Lib.BufferWrite
import Derived.Lib.Strings
namespace Go.Proofs.Ytcedkilgfoiifaa
open Go.RowKit Base Base2

theorem infoU8 : (Try.prog.info? 5).map (fun i => (i.zero, i.size, i.bytes)) = some (some (.int .u8 0), 1, 1) := by kernel_rfl
/-- 'string(b)' of a row of bytes. -/
theorem conv_ownD {W : World} {base k : Nat} {v : Value} {l : List UInt8} (h : W.ownsRow base 5 1 v k (Lib.byteCells l)) : (convert 72 9 v).run Try.prog W = .ok (.string (bytesL l)) W := by
  have hl : l.length = k := by have := h.1; simpa [Lib.byteCells] using this
  rcases h.2 with ⟨rfl, h0⟩ | ⟨g, cap, cur, rfl, _, hg, _, _, _, htk⟩
  · have : l = [] := List.eq_nil_of_length_eq_zero (by omega)
    subst this
    rw [run_convert_bytes_nil W 72 5 Try.underlying72 Try.underlying5 0 0 9 Try.underlying9]; rfl
  · subst hl
    exact run_convert_bytes_back W 72 9 5 ⟨g, 0, none⟩ cap l Try.underlying72 Try.underlying5 Try.underlying9
      (fun j hj => Lib.cells_of_row hg l.length j _ (by rw [← Nat.mul_one l.length, htk]; simp [Lib.byteCells, hj]))
theorem own_low {W : World} {B B' T k n : Nat} {v : Value} {xs : List Value} (h : W.ownsRow B T k v n xs) (hb : B' ≤ B) : W.ownsRow B' T k v n xs := by
  refine ⟨h.1, h.2.imp id ?_⟩
  rintro ⟨g, cap, cur, h1, h2, h3⟩
  exact ⟨g, cap, cur, h1, Nat.le_trans hb h2, h3⟩
theorem new_oneD (W : World) (a : Value) (T : TypeId) : ∀ (j : Nat) (u : Value), [a][j]? = some u → (W.alloc (.cells #[a] T)).cell? ((⟨W.heap.size, 0, none⟩ : Addr).add j) = some u := by
  intro j u hu
  have h := heap_alloc_new W (.cells #[a] T)
  rw [Addr.add_mid, cell_of_row _ _ _ _ T (0, 0) h]
  rcases j with _ | j
  · simpa using hu
  · simp at hu
theorem one_u8 (c : Int) : ∀ u ∈ [Value.int .u8 c], u.oneCell' = true := by
  intro u hu
  rcases List.mem_cons.1 hu with rfl | hu
  · rfl
  · cases hu
/-- While bytes go out: the slice that owns them. -/
structure PutR (w : World) (T : List UInt8) (v : Value) (W : World) : Prop where
  own : W.ownsRow w.heap.size 5 1 v T.length (Lib.byteCells T)
  lo : Below w.heap.size w W
theorem PutR.nil (w : World) : PutR w [] (.slice none 0 0) w := ⟨⟨rfl, .inl ⟨rfl, rfl⟩⟩, Below.refl _ _⟩
theorem PutR.app {w W w2 : World} {T : List UInt8} {v v' : Value} (b : UInt8) {o : Obj} (h : PutR w T v W) (ho : w2.ownsRow w.heap.size 5 1 v' (T.length + 1) (Lib.byteCells T ++ [.int .u8 (b.toNat : Int)])) (hg : (W.alloc o).grownBy w2 v.ownBlock) : PutR w (T ++ [b]) v' w2 :=
  ⟨by rw [show Lib.byteCells (T ++ [b]) = Lib.byteCells T ++ [.int .u8 (b.toNat : Int)] from by simp [Lib.byteCells], List.length_append]; exact ho, h.lo.grown (World_grown_alloc hg) h.lo.size (own_block_ge h.own)⟩
theorem putB_at (old s : ByteArray) (pl i : Nat) (h : i < (putB old pl s).length) : (putB old pl s).take (i + 1) = (putB old pl s).take i ++ [if pl ≤ i ∧ i < pl + s.size then s.data.toList.getD (i - pl) 0 else old.data.toList.getD i 0] := by
  rw [List.take_add_one, List.getElem?_eq_getElem h]
  simp [putB]
theorem getD_in (s : ByteArray) (j : Nat) (h : j < s.size) : s.data.toList.getD j 0 = s[j] := by
  have h2 : j < s.data.toList.length := by rw [← sizeD]; exact h
  rw [List.getD_eq_getElem?_getD, List.getElem?_eq_getElem h2]
  rfl
theorem getD_out (s : ByteArray) (j : Nat) (h : s.size ≤ j) : s.data.toList.getD j 0 = 0 := by
  have h2 : s.data.toList.length ≤ j := by rw [← sizeD]; exact h
  rw [List.getD_eq_getElem?_getD, List.getElem?_eq_none h2]
  rfl
theorem put_byte_s (old s : ByteArray) (pl j : Nat) (h : j < s.size) : (putB old pl s).take (pl + j + 1) = (putB old pl s).take (pl + j) ++ [s[j]] := by
  rw [putB_at old s pl (pl + j) (by rw [putB_len]; omega), if_pos (by omega), Nat.add_sub_cancel_left, getD_in s j h]
theorem put_byte_old (old s : ByteArray) (pl i : Nat) (h : i < old.size) (hn : ¬ (pl ≤ i ∧ i < pl + s.size)) : (putB old pl s).take (i + 1) = (putB old pl s).take i ++ [old[i]] := by
  rw [putB_at old s pl i (by rw [putB_len]; omega), if_neg hn, getD_in old i h]
theorem put_byte_no (old s : ByteArray) (pl i : Nat) (h : old.size ≤ i) (hi : i < pl + s.size) (hn : ¬ (pl ≤ i ∧ i < pl + s.size)) : (putB old pl s).take (i + 1) = (putB old pl s).take i ++ [0] := by
  rw [putB_at old s pl i (by rw [putB_len]; omega), if_neg hn, getD_out old i h]
theorem le_maxB {n : Nat} (h : n ≤ 20000000) : n ≤ maxLen := by unfold maxLen; omega
theorem le_bytesB {n : Nat} (h : n ≤ 20000000) : n * 1 ≤ 140737488355328 := by omega

set_option maxRecDepth 100000 in
set_option maxHeartbeats 8000000 in
theorem rput40 (a : Option Addr) (l : List FileT) (cap : Nat) (name s : ByteArray) (pl : Nat) (w : World) (hr : FilesAt w a l) (hl : l.length ≤ 10000) (hpl : pl ≤ 2000000) (hs : s.size ≤ 2000000) (hold : (readF l name).size ≤ 2000000) :
    Calls Try.prog 41 #[.slice a l.length cap, .string name, .int .i64 (pl : Int), .string s] w fun e w' => (∃ v, e = .returned v ∧ w'.ownsRow w.heap.size 58 2 v (putF l name pl s).length (flatF (putF l name pl s))) ∧ Below w.heap.size w w' := by
  obtain ⟨i0, hi0, hz0, hz1, hz2⟩ := info_parts infoU8
  have HRD := Lib.hid (rread23 a l cap name w hr (le_max (by omega)))
  have HSET := Lib.hid (fun (t : ByteArray) (W : World) (hb : Below w.heap.size w W) => rset37 a l cap name t W (hr.below hb) hl)
  unfold putF
  obtain ⟨old, ho⟩ : ∃ o, readF l name = o := ⟨_, rfl⟩
  rw [ho] at hold HRD ⊢
  obtain ⟨X, hX⟩ : ∃ X, putB old pl s = X := ⟨_, rfl⟩
  have HXL : Hid (X.length = max old.size (pl + s.size)) := by rw [← hX]; exact putB_len old pl s
  have Hs := Lib.hid (put_byte_s old s pl)
  have Ho := Lib.hid (put_byte_old old s pl)
  have Hn := Lib.hid (put_byte_no old s pl)
  rw [hX] at Hs Ho Hn ⊢
  have HN := Lib.hid (PutR.nil w)
  clear hX ho hr
  go_enter Try.func41, Try.ntmps41
  go_wp2_with (go_at_call 23; refine HRD.out.mono ?_; rintro e w1 ⟨rfl, rfl⟩)
  clear HRD
  go_loopw [10, 11] (fun vo vi W => ∃ (i : Nat), i ≤ X.length ∧ vi = .int .i64 (i : Int) ∧ PutR w (X.take i) vo W) (fun _ vi _ => X.length - (intOf vi).toNat)
  case atStart => exact ⟨0, by omega, rfl, HN.out⟩
  case round =>
    clear HN
    obtain ⟨i, hi, rfl, hS⟩ := hrel
    have HI := Lib.hid hi
    have HS := Lib.hid hS
    have hlen : X.length ≤ 4000000 := by rw [HXL.out]; omega
    have htl : (X.take i).length ≤ 4000000 := by rw [List.length_take]; omega
    have b1 : (X.take i).length + 1 ≤ maxLen := le_maxB (by omega)
    have b2 : ((X.take i).length + 1) * 1 ≤ 140737488355328 := le_bytesB (by omega)
    have hi4 : i ≤ 4000000 := by omega
    have HMX : Hid (i < X.length ↔ i < old.size ∨ i < pl + s.size) := by show _ ↔ _; rw [HXL.out]; omega
    have HEX : Hid (¬ i < X.length → i = X.length) := fun h => by omega
    clear hi hS htl hlen
    by_cases ks : pl ≤ i ∧ i < pl + s.size
    · obtain ⟨j, rfl⟩ : ∃ j, i = pl + j := ⟨i - pl, by omega⟩
      have hj : j < s.size := by omega
      have hmx : pl + j < old.size ∨ pl + j < pl + s.size := .inr (by omega)
      have k1 : (pl : Int) ≤ (pl : Int) + (j : Int) := by omega
      have k2 : (pl : Int) + (j : Int) < (pl : Int) + (s.size : Int) := by omega
      clear ks
      by_cases ko : pl + j < old.size
      · have k3 : (pl : Int) + (j : Int) < (old.size : Int) := by omega
        have HT : Hid (X.take (pl + j + 1) = X.take (pl + j) ++ [s[j]]) := Hs.out j hj
        obtain ⟨T, hT⟩ : ∃ T, X.take (pl + j) = T := ⟨_, rfl⟩
        rw [hT] at HS HT b1 b2
        clear hT
        go_wp2_with (at_builtin; refine wpList_append_own _ rfl _ _ 72 rfl w.heap.size 5 i0 (.int .u8 0) 1 1 Try.underlying72 hi0 hz0 hz1 hz2 rfl (by decide) _ _ _ rfl (HS.out.own.alloc _) ⟨wr.heap.size, 0, none⟩ 1 1 [.int .u8 (s[j].toNat : Int)] rfl rfl (new_oneD _ _ _) (one_u8 _) b1 b2 (by have := HS.out.lo.size; simp; omega) ?_; intro v1 w1 hown hgrow _; have HA := Lib.hid (HS.out.app s[j] hown hgrow); clear hown hgrow)
        go_roundw
        case rel => exact ⟨pl + j + 1, (HMX.out.2 hmx), by go_num, by rw [HT.out]; exact HA.out⟩
        case measure => have := HMX.out.2 hmx; simp [intOf]; omega
      · have k3 : ¬ (pl : Int) + (j : Int) < (old.size : Int) := by omega
        have HT : Hid (X.take (pl + j + 1) = X.take (pl + j) ++ [s[j]]) := Hs.out j hj
        obtain ⟨T, hT⟩ : ∃ T, X.take (pl + j) = T := ⟨_, rfl⟩
        rw [hT] at HS HT b1 b2
        clear hT
        go_wp2_with (at_builtin; refine wpList_append_own _ rfl _ _ 72 rfl w.heap.size 5 i0 (.int .u8 0) 1 1 Try.underlying72 hi0 hz0 hz1 hz2 rfl (by decide) _ _ _ rfl (HS.out.own.alloc _) ⟨wr.heap.size, 0, none⟩ 1 1 [.int .u8 (s[j].toNat : Int)] rfl rfl (new_oneD _ _ _) (one_u8 _) b1 b2 (by have := HS.out.lo.size; simp; omega) ?_; intro v1 w1 hown hgrow _; have HA := Lib.hid (HS.out.app s[j] hown hgrow); clear hown hgrow)
        go_roundw
        case rel => exact ⟨pl + j + 1, (HMX.out.2 hmx), by go_num, by rw [HT.out]; exact HA.out⟩
        case measure => have := HMX.out.2 hmx; simp [intOf]; omega
    · by_cases ko : i < old.size
      · have hmx : i < old.size ∨ i < pl + s.size := .inl ko
        have HK := Lib.hid ks
        by_cases kp : pl ≤ i
        · have k2 : ¬ (i : Int) < (pl : Int) + (s.size : Int) := by omega
          clear ks
          have HT : Hid (X.take (i + 1) = X.take i ++ [old[i]]) := Ho.out i ko HK.out
          obtain ⟨T, hT⟩ : ∃ T, X.take (i) = T := ⟨_, rfl⟩
          rw [hT] at HS HT b1 b2
          clear hT
          go_wp2_with (at_builtin; refine wpList_append_own _ rfl _ _ 72 rfl w.heap.size 5 i0 (.int .u8 0) 1 1 Try.underlying72 hi0 hz0 hz1 hz2 rfl (by decide) _ _ _ rfl (HS.out.own.alloc _) ⟨wr.heap.size, 0, none⟩ 1 1 [.int .u8 (old[i].toNat : Int)] rfl rfl (new_oneD _ _ _) (one_u8 _) b1 b2 (by have := HS.out.lo.size; simp; omega) ?_; intro v1 w1 hown hgrow _; have HA := Lib.hid (HS.out.app old[i] hown hgrow); clear hown hgrow)
          go_roundw
          case rel => exact ⟨i + 1, (HMX.out.2 hmx), by go_num, by rw [HT.out]; exact HA.out⟩
          case measure => have := HMX.out.2 hmx; simp [intOf]; omega
        · clear ks
          have HT : Hid (X.take (i + 1) = X.take i ++ [old[i]]) := Ho.out i ko HK.out
          obtain ⟨T, hT⟩ : ∃ T, X.take (i) = T := ⟨_, rfl⟩
          rw [hT] at HS HT b1 b2
          clear hT
          go_wp2_with (at_builtin; refine wpList_append_own _ rfl _ _ 72 rfl w.heap.size 5 i0 (.int .u8 0) 1 1 Try.underlying72 hi0 hz0 hz1 hz2 rfl (by decide) _ _ _ rfl (HS.out.own.alloc _) ⟨wr.heap.size, 0, none⟩ 1 1 [.int .u8 (old[i].toNat : Int)] rfl rfl (new_oneD _ _ _) (one_u8 _) b1 b2 (by have := HS.out.lo.size; simp; omega) ?_; intro v1 w1 hown hgrow _; have HA := Lib.hid (HS.out.app old[i] hown hgrow); clear hown hgrow)
          go_roundw
          case rel => exact ⟨i + 1, (HMX.out.2 hmx), by go_num, by rw [HT.out]; exact HA.out⟩
          case measure => have := HMX.out.2 hmx; simp [intOf]; omega
      · by_cases kp : i < pl + s.size
        · have hmx : i < old.size ∨ i < pl + s.size := .inr kp
          have k2 : (i : Int) < (pl : Int) + (s.size : Int) := by omega
          have k1 : ¬ pl ≤ i := by omega
          have HK := Lib.hid ks
          have ko2 : old.size ≤ i := by omega
          clear ks
          have HT : Hid (X.take (i + 1) = X.take i ++ [0]) := Hn.out i ko2 kp HK.out
          obtain ⟨T, hT⟩ : ∃ T, X.take (i) = T := ⟨_, rfl⟩
          rw [hT] at HS HT b1 b2
          clear hT
          go_wp2_with (at_builtin; refine wpList_append_own _ rfl _ _ 72 rfl w.heap.size 5 i0 (.int .u8 0) 1 1 Try.underlying72 hi0 hz0 hz1 hz2 rfl (by decide) _ _ _ rfl (HS.out.own.alloc _) ⟨wr.heap.size, 0, none⟩ 1 1 [.int .u8 0] rfl rfl (new_oneD _ _ _) (one_u8 _) b1 b2 (by have := HS.out.lo.size; simp; omega) ?_; intro v1 w1 hown hgrow _; have HA := Lib.hid (HS.out.app 0 hown hgrow); clear hown hgrow)
          go_roundw
          case rel => exact ⟨i + 1, (HMX.out.2 hmx), by go_num, by rw [HT.out]; exact HA.out⟩
          case measure => have := HMX.out.2 hmx; simp [intOf]; omega
        · have k2 : ¬ (i : Int) < (pl : Int) + (s.size : Int) := by omega
          have he : i = X.length := HEX.out (fun h => by have := HMX.out.1 h; omega)
          have HF : Hid (PutR w X u10 wr) := by
            have h := HS.out
            rw [he, List.take_length] at h
            exact h
          have hcv := conv_ownD HF.out.own
          have HC := Lib.hid (HSET.out (bytesL X) wr HF.out.lo)
          clear ks he HS b1 b2 HSET
          go_wp2_with (go_at_call 38; refine HC.out.mono ?_; rintro e w2 ⟨⟨v, rfl, hv⟩, hb⟩; have HV := Lib.hid hv; have HB := Lib.hid hb; clear hv hb)
          go_ret
          exact ⟨⟨_, rfl, own_low HV.out HF.out.lo.size⟩, HF.out.lo.trans (HB.out.mono HF.out.lo.size)⟩
end Go.Proofs.Ytcedkilgfoiifaa
