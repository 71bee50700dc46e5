/- The program's laid: bytes written at a place of a row, with more room if it must be. -/
import Derived.Test.YtcedkilgfoiifaaDkP2
namespace Go.Proofs.Ytcedkilgfoiifaa
open Go.RowKit Base Base2

theorem copy_text (W : World) (g : Nat × Nat) (t s : ByteArray) (pl dLen dCap : Nat) (ty : TypeId) (h : BytsAt W g t) (hf : pl + s.size ≤ g.2) (hd : s.size ≤ dLen) :
    (Builtin.copy_ #[72, 9] ty #[.slice (some ⟨g.1, pl, none⟩) dLen dCap, .string s]).run Try.prog W = .ok (goInt s.size) (W.setCells g.1 pl (Lib.byteCells s.data.toList)) := by
  obtain ⟨i0, hi, hz0, hz1, hz2⟩ := info_parts infoU8
  have hlen : (Lib.byteCells s.data.toList).length = s.size := by rw [Lib.byteCells_length]; simp
  have hst := run_storeCells_cells (P := Try.prog) g.1 pl (Lib.byteCells s.data.toList) 0 W (fun j hj => h.isc _ (by rw [hlen] at hj; omega)) (fun j hj => h.free _ (by rw [hlen] at hj; omega)) (Lib.byteCells_one _)
  have hmin : Nat.min s.size dLen = s.size := Nat.min_eq_left hd
  have htk : List.take s.size (List.map (fun b : UInt8 => Value.int IntKind.u8 (b.toNat : Int)) s.data.toList) = Lib.byteCells s.data.toList := by
    rw [List.take_of_length_le (by simp)]
    rfl
  simp only [Nat.add_zero] at hst
  simp [Builtin.copy_, run_underlying Try.underlying72, Builtin.lenOf, Builtin.firstCells, sizeOf, typeInfo, hi, hmin]
  rw [htk, hst]
  simp [Result.andThen]
theorem putB_get (old s : ByteArray) (pl j : Nat) (b : UInt8) : (putB old pl s)[j]? = some b ↔ j < max old.size (pl + s.size) ∧ b = if pl ≤ j ∧ j < pl + s.size then s.data.toList.getD (j - pl) 0 else old.data.toList.getD j 0 := by
  unfold putB
  rw [List.getElem?_map]
  by_cases hj : j < max old.size (pl + s.size)
  · rw [List.getElem?_range hj]
    simp only [Option.map_some, Option.some.injEq]
    exact ⟨fun h => ⟨hj, h.symm⟩, fun h => h.2.symm⟩
  · rw [List.getElem?_eq_none (by simpa using hj)]
    exact ⟨fun h => by simp at h, fun h => absurd h.1 hj⟩
/-- Copied into a row that is long enough: the bytes put. -/
theorem put_row {W : World} {g : Nat × Nat} {t old s : ByteArray} {pl : Nat} (h : BytsAt W g t) (ht : t.size = max old.size (pl + s.size)) (hb : ∀ j, j < t.size → ¬ (pl ≤ j ∧ j < pl + s.size) → t.data.toList[j]? = some (old.data.toList.getD j 0)) :
    BytsAt (W.setCells g.1 pl (Lib.byteCells s.data.toList)) g (bytesL (putB old pl s)) := by
  have hlen : (Lib.byteCells s.data.toList).length = s.size := by rw [Lib.byteCells_length]; simp
  have hle := h.le
  have hsz : (bytesL (putB old pl s)).size = t.size := by rw [bytesL_putB_size, ht]
  refine h.set _ _ (by rw [hlen]; omega) (by rw [hsz]; exact hle) (fun j u hu => ?_)
  obtain ⟨b, h1, rfl⟩ := bcell.1 hu
  have h2 := (putB_get old s pl j b).1 (by simpa [bytesL] using h1)
  rw [hlen]
  by_cases hj : pl ≤ j ∧ j < pl + s.size
  · rw [if_pos hj] at h2 ⊢
    rw [h2.2]
    refine bcell.2 ⟨_, ?_, rfl⟩
    have hj2 : j - pl < s.data.toList.length := by simp; omega
    rw [List.getD_eq_getElem?_getD, List.getElem?_eq_getElem hj2]; rfl
  · rw [if_neg hj] at h2 ⊢
    exact bcell.2 ⟨_, (hb j (by omega) hj).trans (by rw [h2.2]), rfl⟩
theorem zeros_get {old : ByteArray} {k j : Nat} (hj : j < old.size + k) : (zerosB old k).data.toList[j]? = some (old.data.toList.getD j 0) := by
  have hl : old.data.toList.length = old.size := by simp
  rw [zerosB_list]
  by_cases h : j < old.size
  · rw [List.getElem?_append_left (by omega), List.getD_eq_getElem?_getD, List.getElem?_eq_getElem (by omega)]; rfl
  · rw [List.getElem?_append_right (by omega), List.getElem?_replicate, if_pos (by omega), List.getD_eq_getElem?_getD, List.getElem?_eq_none (by omega)]; rfl
theorem own_get {old : ByteArray} {j : Nat} (hj : j < old.size) : old.data.toList[j]? = some (old.data.toList.getD j 0) := by
  have hl : old.data.toList.length = old.size := by simp
  rw [List.getD_eq_getElem?_getD, List.getElem?_eq_getElem (by omega)]; rfl

theorem wpList_append_z {ops : Array Oper} {rest : List Oper} {o : Oper} {a : Act} {w : World} {Q : Exit → Act → World → Prop} (hg : o.guard = none) (s x : Operand) (ho : o.op = .call { callee := .builtin .append, args := #[s, x], argTypes := #[72, 3] })
    (v xv r : Value) (W1 : World) (hs : a.eval s = v) (hx : a.eval x = xv) (hrun : ∀ ty, (Builtin.append_ #[72, 3] ty #[v, xv]).run Try.prog w = .ok r W1) (h : wpList Try.prog ops Q rest (a.put o.dst r) W1) : wpList Try.prog ops Q (o :: rest) a w := by
  refine wpList_plain hg fun K' hK' => ?_
  unfold Oper.wp
  simp [execOp, ho, resolve, invoke, builtin, hs, hx, hrun, Result.andThen]
  exact hK' _ _ h

set_option maxRecDepth 100000 in
set_option maxHeartbeats 4000000 in
theorem laid48A (W : World) (g : Nat × Nat) (old s : ByteArray) (pl : Nat) (h : BytsAt W g old) (ho : old.size ≤ 1048576) (hs : 0 < s.size) (hsz : pl + s.size ≤ old.size) :
    Calls Try.prog 48 #[sliceB g old, .int .i64 pl, .string s] W fun e w' => e = .returned (sliceB g (bytesL (putB old pl s))) ∧ w' = W.setCells g.1 pl (Lib.byteCells s.data.toList) := by
  have hle := h.le
  have HC := fun ty => copy_text W g old s pl (old.size - pl) (g.2 - pl) ty h (by omega) (by omega)
  have he : sliceB g (bytesL (putB old pl s)) = sliceB g old := by simp only [sliceB]; rw [bytesL_putB_size, Nat.max_eq_left (by omega)]
  rw [he]
  unfold sliceB
  obtain ⟨b, cap⟩ := g
  simp only at *
  go_enter Try.func48, Try.ntmps48
  go_wp2
  go_ret
  exact ⟨rfl, rfl⟩
set_option maxRecDepth 100000 in
set_option maxHeartbeats 4000000 in
theorem laid48 (W : World) (g : Nat × Nat) (old s : ByteArray) (pl : Nat) (h : old.size ≠ 0 → BytsAt W g old) (ho : old.size ≤ 1048576) (hs : 0 < s.size) (hsz : pl + s.size ≤ 1048576) :
    Calls Try.prog 48 #[valB g old, .int .i64 pl, .string s] W fun e w' => ∃ g', e = .returned (sliceB g' (bytesL (putB old pl s))) ∧ BytsAt w' g' (bytesL (putB old pl s)) ∧ W.grownBy w' (ownB g old) ∧ ((old.size ≠ 0 ∧ g'.1 = g.1) ∨ W.heap.size ≤ g'.1) := by
  by_cases hin : pl + s.size ≤ old.size
  · have h0 : old.size ≠ 0 := by omega
    rw [valB, if_neg h0]
    refine (laid48A W g old s pl (h h0) ho hs hin).mono ?_
    rintro e w' ⟨rfl, rfl⟩
    exact ⟨g, rfl, put_row (h h0) (by omega) (fun j hj _ => own_get hj), by rw [ownB, if_neg h0]; exact setCells_grown _ _ _ _, .inl ⟨h0, rfl⟩⟩
  · obtain ⟨k, hk⟩ : ∃ k : Nat, pl + s.size = old.size + k := ⟨pl + s.size - old.size, by omega⟩
    have hk0 : 0 < k := by omega
    have HA : ∃ g' W', (∀ ty, (Builtin.append_ #[72, 3] ty #[valB g old, .int .i64 k]).run Try.prog W = .ok (sliceB g' (zerosB old k)) W') ∧ BytsAt W' g' (zerosB old k) ∧ W.grownBy W' (ownB g old) ∧ ((old.size ≠ 0 ∧ g'.1 = g.1) ∨ W.heap.size ≤ g'.1) := append_zeros W g old k hk0 h (by omega)
    obtain ⟨g1, W1, hrun, hB1, hg1, hw1⟩ := HA
    have hzl := zerosB_size old k
    have hle1 := hB1.le
    have HC := fun ty => copy_text W1 g1 (zerosB old k) s pl (old.size + k - pl) (g1.2 - pl) ty hB1 (by omega) (by omega)
    have hput : BytsAt (W1.setCells g1.1 pl (Lib.byteCells s.data.toList)) g1 (bytesL (putB old pl s)) := put_row hB1 (by omega) (fun j hj _ => zeros_get (by omega))
    have hgr2 : W.grownBy (W1.setCells g1.1 pl (Lib.byteCells s.data.toList)) (ownB g old) := by
      have h2 := setCells_grown g1.1 pl (Lib.byteCells s.data.toList) W1
      refine hg1.andThen h2 (fun j hj => ?_)
      obtain rfl : g1.1 = j := by simpa using hj
      rcases hw1 with ⟨h0, h1⟩ | h1
      · exact .inr (by rw [ownB, if_neg h0, h1])
      · exact .inl h1
    have he : sliceB g1 (bytesL (putB old pl s)) = sliceB g1 (zerosB old k) := by simp only [sliceB]; rw [bytesL_putB_size, hzl]; congr 1; omega
    have key : Calls Try.prog 48 #[valB g old, .int .i64 pl, .string s] W fun e w' => e = .returned (sliceB g1 (zerosB old k)) ∧ w' = W1.setCells g1.1 pl (Lib.byteCells s.data.toList) := by
      clear hput hgr2 he hw1 hg1 hB1
      have HR := hrun
      obtain ⟨b1, c1⟩ := g1
      unfold sliceB at HR ⊢
      simp only [hzl] at HR HC hle1 ⊢
      clear hrun
      have hmore : (pl : Int) + (s.size : Int) - (old.size : Int) = (k : Int) := by omega
      have hkp : (0 : Int) < (k : Int) := by omega
      by_cases h0 : old.size = 0
      · simp only [valB, if_pos h0] at HR ⊢
        have hmore0 : (pl : Int) + (s.size : Int) = (k : Int) := by omega
        have hko : old.size + k = k := by omega
        rw [hko] at HR HC ⊢
        clear hmore h h0 hzl hko
        go_enter Try.func48, Try.ntmps48
        go_wp2_with (at_builtin; refine wpList_append_z rfl _ _ rfl _ _ _ _ rfl rfl HR ?_)
        go_ret
        exact ⟨rfl, rfl⟩
      · simp only [valB, if_neg h0, sliceB] at HR ⊢
        clear h h0 hzl
        go_enter Try.func48, Try.ntmps48
        go_wp2_with (at_builtin; refine wpList_append_z rfl _ _ rfl _ _ _ _ rfl rfl HR ?_)
        go_ret
        exact ⟨rfl, rfl⟩
    refine key.mono ?_
    rintro e w' ⟨rfl, rfl⟩
    exact ⟨g1, by rw [he], hput, hgr2, hw1⟩
end Go.Proofs.Ytcedkilgfoiifaa
