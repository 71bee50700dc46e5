/- Bytes in digits of base 16: the contracts of Hex, the program's and the document's. -/
import Derived.Test.YtaocchhedplflaaDoorShaSum
namespace Go.Proofs.YtaocchhedplflaaDoor
open Go.RowKit

def hexS : ByteArray := ⟨#[48, 49, 50, 51, 52, 53, 54, 55, 56, 57, 97, 98, 99, 100, 101, 102]⟩
def hexD (n : Nat) : UInt8 := hexS.data.getD n 0
def hex1 (b : UInt8) : List UInt8 := [hexD (b.toNat / 16), hexD (b.toNat % 16)]
def hexB (l : List UInt8) : List UInt8 := l.flatMap hex1
theorem hexB_snoc (l : List UInt8) (b : UInt8) : hexB (l ++ [b]) = hexB l ++ hex1 b := by simp [hexB]
theorem hexB_len (l : List UInt8) : (hexB l).length = 2 * l.length := by
  induction l with
  | nil => rfl
  | cons b l ih => simp [hexB, hex1] at *; omega
theorem hex_index (d : Nat) (h : d < 16) (k : IntKind) (W : World) : (Instr.index 9 (.string ⟨#[48, 49, 50, 51, 52, 53, 54, 55, 56, 57, 97, 98, 99, 100, 101, 102]⟩) (.int k (d : Int))).run Tryd.prog W = .ok (.int .u8 ((hexD d).toNat : Int)) W := by
  have e : hexS[d]? = some (hexD d) := by
    have hs : hexS.size = 16 := rfl
    rw [getElem?_pos hexS d (by rw [hs]; exact h)]
    have h2 : d < hexS.data.size := h
    unfold hexD
    rw [Array.getD_eq_getD_getElem?, Array.getElem?_eq_getElem h2]
    rfl
  have h0 : (0 : Int) ≤ (d : Int) := by omega
  simp only [Instr.index, asIntOf, Sem.run_bind, Sem.run_pure, Result.andThen_ok, run_underlying Tryd.underlying9, if_pos h0, Int.toNat_natCast]
  show ((match hexS[d]? with | some b => pure (Value.int .u8 b.toNat) | none => _ : Sem Value)).run Tryd.prog W = _
  rw [e]
  rfl
theorem take_snoc (s : ByteArray) (k : Nat) (h : k < s.size) : s.data.toList.take (k + 1) = s.data.toList.take k ++ [s[k]] := by
  rw [List.take_succ_eq_append_getElem (by simpa using h)]; rfl
theorem two_cell_u8 (n m : Int) : ∀ u ∈ [Value.int .u8 n, Value.int .u8 m], u.oneCell' = true := by
  intro u hu; simp at hu; rcases hu with rfl | rfl <;> rfl
theorem new_two (W : World) (v x : Value) (T : TypeId) : ∀ (j : Nat) (u : Value), [v, x][j]? = some u → (W.alloc (.cells #[v, x] T)).cell? ((⟨W.heap.size, 0, none⟩ : Addr).add j) = some u := by
  intro j u hj
  have h := heap_alloc_new W (.cells #[v, x] T)
  rw [Addr.add_mid, cell_of_row _ _ _ _ T (0, 0) h]
  simpa using hj
theorem own_drew_alloc {w : World} {base : Nat} {v : Value} {n : Nat} {xs : List Value} (h : w.ownsRow base 5 1 v n xs) (o : Obj) : (w.drew.alloc o).ownsRow base 5 1 v n xs := World.ownsRow.alloc (w := w.drew) h o
def HexRel (w : World) (s : ByteArray) (v vi : Value) (W : World) : Prop :=
  ∃ i : Nat, i ≤ s.size ∧ vi = .int .i64 (i : Int) ∧ W.ownsRow w.heap.size 5 1 v (2 * i) (Lib.byteCells (hexB (s.data.toList.take i))) ∧ Below w.heap.size w W ∧ w.heap.size ≤ W.heap.size
theorem and15 (n : Nat) (h : n < 256) : bits .and .u8 (n : Int) 15 = ((n % 16 : Nat) : Int) := by
  rw [show (15 : Int) = ((15 : Nat) : Int) from rfl, u8_and_nat _ _ h (by omega), show (15 : Nat) = 2 ^ 4 - 1 from rfl, Nat.and_two_pow_sub_one_eq_mod]

set_option maxRecDepth 100000 in
set_option maxHeartbeats 1000000 in
theorem hex10 (s : ByteArray) (w : World) (hs : s.size ≤ 1000000) :
    Calls Tryd.prog 10 #[.string s] w fun e w' => e = .returned (.string ⟨(hexB s.data.toList).toArray⟩) ∧ Below w.heap.size w w' := by
  obtain ⟨i0, hi, hz0, hz1, hz2⟩ := info_parts info5
  have hm : ∀ W, (Instr.makeSlice 36 (.int .i64 0) (.int .i64 (2 * (s.size : Int)))).run Tryd.prog W = .ok (.slice (some ⟨W.heap.size, 0, none⟩) 0 (2 * s.size)) (W.alloc (.cells (madeCells #[.int .u8 0] (2 * s.size)) 5)) := fun W => make36 0 (2 * s.size) W (by omega) (by omega) _ _ rfl (by omega) _ _
  have hms : (madeCells #[.int .u8 0] (2 * s.size)).size = 2 * s.size * 1 := by simp [madeCells]
  generalize madeCells #[.int .u8 0] (2 * s.size) = zc at *
  have HMS := Lib.hid hms
  clear hms
  go_enter Tryd.func10, Tryd.ntmps10
  go_wp2
  go_loopw [3, 11] (fun v vi W => HexRel w s v vi W) (fun _ vi _ => s.size - (intOf vi).toNat)
  case atStart => exact ⟨0, by omega, rfl, World.ownsRow_made w zc (2 * s.size) (Nat.le_refl _) (by unfold maxLen; omega) HMS.out, (Below.refl _ w).alloc (Nat.le_refl _) _, by simp⟩
  case round =>
    clear hm
    obtain ⟨i, hil, rfl, ho, hbl, hbs⟩ := hrel
    have HO := Lib.hid ho; have HB := Lib.hid hbl; have HS := Lib.hid hbs
    clear ho hbl hbs
    by_cases hlt : i < s.size
    · have hlt2 : (i : Int) < (s.size : Int) := by omega
      have hb256 : s[i].toNat < 256 := UInt8.toNat_lt _
      have HT := Lib.hid (take_snoc s i hlt)
      obtain ⟨d1, hd1⟩ : ∃ d, s[i].toNat / 16 = d := ⟨_, rfl⟩
      obtain ⟨d2, hd2⟩ : ∃ d, s[i].toNat % 16 = d := ⟨_, rfl⟩
      have h1 : (s[i].toNat : Int) / 16 = (d1 : Int) := by omega
      have h2 : bits .and .u8 (s[i].toNat : Int) 15 = (d2 : Int) := by rw [and15 _ hb256, hd2]
      have hx1 := hex_index d1 (by omega) .u8
      have hx2 := hex_index d2 (by omega) .u8
      have H1 : Hid (hex1 s[i] = [hexD d1, hexD d2]) := by show _ = _; unfold hex1; rw [hd1, hd2]
      generalize hexD d1 = c1 at *
      generalize hexD d2 = c2 at *
      clear hd1 hd2
      go_wp2
      refine wp_region_any (by kernel_rfl) ?_
      change wpAny _ _ _ _ _ _ _ wr.drew
      refine wpAny_take (i := 0) (v := u3) rfl (by kernel_rfl) (by kernel_rfl) (by kernel_rfl) (fun _ _ _ h => h) (Or.inl ⟨by simp [Region.wanted], fun W => by go_simp⟩) ?_
      simp only [List.getElem_toArray, List.getElem_cons_zero, Act.put, List.setIfInBounds_toArray, List.set_cons_zero, List.set_cons_succ]
      refine wpAny_take (i := 1) (v := (.string s)) rfl (by kernel_rfl) (by kernel_rfl) (by kernel_rfl) (fun _ _ _ h => h) (Or.inl ⟨by simp [Region.wanted], fun W => by go_simp⟩) ?_
      simp only [List.getElem_toArray, List.getElem_cons_zero, List.getElem_cons_succ, Act.put, List.setIfInBounds_toArray, List.set_cons_zero, List.set_cons_succ]
      refine wpAny_take (i := 2) (v := (.int .i64 (i : Int))) rfl (by kernel_rfl) (by kernel_rfl) (by kernel_rfl) (fun _ _ _ h => h) (Or.inl ⟨by simp [Region.wanted], fun W => by go_simp⟩) ?_
      simp only [List.getElem_toArray, List.getElem_cons_zero, List.getElem_cons_succ, Act.put, List.setIfInBounds_toArray, List.set_cons_zero, List.set_cons_succ]
      refine wpAny_take (i := 3) (v := (.int .u8 (s[i].toNat : Int))) rfl (by kernel_rfl) (by kernel_rfl) (by kernel_rfl) (fun _ _ _ h => h) (Or.inl ⟨by simp [Region.wanted], fun W => by go_simp⟩) ?_
      simp only [List.getElem_toArray, List.getElem_cons_zero, List.getElem_cons_succ, Act.put, List.setIfInBounds_toArray, List.set_cons_zero, List.set_cons_succ]
      refine wpAny_take (i := 4) (v := (.int .u8 (d1 : Int))) rfl (by kernel_rfl) (by kernel_rfl) (by kernel_rfl) (fun _ _ _ h => h) (Or.inl ⟨by simp [Region.wanted], fun W => by go_simp⟩) ?_
      simp only [List.getElem_toArray, List.getElem_cons_zero, List.getElem_cons_succ, Act.put, List.setIfInBounds_toArray, List.set_cons_zero, List.set_cons_succ]
      refine wpAny_take (i := 5) (v := (.int .u8 (c1.toNat : Int))) rfl (by kernel_rfl) (by kernel_rfl) (by kernel_rfl) (fun _ _ _ h => h) (Or.inl ⟨by simp [Region.wanted], fun W => by go_simp⟩) ?_
      simp only [List.getElem_toArray, List.getElem_cons_zero, List.getElem_cons_succ, Act.put, List.setIfInBounds_toArray, List.set_cons_zero, List.set_cons_succ]
      refine wpAny_take (i := 6) (v := (.string s)) rfl (by kernel_rfl) (by kernel_rfl) (by kernel_rfl) (fun _ _ _ h => h) (Or.inl ⟨by simp [Region.wanted], fun W => by go_simp⟩) ?_
      simp only [List.getElem_toArray, List.getElem_cons_zero, List.getElem_cons_succ, Act.put, List.setIfInBounds_toArray, List.set_cons_zero, List.set_cons_succ]
      refine wpAny_take (i := 7) (v := (.int .i64 (i : Int))) rfl (by kernel_rfl) (by kernel_rfl) (by kernel_rfl) (fun _ _ _ h => h) (Or.inl ⟨by simp [Region.wanted], fun W => by go_simp⟩) ?_
      simp only [List.getElem_toArray, List.getElem_cons_zero, List.getElem_cons_succ, Act.put, List.setIfInBounds_toArray, List.set_cons_zero, List.set_cons_succ]
      refine wpAny_take (i := 8) (v := (.int .u8 (s[i].toNat : Int))) rfl (by kernel_rfl) (by kernel_rfl) (by kernel_rfl) (fun _ _ _ h => h) (Or.inl ⟨by simp [Region.wanted], fun W => by go_simp⟩) ?_
      simp only [List.getElem_toArray, List.getElem_cons_zero, List.getElem_cons_succ, Act.put, List.setIfInBounds_toArray, List.set_cons_zero, List.set_cons_succ]
      refine wpAny_take (i := 9) (v := (.int .u8 (d2 : Int))) rfl (by kernel_rfl) (by kernel_rfl) (by kernel_rfl) (fun _ _ _ h => h) (Or.inl ⟨by simp [Region.wanted], fun W => by go_simp⟩) ?_
      simp only [List.getElem_toArray, List.getElem_cons_zero, List.getElem_cons_succ, Act.put, List.setIfInBounds_toArray, List.set_cons_zero, List.set_cons_succ]
      refine wpAny_take (i := 10) (v := (.int .u8 (c2.toNat : Int))) rfl (by kernel_rfl) (by kernel_rfl) (by kernel_rfl) (fun _ _ _ h => h) (Or.inl ⟨by simp [Region.wanted], fun W => by go_simp⟩) ?_
      simp only [List.getElem_toArray, List.getElem_cons_zero, List.getElem_cons_succ, Act.put, List.setIfInBounds_toArray, List.set_cons_zero, List.set_cons_succ]
      refine wpAny_ready (rs := [11]) (by kernel_rfl) (by simp) ?_
      refine AllReady.cons rfl (fun K1 hK1 => ?_) AllReady.nil
      refine wanted_go rfl ?_
      simp only [List.getElem_toArray, List.getElem_cons_zero, List.getElem_cons_succ]
      go_wp2
      refine wpAny_ready (rs := [12]) (by kernel_rfl) (by simp) ?_
      refine AllReady.cons rfl (fun K2 hK2 => ?_) AllReady.nil
      refine wanted_go rfl ?_
      simp only [List.getElem_toArray, List.getElem_cons_zero, List.getElem_cons_succ]
      refine wp_append_own _ _ _ 36 rfl w.heap.size 5 i0 (.int .u8 0) 1 1 Tryd.underlying36 hi hz0 hz1 hz2 rfl (by decide) _ _ _ rfl (own_drew_alloc HO.out _) ⟨wr.heap.size, 0, none⟩ 2 2 [.int .u8 (c1.toNat : Int), .int .u8 (c2.toNat : Int)] rfl rfl (new_two _ _ _ _) (two_cell_u8 _ _) (by unfold maxLen; omega) (by omega) (by have := HS.out; simp; omega) ?_
      intro v' w1 hown' hgrow _
      have HO1 := Lib.hid hown'; have HG1 := Lib.hid hgrow; clear hown' hgrow
      refine hK2 _ _ ?_
      simp only [Act.put, List.setIfInBounds_toArray, List.set_cons_zero, List.set_cons_succ]
      refine wpAny_ready (rs := [13]) (by kernel_rfl) (by simp) ?_
      refine AllReady.cons rfl (fun K3 hK3 => ?_) AllReady.nil
      refine wanted_go rfl ?_
      simp only [List.getElem_toArray, List.getElem_cons_zero, List.getElem_cons_succ]
      go_wp2
      refine wpAny_done (by kernel_rfl) ?_ _
      go_wp2
      go_roundw
      case rel =>
        refine ⟨i + 1, by omega, by go_num, ?_, HB.out.drew.grown (show wr.drew.grownBy w1 u3.ownBlock from World_grown_alloc HG1.out) (by simpa using HS.out) (own_block_ge HO.out), by have := HG1.out.size; have := HS.out; simp at *; omega⟩
        rw [HT.out, hexB_snoc, H1.out, Lib.byteCells_append]
        exact HO1.out
      case measure => simp [intOf]; omega
    · have his : i = s.size := by omega
      have HF := Lib.hid (show wr.ownsRow w.heap.size 5 1 u3 (2 * s.size) (Lib.byteCells (hexB s.data.toList)) by
        have h := HO.out
        rw [his, List.take_of_length_le (by simp)] at h
        exact h)
      clear his
      have hcv := conv_own HF.out
      go_wp2
      go_ret
      exact ⟨rfl, HB.out⟩
end Go.Proofs.YtaocchhedplflaaDoor
