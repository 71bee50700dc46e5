/- Bytes in digits of base 16: the contract of the document's Hex. -/
import Derived.Test.YtaocchhedplflaaDoorShaHex
namespace Go.Proofs.YtaocchhedplflaaDoor
open Go.RowKit

theorem hex_slice (d : Nat) (h : d < 16) : (⟨#[48, 49, 50, 51, 52, 53, 54, 55, 56, 57, 97, 98, 99, 100, 101, 102]⟩ : ByteArray).extract d (d + 1) = ⟨#[hexD d]⟩ := by
  match d, h with
  | 0, _ => rfl
  | 1, _ => rfl
  | 2, _ => rfl
  | 3, _ => rfl
  | 4, _ => rfl
  | 5, _ => rfl
  | 6, _ => rfl
  | 7, _ => rfl
  | 8, _ => rfl
  | 9, _ => rfl
  | 10, _ => rfl
  | 11, _ => rfl
  | 12, _ => rfl
  | 13, _ => rfl
  | 14, _ => rfl
  | 15, _ => rfl
  | n + 16, h => omega

theorem hex_sl (d : Nat) (h : d < 16) (W : World) : (Instr.slice 9 (.string ⟨#[48, 49, 50, 51, 52, 53, 54, 55, 56, 57, 97, 98, 99, 100, 101, 102]⟩) (some (.int .u8 (d : Int))) (some (.int .u8 ((d : Int) + 1))) none).run Tryd.prog W = .ok (.string ⟨#[hexD d]⟩) W := by
  have hs : (⟨#[48, 49, 50, 51, 52, 53, 54, 55, 56, 57, 97, 98, 99, 100, 101, 102]⟩ : ByteArray).size = 16 := rfl
  have ht := hex_slice d h
  have e1 : (0 : Int) ≤ (d : Int) + 1 := by omega
  have e2 : (d : Int) ≤ (d : Int) + 1 := by omega
  have e3 : (d : Int) + 1 ≤ ((16 : Nat) : Int) := by omega
  have e4 : ((d : Int) + 1).toNat = d + 1 := by omega
  generalize (⟨#[48, 49, 50, 51, 52, 53, 54, 55, 56, 57, 97, 98, 99, 100, 101, 102]⟩ : ByteArray) = H at *
  rw [← hs] at e3
  simp [Instr.slice, run_underlying Tryd.underlying9, Instr.sliceBounds, run_sliceBound, e1, e2, e3, e4, ht]

set_option maxRecDepth 100000 in
set_option maxHeartbeats 1000000 in
theorem hex11 (s : ByteArray) (w : World) (hs : s.size ≤ 1000000) :
    Calls Tryd.prog 11 #[.string s] w fun e w' => e = .returned (.string ⟨(hexB s.data.toList).toArray⟩) ∧ ∃ n, w' = w.drewN n := by
  go_enter Tryd.func11, Tryd.ntmps11
  go_wp2
  go_loopw [3, 4] (fun v vi W => ∃ (i n : Nat) (acc : ByteArray), i ≤ s.size ∧ vi = .int .i64 (i : Int) ∧ v = .string acc ∧ acc = ⟨(hexB (s.data.toList.take i)).toArray⟩ ∧ W = w.drewN n) (fun _ vi _ => s.size - (intOf vi).toNat)
  case atStart => exact ⟨0, 0, _, by omega, rfl, rfl, rfl, rfl⟩
  case round =>
    obtain ⟨i, n, acc, hil, rfl, rfl, hacc, rfl⟩ := hrel
    have hsz : acc.size = 2 * i := by
      rw [hacc]; show (hexB _).toArray.size = _
      rw [List.size_toArray, hexB_len]; simp; omega
    have hsz2 : acc.size ≤ 2000000 := by omega
    have HA := Lib.hid hacc
    clear hacc hsz
    by_cases hlt : i < s.size
    · have hlt2 : (i : Int) < (s.size : Int) := by omega
      have hb256 : s[i].toNat < 256 := UInt8.toNat_lt _
      have HT := Lib.hid (take_snoc s i hlt)
      obtain ⟨d1, hd1⟩ : ∃ d, s[i].toNat / 16 = d := ⟨_, rfl⟩
      obtain ⟨d2, hd2⟩ : ∃ d, s[i].toNat % 16 = d := ⟨_, rfl⟩
      have h1 : (s[i].toNat : Int) / 16 = (d1 : Int) := by omega
      have h2 : (s[i].toNat : Int) % 16 = (d2 : Int) := by omega
      have h3 : (s[i].toNat : Int).tdiv 16 = (d1 : Int) := by rw [Int.tdiv_eq_ediv_of_nonneg (by omega)]; exact h1
      have h4 : (s[i].toNat : Int).tmod 16 = (d2 : Int) := by rw [Int.tmod_eq_emod_of_nonneg (by omega)]; exact h2
      have b1 : d1 < 16 := by omega
      have b2 : d2 < 16 := by omega
      have H1 : Hid (hex1 s[i] = [hexD d1, hexD d2]) := by show _ = _; unfold hex1; rw [hd1, hd2]
      have hsl1 := hex_sl d1 b1
      have hsl2 := hex_sl d2 b2
      generalize hexD d1 = c1 at *
      generalize hexD d2 = c2 at *
      clear hd1 hd2
      have w3 : IntKind.u8.wrap (d1 : Int) = (d1 : Int) := by rw [IntKind.wrap_u8]; omega
      have w4 : IntKind.u8.wrap (d2 : Int) = (d2 : Int) := by rw [IntKind.wrap_u8]; omega
      have w1 : IntKind.u8.wrap ((d1 : Int) + 1) = (d1 : Int) + 1 := by rw [IntKind.wrap_u8]; omega
      have w2 : IntKind.u8.wrap ((d2 : Int) + 1) = (d2 : Int) + 1 := by rw [IntKind.wrap_u8]; omega
      have t1 : ((d1 : Int) + 1).toNat = d1 + 1 := by omega
      have t2 : ((d2 : Int) + 1).toNat = d2 + 1 := by omega
      have p1 : (d1 : Int) + 1 ≤ 16 := by omega
      have p2 : (d2 : Int) + 1 ≤ 16 := by omega
      go_wp2
      go_quiet (fail)
      go_wp2
      go_roundw
      case rel =>
        refine ⟨i + 1, n + nq, _, by omega, by go_num, rfl, ?_, rfl⟩
        rw [HA.out, HT.out, hexB_snoc, H1.out]
        apply ByteArray.ext
        simp
      case measure => simp [intOf]; omega
    · have his : i = s.size := by omega
      have HF : Hid (acc = ⟨(hexB s.data.toList).toArray⟩) := by
        show _ = _
        rw [HA.out, his, List.take_of_length_le (by simp)]
      clear his
      go_wp2
      go_ret
      exact ⟨ret_str HF.out, n, rfl⟩
end Go.Proofs.YtaocchhedplflaaDoor
