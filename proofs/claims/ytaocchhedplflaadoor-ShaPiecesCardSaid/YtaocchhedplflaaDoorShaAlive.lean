/- What the laws call: the contracts of Cut, of the document's Sum, and of the example. -/
import Derived.Test.YtaocchhedplflaaDoorShaDigest
namespace Go.Proofs.YtaocchhedplflaaDoor
open Go.RowKit

/-- The digest as a text. -/
def digS (s : ByteArray) : ByteArray := ⟨(digB s.data.toList).toArray⟩
theorem digS_size (s : ByteArray) : (digS s).size = 32 := by show (digB s.data.toList).toArray.size = 32; rw [List.size_toArray, digB_len]
def hexT (s : ByteArray) : ByteArray := ⟨(hexB s.data.toList).toArray⟩

theorem refsum7 (s : ByteArray) (w : World) (hs : s.size ≤ 100000) :
    Calls Tryd.prog 7 #[.string s] w fun e w' => e = .returned (.string (digS s)) ∧ Below w.heap.size w w' := by
  have HD := Lib.hid (fun W => digest16 s W hs)
  have HM := Lib.hid (fun W => makeKey11 W)
  generalize keyCells = kc at *
  go_enter Tryd.func7, Tryd.ntmps7
  go_wp2_with (first
    | (go_at_call 17; refine (HM.out _).mono ?_; rintro e w1 ⟨rfl, hb1⟩; have HB1 := Lib.hid hb1; clear hb1)
    | (go_at_call 16; refine (HD.out _).mono ?_; rintro e w2 ⟨rfl, hb2⟩; have HB2 := Lib.hid hb2; clear hb2))
  go_ret
  exact ⟨rfl, HB1.out.trans (HB2.out.mono HB1.out.size)⟩

theorem cut_no (s : ByteArray) (n : Int) (w : World) (h : n < 1 ∨ 32 < n) :
    Calls Tryd.prog 8 #[.string s, .int .i64 n] w fun e w' => e = .returned (.tuple #[.string ⟨#[]⟩, .int .i64 1]) ∧ w = w' := by
  rcases h with h | h
  · go_enter Tryd.func8, Tryd.ntmps8
    go_wp2
    go_ret2
    exact ⟨rfl, rfl⟩
  · have h' : ¬ n < 1 := by omega
    go_enter Tryd.func8, Tryd.ntmps8
    go_wp2
    go_ret2
    exact ⟨rfl, rfl⟩
theorem cut_yes (s : ByteArray) (n : Nat) (w : World) (h0 : 1 ≤ n) (h1 : n ≤ 32) (hs : s.size ≤ 800000) (hK : KHeld w) :
    Calls Tryd.prog 8 #[.string s, .int .i64 (n : Int)] w fun e w' => e = .returned (.tuple #[.string ((digS s).extract 0 n), .int .i64 0]) ∧ Below w.heap.size w w' := by
  have h2 : ¬ (n : Int) < 1 := by omega
  have h3 : ¬ 32 < (n : Int) := by omega
  have h4 : (n : Int) ≤ 32 := by omega
  have hsz := digS_size s
  have hl : (0 : Int) ≤ (n : Int) := by omega
  have HC := Lib.hid (show ∀ W, KHeld W → Calls Tryd.prog 9 #[.string s] W fun e w' => e = .returned (.string (digS s)) ∧ Below W.heap.size W w' from fun W h => sum9 s W hs h)
  generalize digS s = D at *
  have hn : (n : Int) ≤ (D.size : Int) := by omega
  clear hsz
  have HK := Lib.hid hK
  clear hK
  go_enter Tryd.func8, Tryd.ntmps8
  go_wp2_with (go_at_call 9; refine (HC.out _ HK.out).mono ?_; rintro e w1 ⟨rfl, hb1⟩; have HB1 := Lib.hid hb1; clear hb1)
  go_ret2
  exact ⟨rfl, HB1.out⟩

set_option maxRecDepth 100000 in
theorem hex_abc : hexB (digB [97, 98, 99]) = [98, 97, 55, 56, 49, 54, 98, 102, 56, 102, 48, 49, 99, 102, 101, 97, 52, 49, 52, 49, 52, 48, 100, 101, 53, 100, 97, 101, 50, 50, 50, 51, 98, 48, 48, 51, 54, 49, 97, 51, 57, 54, 49, 55, 55, 97, 57, 99, 98, 52, 49, 48, 102, 102, 54, 49, 102, 50, 48, 48, 49, 53, 97, 100] := by
  rw [dig_abc]; decide +kernel
theorem digS_abc : digS ⟨#[97, 98, 99]⟩ = ⟨#[0xba, 0x78, 0x16, 0xbf, 0x8f, 0x01, 0xcf, 0xea, 0x41, 0x41, 0x40, 0xde, 0x5d, 0xae, 0x22, 0x23, 0xb0, 0x03, 0x61, 0xa3, 0x96, 0x17, 0x7a, 0x9c, 0xb4, 0x10, 0xff, 0x61, 0xf2, 0x00, 0x15, 0xad]⟩ := by
  show (⟨(digB [97, 98, 99]).toArray⟩ : ByteArray) = _
  rw [dig_abc]

set_option maxRecDepth 100000 in
set_option maxHeartbeats 1000000 in
theorem alive6 (w : World) (hK : KHeld w) : Calls Tryd.prog 6 #[] w fun e w' => e = .returned (.bool true) ∧ Below w.heap.size w w' := by
  have hc8 := fun W (h : KHeld W) => cut_yes ⟨#[97, 98, 99]⟩ 2 W (by omega) (by omega) (by decide) h
  have hs9 := fun W (h : KHeld W) => sum9 ⟨#[97, 98, 99]⟩ W (by decide) h
  have he : (digS ⟨#[97, 98, 99]⟩).extract 0 2 = ⟨#[186, 120]⟩ := by rw [digS_abc]; rfl
  rw [he] at hc8
  have hs9' : ∀ W, KHeld W → Calls Tryd.prog 9 #[.string ⟨#[97, 98, 99]⟩] W fun e w' => e = .returned (.string (digS ⟨#[97, 98, 99]⟩)) ∧ Below W.heap.size W w' := hs9
  have hh10 : ∀ W, Calls Tryd.prog 10 #[.string (digS ⟨#[97, 98, 99]⟩)] W fun e w' => e = .returned (.string ⟨#[98, 97, 55, 56, 49, 54, 98, 102, 56, 102, 48, 49, 99, 102, 101, 97, 52, 49, 52, 49, 52, 48, 100, 101, 53, 100, 97, 101, 50, 50, 50, 51, 98, 48, 48, 51, 54, 49, 97, 51, 57, 54, 49, 55, 55, 97, 57, 99, 98, 52, 49, 48, 102, 102, 54, 49, 102, 50, 48, 48, 49, 53, 97, 100]⟩) ∧ Below W.heap.size W w' := fun W => by
    have h := hex10 (digS ⟨#[97, 98, 99]⟩) W (by rw [digS_size]; omega)
    have e : (⟨(hexB (digS ⟨#[97, 98, 99]⟩).data.toList).toArray⟩ : ByteArray) = ⟨#[98, 97, 55, 56, 49, 54, 98, 102, 56, 102, 48, 49, 99, 102, 101, 97, 52, 49, 52, 49, 52, 48, 100, 101, 53, 100, 97, 101, 50, 50, 50, 51, 98, 48, 48, 51, 54, 49, 97, 51, 57, 54, 49, 55, 55, 97, 57, 99, 98, 52, 49, 48, 102, 102, 54, 49, 102, 50, 48, 48, 49, 53, 97, 100]⟩ := by
      rw [digS_abc, ← dig_abc, hex_abc]
    rw [e] at h
    exact h
  have H8 := Lib.hid hc8; have H9 := Lib.hid hs9'; have H10 := Lib.hid hh10; have HK := Lib.hid hK
  clear hc8 hs9 hs9' hh10 hK he
  generalize digS ⟨#[97, 98, 99]⟩ = D at *
  go_enter Tryd.func6, Tryd.ntmps6
  go_wp2_with (first
    | (go_at_call 8; refine (H8.out _ HK.out).mono ?_; rintro e w1 ⟨rfl, hb1⟩; have HB1 := Lib.hid hb1; clear hb1)
    | (go_at_call 9; refine (H9.out _ (KHeld_of HK.out HB1.out)).mono ?_; rintro e w2 ⟨rfl, hb2⟩; have HB2 := Lib.hid hb2; clear hb2)
    | (go_at_call 10; refine (H10.out _).mono ?_; rintro e w3 ⟨rfl, hb3⟩; have HB3 := Lib.hid hb3; clear hb3))
  go_ret
  exact ⟨rfl, (HB1.out.trans (HB2.out.mono HB1.out.size)).trans (HB3.out.mono (Nat.le_trans HB1.out.size HB2.out.size))⟩
end Go.Proofs.YtaocchhedplflaaDoor
