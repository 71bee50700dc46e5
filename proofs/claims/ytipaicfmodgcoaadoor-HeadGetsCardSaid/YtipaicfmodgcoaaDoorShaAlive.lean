/- What the laws call: the contracts of Cut, of the document's Sum, and of the example. -/
import Derived.Test.YtipaicfmodgcoaaDoorShaDigest
namespace Go.Proofs.YtipaicfmodgcoaaDoor
open Go.RowKit

/-- The digest as a text. -/
def digS (s : ByteArray) : ByteArray := ⟨(digB s.data.toList).toArray⟩
theorem digS_size (s : ByteArray) : (digS s).size = 32 := by show (digB s.data.toList).toArray.size = 32; rw [List.size_toArray, digB_len]
def hexT (s : ByteArray) : ByteArray := ⟨(hexB s.data.toList).toArray⟩

theorem cut_no (s : ByteArray) (n : Int) (w : World) (h : n < 1 ∨ 32 < n) :
    Calls Tryd.prog 51 #[.string s, .int .i64 n] w fun e w' => e = .returned (.tuple #[.string ⟨#[]⟩, .int .i64 1]) ∧ w = w' := by
  rcases h with h | h
  · go_enter Tryd.func51, Tryd.ntmps51
    go_wp2
    go_ret2
    exact ⟨rfl, rfl⟩
  · have h' : ¬ n < 1 := by omega
    go_enter Tryd.func51, Tryd.ntmps51
    go_wp2
    go_ret2
    exact ⟨rfl, rfl⟩
theorem cut_yes (s : ByteArray) (n : Nat) (w : World) (h0 : 1 ≤ n) (h1 : n ≤ 32) (hs : s.size ≤ 800000) (hK : KHeld w) :
    Calls Tryd.prog 51 #[.string s, .int .i64 (n : Int)] w fun e w' => e = .returned (.tuple #[.string ((digS s).extract 0 n), .int .i64 0]) ∧ Below w.heap.size w w' := by
  have h2 : ¬ (n : Int) < 1 := by omega
  have h3 : ¬ 32 < (n : Int) := by omega
  have h4 : (n : Int) ≤ 32 := by omega
  have hsz := digS_size s
  have hl : (0 : Int) ≤ (n : Int) := by omega
  have HC := Lib.hid (show ∀ W, KHeld W → Calls Tryd.prog 68 #[.string s] W fun e w' => e = .returned (.string (digS s)) ∧ Below W.heap.size W w' from fun W h => sum9 s W hs h)
  generalize digS s = D at *
  have hn : (n : Int) ≤ (D.size : Int) := by omega
  clear hsz
  have HK := Lib.hid hK
  clear hK
  go_enter Tryd.func51, Tryd.ntmps51
  go_wp2_with (go_at_call 68; refine (HC.out _ HK.out).mono ?_; rintro e w1 ⟨rfl, hb1⟩; have HB1 := Lib.hid hb1; clear hb1)
  go_ret2
  exact ⟨rfl, HB1.out⟩

set_option maxRecDepth 100000 in
theorem hex_abc : hexB (digB [97, 98, 99]) = [98, 97, 55, 56, 49, 54, 98, 102, 56, 102, 48, 49, 99, 102, 101, 97, 52, 49, 52, 49, 52, 48, 100, 101, 53, 100, 97, 101, 50, 50, 50, 51, 98, 48, 48, 51, 54, 49, 97, 51, 57, 54, 49, 55, 55, 97, 57, 99, 98, 52, 49, 48, 102, 102, 54, 49, 102, 50, 48, 48, 49, 53, 97, 100] := by
  rw [dig_abc]; decide +kernel
theorem digS_abc : digS ⟨#[97, 98, 99]⟩ = ⟨#[0xba, 0x78, 0x16, 0xbf, 0x8f, 0x01, 0xcf, 0xea, 0x41, 0x41, 0x40, 0xde, 0x5d, 0xae, 0x22, 0x23, 0xb0, 0x03, 0x61, 0xa3, 0x96, 0x17, 0x7a, 0x9c, 0xb4, 0x10, 0xff, 0x61, 0xf2, 0x00, 0x15, 0xad]⟩ := by
  show (⟨(digB [97, 98, 99]).toArray⟩ : ByteArray) = _
  rw [dig_abc]
end Go.Proofs.YtipaicfmodgcoaaDoor
