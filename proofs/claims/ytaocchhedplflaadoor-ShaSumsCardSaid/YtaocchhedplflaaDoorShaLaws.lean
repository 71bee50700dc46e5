/- The walks of the laws ShaSums and ShaEnds. -/
import Derived.Test.YtaocchhedplflaaDoorShaAlive
namespace Go.Proofs.YtaocchhedplflaaDoor
open Go.RowKit

theorem bt {a b c : World} (h : Below a.heap.size a b) (k : Below b.heap.size b c) : Below a.heap.size a c := h.trans (k.mono h.size)
theorem sum9d (s : ByteArray) (W : World) (hs : s.size ≤ 800000) (h : KHeld W) : Calls Tryd.prog 9 #[.string s] W fun e w' => e = .returned (.string (digS s)) ∧ Below W.heap.size W w' := sum9 s W hs h

set_option maxHeartbeats 1000000 in
theorem walk3 (s : ByteArray) (n : Int) (w : World) (_hs : s.size ≤ maxLen) (hK : KHeld w) :
    Calls Tryd.prog 3 #[.string s, .int .i64 n] w fun e w' => e = .returned (.bool true) ∧ Below w.heap.size w w' := by
  have hal := alive6 w hK
  have HAL := Lib.hid hal
  have HK := Lib.hid hK
  clear hal hK
  by_cases hbig : 1000 < s.size
  · have h1 : (1000 : Int) < (s.size : Int) := by omega
    go_enter Tryd.func3, Tryd.ntmps3
    go_wp2_with (go_at_call 6; refine HAL.out.mono ?_; rintro e w1 ⟨rfl, hb1⟩; have HB1 := Lib.hid hb1; clear hb1)
    go_ret
    exact ⟨rfl, HB1.out⟩
  · have h1 : ¬ (1000 : Int) < (s.size : Int) := by omega
    have HC7 := Lib.hid (fun W => refsum7 s W (by omega))
    have HC9 := Lib.hid (fun W (h : KHeld W) => sum9d s W (by omega) h)
    have HC10 := Lib.hid (fun W => hex10 s W (by omega))
    have HC11 := Lib.hid (fun W => hex11 s W (by omega))
    have hd := digS_size s
    by_cases hn : n < 1 ∨ 32 < n
    · have HC8 := Lib.hid (fun W => cut_no s n W hn)
      generalize digS s = D at *
      generalize (⟨(hexB s.data.toList).toArray⟩ : ByteArray) = H at *
      clear hd
      rcases hn with h2 | h2
      · go_enter Tryd.func3, Tryd.ntmps3
        go_wp2_with (first
          | (go_at_call 6; refine HAL.out.mono ?_; rintro e w1 ⟨rfl, hb1⟩; have HB1 := Lib.hid hb1; clear hb1)
          | (go_at_call 7; refine (HC7.out _).mono ?_; rintro e w2 ⟨rfl, hb2⟩; have HB2 := Lib.hid (bt HB1.out hb2); clear hb2)
          | (go_at_call 8; refine (HC8.out _).mono ?_; rintro e w3 ⟨rfl, rfl⟩)
          | (go_at_call 9; refine (HC9.out _ (KHeld_of HK.out HB2.out)).mono ?_; rintro e w4 ⟨rfl, hb4⟩; have HB4 := Lib.hid (bt HB2.out hb4); clear hb4)
          | (go_at_call 10; refine (HC10.out _).mono ?_; rintro e w5 ⟨rfl, hb5⟩; have HB5 := Lib.hid (bt HB4.out hb5); clear hb5)
          | (go_at_call 11; refine (HC11.out _).mono ?_; rintro e w6 ⟨rfl, m, rfl⟩))
        go_ret
        exact ⟨rfl, below_drewN HB5.out _⟩
      · have h3 : ¬ n < 1 := by omega
        go_enter Tryd.func3, Tryd.ntmps3
        go_wp2_with (first
          | (go_at_call 6; refine HAL.out.mono ?_; rintro e w1 ⟨rfl, hb1⟩; have HB1 := Lib.hid hb1; clear hb1)
          | (go_at_call 7; refine (HC7.out _).mono ?_; rintro e w2 ⟨rfl, hb2⟩; have HB2 := Lib.hid (bt HB1.out hb2); clear hb2)
          | (go_at_call 8; refine (HC8.out _).mono ?_; rintro e w3 ⟨rfl, rfl⟩)
          | (go_at_call 9; refine (HC9.out _ (KHeld_of HK.out HB2.out)).mono ?_; rintro e w4 ⟨rfl, hb4⟩; have HB4 := Lib.hid (bt HB2.out hb4); clear hb4)
          | (go_at_call 10; refine (HC10.out _).mono ?_; rintro e w5 ⟨rfl, hb5⟩; have HB5 := Lib.hid (bt HB4.out hb5); clear hb5)
          | (go_at_call 11; refine (HC11.out _).mono ?_; rintro e w6 ⟨rfl, m, rfl⟩))
        go_ret
        exact ⟨rfl, below_drewN HB5.out _⟩
    · obtain ⟨k, rfl⟩ : ∃ k : Nat, n = (k : Int) := ⟨n.toNat, by omega⟩
      have HC8 := Lib.hid (fun W (h : KHeld W) => cut_yes s k W (by omega) (by omega) (by omega) h)
      generalize digS s = D at *
      generalize (⟨(hexB s.data.toList).toArray⟩ : ByteArray) = H at *
      have h2 : ¬ (k : Int) < 1 := by omega
      have h3 : ¬ 32 < (k : Int) := by omega
      have h4 : (k : Int) ≤ (D.size : Int) := by omega
      clear hn hd
      go_enter Tryd.func3, Tryd.ntmps3
      go_wp2_with (first
        | (go_at_call 6; refine HAL.out.mono ?_; rintro e w1 ⟨rfl, hb1⟩; have HB1 := Lib.hid hb1; clear hb1)
        | (go_at_call 7; refine (HC7.out _).mono ?_; rintro e w2 ⟨rfl, hb2⟩; have HB2 := Lib.hid (bt HB1.out hb2); clear hb2)
        | (go_at_call 8; refine (HC8.out _ (KHeld_of HK.out HB2.out)).mono ?_; rintro e w3 ⟨rfl, hb3⟩; have HB3 := Lib.hid (bt HB2.out hb3); clear hb3)
        | (go_at_call 9; refine (HC9.out _ (KHeld_of HK.out HB3.out)).mono ?_; rintro e w4 ⟨rfl, hb4⟩; have HB4 := Lib.hid (bt HB3.out hb4); clear hb4)
        | (go_at_call 10; refine (HC10.out _).mono ?_; rintro e w5 ⟨rfl, hb5⟩; have HB5 := Lib.hid (bt HB4.out hb5); clear hb5)
        | (go_at_call 11; refine (HC11.out _).mono ?_; rintro e w6 ⟨rfl, m, rfl⟩))
      go_ret
      exact ⟨rfl, below_drewN HB5.out _⟩
end Go.Proofs.YtaocchhedplflaaDoor
