/- The document's example of frames: alive. And the walk of FrameWraps. -/
import Derived.Test.YtbaajabiimckoaaFrScanP
namespace Go.Proofs.Ytbaajabiimckoaa
open Go.RowKit Base

theorem alive_wrap : wrapR ⟨#[97, 98]⟩ = (⟨#[2, 97, 98, 165]⟩, 0) := by decide +kernel
theorem alive_scan : scanS ⟨#[2, 97, 98, 165, 0, 0]⟩ = [(⟨#[97, 98]⟩, 4)] := by decide +kernel

theorem alive_rows (W : World) : Calls Try.prog 11 #[.string ⟨#[2, 97, 98, 165, 0, 0]⟩] W fun e w' => (∃ g cp, e = .returned (.tuple #[.slice (some ⟨g, 0, none⟩) 1 cp, .int .i64 4]) ∧ w'.cell? ⟨g, 0, none⟩ = some (.string ⟨#[97, 98]⟩)) ∧ Below W.heap.size W w' := by
  have hS := scan11 ⟨#[2, 97, 98, 165, 0, 0]⟩ W (by decide)
  rw [alive_scan] at hS
  refine hS.mono ?_
  rintro e w' ⟨⟨v, rfl, ho⟩, hb⟩
  have ho1 : w'.ownsRow W.heap.size 9 1 v 1 [.string ⟨#[97, 98]⟩] := ho
  obtain ⟨g, cp, rfl⟩ := own_shape' ho1 (by decide)
  exact ⟨⟨g, cp, rfl, ho1.cellAt 0 (by decide)⟩, hb⟩

set_option maxRecDepth 100000 in
set_option maxHeartbeats 2000000 in
theorem alive6 (w : World) : Calls Try.prog 6 #[] w fun e w' => e = .returned (.bool true) ∧ Below w.heap.size w w' := by
  have hW := wrap7 ⟨#[97, 98]⟩ w
  rw [alive_wrap] at hW
  have HS := Lib.hid alive_rows
  have HW := Lib.hid hW
  clear hW
  go_enter Try.func6, Try.ntmps6
  go_wp2_with (first
    | (go_at_call 7; refine HW.out.mono ?_; rintro e w1 ⟨rfl, hb⟩; have HB := Lib.hid hb; clear hb)
    | (go_at_call 11; refine (HS.out _).mono ?_; rintro e w2 ⟨⟨g, cp, rfl, hc⟩, hb2⟩; have HB2 := Lib.hid (HB.out.trans (hb2.mono HB.out.size)); clear hb2))
  go_ret
  exact ⟨rfl, HB2.out⟩

set_option maxRecDepth 100000 in
set_option maxHeartbeats 4000000 in
theorem wraps3 (s more : ByteArray) (w : World) : Calls Try.prog 3 #[.string s, .string more] w fun e w' => e = .returned (.bool true) ∧ Below w.heap.size w w' := by
  have HA := Lib.hid (alive6 w)
  by_cases h5 : (500 : Int) < (more.size : Int)
  · by_cases h2 : (2000 : Int) < (s.size : Int)
    · by_cases h6 : (s.size : Int) ≤ 65536
      · go_enter Try.func3, Try.ntmps3
        go_wp2_with (go_at_call 6; refine HA.out.mono ?_; rintro e w1 ⟨rfl, hb⟩; have HB := Lib.hid hb; clear hb)
        go_ret
        exact ⟨rfl, HB.out⟩
      · go_enter Try.func3, Try.ntmps3
        go_wp2_with (go_at_call 6; refine HA.out.mono ?_; rintro e w1 ⟨rfl, hb⟩; have HB := Lib.hid hb; clear hb)
        go_ret
        exact ⟨rfl, HB.out⟩
    · go_enter Try.func3, Try.ntmps3
      go_wp2_with (go_at_call 6; refine HA.out.mono ?_; rintro e w1 ⟨rfl, hb⟩; have HB := Lib.hid hb; clear hb)
      go_ret
      exact ⟨rfl, HB.out⟩
  by_cases h0 : s.size = 0
  · have hr : wrapR s = (⟨#[]⟩, 1) := if_pos h0
    have HW := Lib.hid (fun W => wrap7 s W)
    rw [hr] at HW
    obtain rfl := empty_of h0
    clear h0 hr
    go_enter Try.func3, Try.ntmps3
    go_wp2_with (first
      | (go_at_call 6; refine HA.out.mono ?_; rintro e w1 ⟨rfl, hb⟩; have HB := Lib.hid hb; clear hb)
      | (go_at_call 7; refine (HW.out _).mono ?_; rintro e w2 ⟨rfl, hb2⟩; have HB2 := Lib.hid (HB.out.trans (hb2.mono HB.out.size)); clear hb2))
    go_ret
    exact ⟨rfl, HB2.out⟩
  by_cases h6 : (65536 : Int) < (s.size : Int)
  · have hr : wrapR s = (⟨#[]⟩, 4) := by unfold wrapR; rw [if_neg h0, if_pos (by omega)]
    have HW := Lib.hid (fun W => wrap7 s W)
    rw [hr] at HW
    have h2 : (2000 : Int) < (s.size : Int) := by omega
    have h7 : ¬ (s.size : Int) ≤ 65536 := by omega
    have hb0 : ((s.size : Int) == 0) = false := by simpa using h0
    clear h0 hr
    go_enter Try.func3, Try.ntmps3
    go_wp2_with (first
      | (go_at_call 6; refine HA.out.mono ?_; rintro e w1 ⟨rfl, hb⟩; have HB := Lib.hid hb; clear hb)
      | (go_at_call 7; refine (HW.out _).mono ?_; rintro e w2 ⟨rfl, hb2⟩; have HB2 := Lib.hid (HB.out.trans (hb2.mono HB.out.size)); clear hb2))
    go_ret
    exact ⟨rfl, HB2.out⟩
  by_cases h2 : (2000 : Int) < (s.size : Int)
  · have h7 : (s.size : Int) ≤ 65536 := by omega
    go_enter Try.func3, Try.ntmps3
    go_wp2_with (go_at_call 6; refine HA.out.mono ?_; rintro e w1 ⟨rfl, hb⟩; have HB := Lib.hid hb; clear hb)
    go_ret
    exact ⟨rfl, HB.out⟩
  have hr : wrapR s = (wrapS s, 0) := by unfold wrapR; rw [if_neg h0, if_neg (by omega)]
  have HW := Lib.hid (fun W => wrap7 s W)
  rw [hr] at HW
  have HR := Lib.hid (fun W => rwrap9 s W (by omega))
  have hz := wrapS_size s
  have he := encB_size s.size
  have hxm : (wrapS s ++ more).size ≤ 1000000 := by rw [ByteArray.size_append]; omega
  have HN := Lib.hid (fun W => next8 (wrapS s ++ more) W hxm)
  rw [nextS_wrap s more (by omega) (by omega)] at HN
  have hxz : (wrapS s).size ≤ 3000 := by omega
  have hmz : more.size ≤ 500 := by omega
  have hb0 : ((s.size : Int) == 0) = false := by simpa using h0
  clear hr hz he hxm h0
  generalize wrapS s = x at *
  have HN2 : Hid (∀ W, Calls Try.prog 8 #[.string (x ++ more)] W fun e w' => e = .returned (.tuple #[.string s, .int .i64 (x.size : Int), .int .i64 0]) ∧ Below W.heap.size W w') := HN.out
  clear HN
  go_enter Try.func3, Try.ntmps3
  go_wp2_with (first
    | (go_at_call 6; refine HA.out.mono ?_; rintro e w1 ⟨rfl, hb⟩; have HB := Lib.hid hb; clear hb)
    | (go_at_call 7; refine (HW.out _).mono ?_; rintro e w2 ⟨rfl, hb2⟩; have HB2 := Lib.hid (HB.out.trans (hb2.mono HB.out.size)); clear hb2)
    | (go_at_call 8; refine (HN2.out _).mono ?_; rintro e w3 ⟨rfl, hb3⟩; have HB3 := Lib.hid (HB2.out.trans (hb3.mono HB2.out.size)); clear hb3)
    | (go_at_call 9; refine (HR.out _).mono ?_; rintro e w4 ⟨rfl, hb4⟩; have HB4 := Lib.hid (HB3.out.trans (hb4.mono HB3.out.size)); clear hb4))
  go_ret
  exact ⟨rfl, HB4.out⟩
end Go.Proofs.Ytbaajabiimckoaa
