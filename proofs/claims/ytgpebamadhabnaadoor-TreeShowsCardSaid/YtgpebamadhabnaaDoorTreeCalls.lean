/- The contracts of Root, Proof. -/
import Derived.Test.YtgpebamadhabnaaDoorTreeRoot
namespace Go.Proofs.YtgpebamadhabnaaDoor
open Go.RowKit

theorem root8_no (a : Option Addr) (len cap : Nat) (n e : Int) (w : World) (he : refS len n = e) (hne : e ≠ 0) :
    Calls Tryd.prog 8 #[.slice a len cap, .int .i64 n] w fun x w' => x = .returned (.tuple #[.string ⟨#[]⟩, .int .i64 e]) ∧ w = w' := by
  have HR := Lib.hid (refusal18 a len cap n w)
  rw [he] at HR
  have hb : (e != 0) = true := by simpa using hne
  clear he
  go_enter Tryd.func8, Tryd.ntmps8
  go_wp2_with (go_at_call 18; refine HR.out.mono ?_; rintro e w' ⟨rfl, rfl⟩)
  go_ret2
  exact ⟨rfl, rfl⟩
theorem root8 (a : Option Addr) (l : List ByteArray) (m cap n : Nat) (w : World) (hl : l.length = m) (hm : m ≤ 4096) (h0 : 1 ≤ n) (h1 : n ≤ 32) (hz : ∀ t ∈ l, t.size ≤ 700000) (hr : StrsAt w a l) (hcap : m ≤ cap) (hK : KHeld w) :
    Calls Tryd.prog 8 #[.slice a m cap, .int .i64 (n : Int)] w fun x w' => x = .returned (.tuple #[.string (rootS (cutH n) l), .int .i64 0]) ∧ Below w.heap.size w w' := by
  have HR := Lib.hid (refusal18 a m cap n w)
  rw [refS_ok (by omega) (by omega)] at HR
  have HT := Lib.hid (root19 n h0 h1 m l a cap w hl hm hz hr hcap hK)
  generalize rootS (cutH n) l = R at *
  clear hr hK hz hl
  go_enter Tryd.func8, Tryd.ntmps8
  go_wp2_with (first
    | (go_at_call 18; refine HR.out.mono ?_; rintro e w' ⟨rfl, rfl⟩)
    | (go_at_call 19; refine HT.out.mono ?_; rintro e w1 ⟨rfl, hb1⟩; have HB1 := Lib.hid hb1; clear hb1))
  go_ret2
  exact ⟨rfl, HB1.out⟩
theorem proof9_no (a : Option Addr) (len cap : Nat) (k n e : Int) (w : World) (he : refS len n = e) (hne : e ≠ 0) :
    Calls Tryd.prog 9 #[.slice a len cap, .int .i64 k, .int .i64 n] w fun x w' => x = .returned (.tuple #[.slice none 0 0, .int .i64 e]) ∧ w = w' := by
  have HR := Lib.hid (refusal18 a len cap n w)
  rw [he] at HR
  have hb : (e != 0) = true := by simpa using hne
  clear he
  go_enter Tryd.func9, Tryd.ntmps9
  go_wp2_with (go_at_call 18; refine HR.out.mono ?_; rintro e w' ⟨rfl, rfl⟩)
  go_ret2
  exact ⟨rfl, rfl⟩
theorem proof9_range (a : Option Addr) (len cap : Nat) (k n : Int) (w : World) (he : refS len n = 0) (hk : k < 0 ∨ (len : Int) ≤ k) :
    Calls Tryd.prog 9 #[.slice a len cap, .int .i64 k, .int .i64 n] w fun x w' => x = .returned (.tuple #[.slice none 0 0, .int .i64 11]) ∧ w = w' := by
  have HR := Lib.hid (refusal18 a len cap n w)
  rw [he] at HR
  clear he
  by_cases h : k < 0
  · go_enter Tryd.func9, Tryd.ntmps9
    go_wp2_with (go_at_call 18; refine HR.out.mono ?_; rintro e w' ⟨rfl, rfl⟩)
    go_ret2
    exact ⟨rfl, rfl⟩
  · have h2 : (len : Int) ≤ k := by omega
    clear hk
    go_enter Tryd.func9, Tryd.ntmps9
    go_wp2_with (go_at_call 18; refine HR.out.mono ?_; rintro e w' ⟨rfl, rfl⟩)
    go_ret2
    exact ⟨rfl, rfl⟩
theorem proof9 (a : Option Addr) (l : List ByteArray) (m cap k n : Nat) (w : World) (hl : l.length = m) (hm : m ≤ 4096) (hk : k < m) (h0 : 1 ≤ n) (h1 : n ≤ 32) (hz : ∀ t ∈ l, t.size ≤ 700000) (hr : StrsAt w a l) (hcap : m ≤ cap) (hK : KHeld w) :
    Calls Tryd.prog 9 #[.slice a m cap, .int .i64 (k : Int), .int .i64 (n : Int)] w fun x w' => ∃ v, x = .returned (.tuple #[v, .int .i64 0]) ∧ w'.ownsRow w.heap.size 9 1 v (proofS (cutH n) l k).length ((proofS (cutH n) l k).map Value.string) ∧ Below w.heap.size w w' := by
  have HR := Lib.hid (refusal18 a m cap n w)
  rw [refS_ok (by omega) (by omega)] at HR
  have HT := Lib.hid (proof20 n h0 h1 m l a cap k w hl hm hk hz hr hcap hK)
  generalize proofS (cutH n) l k = R at *
  have hk2 : ¬ (k : Int) < 0 := by omega
  have hk3 : ¬ (m : Int) ≤ (k : Int) := by omega
  clear hr hK hz hl
  go_enter Tryd.func9, Tryd.ntmps9
  go_wp2_with (first
    | (go_at_call 18; refine HR.out.mono ?_; rintro e w' ⟨rfl, rfl⟩)
    | (go_at_call 20; refine HT.out.mono ?_; rintro e w1 ⟨v, rfl, ho, hb1⟩; have HO := Lib.hid ho; have HB1 := Lib.hid hb1; clear hb1 ho))
  go_ret2
  exact ⟨_, rfl, HO.out, HB1.out⟩
end Go.Proofs.YtgpebamadhabnaaDoor
