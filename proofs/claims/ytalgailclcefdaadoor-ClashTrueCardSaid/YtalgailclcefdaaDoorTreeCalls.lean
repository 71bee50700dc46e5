/- The contracts of Root, Proof. -/
import Derived.Test.YtalgailclcefdaaDoorTreeRoot
namespace Go.Proofs.YtalgailclcefdaaDoor
open Go.RowKit

theorem root8_no (a : Option Addr) (len cap : Nat) (n e : Int) (w : World) (he : refS len n = e) (hne : e ≠ 0) :
    Calls Tryd.prog 35 #[.slice a len cap, .int .i64 n] w fun x w' => x = .returned (.tuple #[.string ⟨#[]⟩, .int .i64 e]) ∧ w = w' := by
  have HR := Lib.hid (refusal18 a len cap n w)
  rw [he] at HR
  have hb : (e != 0) = true := by simpa using hne
  clear he
  go_enter Tryd.func35, Tryd.ntmps35
  go_wp2_with (go_at_call 48; refine HR.out.mono ?_; rintro e w' ⟨rfl, rfl⟩)
  go_ret2
  exact ⟨rfl, rfl⟩
theorem root8 (a : Option Addr) (l : List ByteArray) (m cap n : Nat) (w : World) (hl : l.length = m) (hm : m ≤ 4096) (h0 : 1 ≤ n) (h1 : n ≤ 32) (hz : ∀ t ∈ l, t.size ≤ 700000) (hr : StrsAt w a l) (hcap : m ≤ cap) (hK : KHeld w) :
    Calls Tryd.prog 35 #[.slice a m cap, .int .i64 (n : Int)] w fun x w' => x = .returned (.tuple #[.string (rootS (cutH n) l), .int .i64 0]) ∧ Below w.heap.size w w' := by
  have HR := Lib.hid (refusal18 a m cap n w)
  rw [refS_ok (by omega) (by omega)] at HR
  have HT := Lib.hid (root19 n h0 h1 m l a cap w hl hm hz hr hcap hK)
  generalize rootS (cutH n) l = R at *
  clear hr hK hz hl
  go_enter Tryd.func35, Tryd.ntmps35
  go_wp2_with (first
    | (go_at_call 48; refine HR.out.mono ?_; rintro e w' ⟨rfl, rfl⟩)
    | (go_at_call 49; refine HT.out.mono ?_; rintro e w1 ⟨rfl, hb1⟩; have HB1 := Lib.hid hb1; clear hb1))
  go_ret2
  exact ⟨rfl, HB1.out⟩
end Go.Proofs.YtalgailclcefdaaDoor
