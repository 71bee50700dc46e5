/- The contract of the document's Same over files that are the same. -/
import Derived.Test.YtcedkilgfoiifaaDkSet
import Derived.Laws.StructEq
namespace Go.Proofs.Ytcedkilgfoiifaa
open Go.RowKit Base Base2

theorem neFile (n b : ByteArray) (W : World) : (binOp .neq 58 (.agg #[.string n, .string b]) (.agg #[.string n, .string b])).run Try.prog W = .ok (.bool false) W := by
  go_simp

set_option maxRecDepth 100000 in
set_option maxHeartbeats 4000000 in
theorem rsame25 (a a2 : Option Addr) (l : List FileT) (cap cap2 : Nat) (w : World) (hr : FilesAt w a l) (hr2 : FilesAt w a2 l) (hl : l.length ≤ maxLen) :
    Calls Try.prog 25 #[.slice a l.length cap, .slice a2 l.length cap2] w fun e w' => e = .returned (.bool true) ∧ ∃ m, w' = w.drewN m := by
  unfold maxLen at hl
  have HFL := Lib.hid hr
  have HFL2 := Lib.hid hr2
  clear hr hr2
  go_enter Try.func25, Try.ntmps25
  go_wp2
  go_loopw [5] (fun vi W => (∃ i : Nat, i ≤ l.length ∧ vi = .int .i64 (i : Int)) ∧ ∃ m, W = w.drewN m) (fun vi _ => l.length - (intOf vi).toNat)
  case atStart => exact ⟨⟨0, by omega, rfl⟩, 0, rfl⟩
  case round =>
    obtain ⟨⟨i, hi, rfl⟩, m, hW⟩ := hrel
    have HW := Lib.hid hW
    by_cases hlt : i < l.length
    · obtain ⟨b, off, rfl, hbw, hcells⟩ := HFL.out.some (by omega)
      obtain ⟨b2, off2, rfl, hbw2, hcells2⟩ := HFL2.out.some (by omega)
      have hBel : Below w.heap.size w wr := by rw [hW]; exact below_drews m
      obtain ⟨f, hf⟩ : ∃ f, l[i]? = Option.some f := ⟨l[i], by simp [hlt]⟩
      have c0 := (hBel.cell (p := ⟨b, off + i * 2, none⟩) hbw).trans (hcells i f hf).1
      have c1 := (hBel.cell (p := ⟨b, off + i * 2 + 1, none⟩) hbw).trans (hcells i f hf).2
      have d0 := (hBel.cell (p := ⟨b2, off2 + i * 2, none⟩) hbw2).trans (hcells2 i f hf).1
      have d1 := (hBel.cell (p := ⟨b2, off2 + i * 2 + 1, none⟩) hbw2).trans (hcells2 i f hf).2
      obtain ⟨fn, fb⟩ := f
      dsimp only at c0 c1 d0 d1
      have hne := neFile fn fb
      clear hcells hcells2 hW hBel hf
      go_upto_region 6 with (fail)
      go_quiet (fail)
      go_wp2
      go_roundw
      case rel => exact ⟨⟨i + 1, by omega, by go_num⟩, m + nq, by rw [HW.out, World.drewN_drewN]⟩
      case measure => simp [intOf]; omega
    · have hie : i = l.length := by omega
      subst hie
      clear hW
      go_wp2
      go_ret
      exact ⟨rfl, m, HW.out⟩
end Go.Proofs.Ytcedkilgfoiifaa
