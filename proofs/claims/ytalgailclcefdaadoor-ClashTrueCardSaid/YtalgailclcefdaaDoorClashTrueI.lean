/- The walk of ClashTrue for the number as the row lays it; a truth value in a row. -/
import Derived.Test.YtalgailclcefdaaDoorClashTrueW
namespace Go.Proofs.YtalgailclcefdaaDoor
open Go.ChangeShapes Go.WideShapes Go.ChangeAt Go.RowKit Go.Lib

theorem open_bool1 {H : Type} {enc : TypeId × Value → H} {P : Program} {w : World} {base : Nat} {spare : Nat → Bool} {held : Bool} {r : Reach} {b0 : Nat} {t : TypeId} {v : Value} {d : DataW H} {ps : List MemPlace}
    (ht : P.underlying t = some .bool) (hval : Value.okWide P w r b0 t v) (hd : DataW.Trod enc P w base spare held t v d ps) : ∃ b, v = .bool b ∧ d = .lit (.bool b) ∧ ps = [] := by
  obtain ⟨b, rfl⟩ := okWide_bool ht hval
  obtain ⟨fuel, hf⟩ := hd
  cases fuel with
  | zero => simp [DataW.trod] at hf
  | succ f =>
    simp [DataW.trod, Value.cells, ht] at hf
    exact ⟨b, rfl, hf.1.symm, hf.2⟩

theorem walk5i (a a2 : Option Addr) (m q ca cb : Nat) (la lb : List ByteArray) (n : Int) (c : Bool) (w : World) (hn : (Lit.int .u8 n).wf = true) (hla : la.length = m) (hlb : lb.length = q) (hra : StrsAt w a la) (hrb : StrsAt w a2 lb) (hm : m ≤ maxLen) (hq : q ≤ maxLen) (hca : m ≤ ca) (hcb : q ≤ cb) (hK : KHeld w) :
    Calls Tryd.prog 5 #[.slice a m ca, .slice a2 q cb, .int .u8 n, .bool c] w fun e w' => e = .returned (.bool true) ∧ Below w.heap.size w w' := by
  have h0 : 0 ≤ n ∧ n ≤ 255 := by simpa [Lit.wf, IntKind.min, IntKind.max, IntKind.signed, IntKind.bits] using hn
  have e : n = ((n.toNat : Nat) : Int) := by omega
  rw [e]
  exact walk5 a a2 m q ca cb la lb n.toNat c w (by omega) hla hlb hra hrb hm hq hca hcb hK
end Go.Proofs.YtalgailclcefdaaDoor
