/- Contracts of the other calls of the document's reader but Row. -/
import Derived.Test.YtipaicfmodgcoaaDoorRefs
namespace Go.Proofs.YtipaicfmodgcoaaDoor
open Go.RowKit

theorem numTo_all (s : List UInt8) : numTo s (fun n => decide ((n : Int) ≤ 18446744073709551615)) = M.num s :=
  numTo_ok (.inr (by have := M.num_lt s; simp; omega))

theorem left32 (q : Nat) (S : ByteArray) (P : Nat) (e : Int) (w : World) (hs : S.size ≤ 1000000) (hP : P ≤ S.size) (hY : RdY w q S P e) :
    Calls Tryd.prog 35 #[.pointer (some ⟨q, 0, none⟩)] w fun x w' => x = .returned (.int .i64 ((S.extract P S.size).size : Int)) ∧ ∃ n, w' = w.drewN n := by
  have c0 := hY.c0; have c1 := hY.c1
  have hrz : ((S.extract P S.size).size : Int) = (S.size : Int) - (P : Int) := by
    simp [ByteArray.size_extract]; omega
  rw [hrz]
  have hw1 : IntKind.i64.wrap ((S.size : Int) - (P : Int)) = (S.size : Int) - (P : Int) := IntWalk.i64_in _ (by omega)
  clear hY hrz
  go_enter Tryd.func35, Tryd.ntmps35
  go_wp2
  go_quiet (fail)
  go_wp2
  go_ret
  exact ⟨rfl, _, rfl⟩

theorem ext0 (S : ByteArray) (P n : Nat) (hP : P ≤ S.size) (h : n ≤ S.size - P) : (S.extract P S.size).extract 0 n = S.extract P (P + n) := by
  apply ByteArray.ext
  simp only [ByteArray.data_extract, Array.extract_extract]
  congr 1 <;> omega
end Go.Proofs.YtipaicfmodgcoaaDoor
