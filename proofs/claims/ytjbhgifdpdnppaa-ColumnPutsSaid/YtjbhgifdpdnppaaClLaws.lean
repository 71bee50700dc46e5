/- The laws of columns with the program's contracts in them. -/
import Derived.Test.YtjbhgifdpdnppaaClIn
import Derived.Test.YtjbhgifdpdnppaaClProg
namespace Go.Proofs.Ytjbhgifdpdnppaa
open Go.RowKit
theorem cl3 (a : Option Addr) (n c : Nat) (l : List Int) (more : ByteArray) (w : World) (hK : KCol w) (hn : l.length = n) (hr : NumsI w a l) (hl : n ≤ maxLen) (hm : more.size ≤ maxLen) : Calls Try.prog 3 #[.slice a n c, .string more] w fun e w' => e = .returned (.bool true) ∧ Below w.heap.size w w' := puts3C colC a n c l more w hK hn hr.1 hl hr.2 hm
theorem cl4 (s : ByteArray) (most : Int) (w : World) (hK : KCol w) (hs : s.size ≤ maxLen) (hm : -9223372036854775808 ≤ most ∧ most ≤ 9223372036854775807) : Calls Try.prog 4 #[.string s, .int .i64 most] w fun e w' => e = .returned (.bool true) ∧ Below w.heap.size w w' := gets4C colC s most w hK hs hm
theorem cl5 (a b n : Int) (w : World) (hK : KCol w) (ha : -9223372036854775808 ≤ a ∧ a ≤ 9223372036854775807) (hb : -9223372036854775808 ≤ b ∧ b ≤ 9223372036854775807) (hn : 0 ≤ n ∧ n ≤ 65535) : Calls Try.prog 5 #[.int .i64 a, .int .i64 b, .int .u16 n] w fun e w' => e = .returned (.bool true) ∧ Below w.heap.size w w' := by
  obtain ⟨k, rfl⟩ := Int.eq_ofNat_of_zero_le hn.1
  exact stairs5C colC a b k w hK ha hb (by omega)
end Go.Proofs.Ytjbhgifdpdnppaa
