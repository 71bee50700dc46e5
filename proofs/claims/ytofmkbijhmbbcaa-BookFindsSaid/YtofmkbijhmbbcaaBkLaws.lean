/- The laws of books with the program's contracts in them. -/
import Derived.Test.YtofmkbijhmbbcaaBkIn
import Derived.Test.YtofmkbijhmbbcaaBkMay
import Derived.Test.YtofmkbijhmbbcaaBkApart
import Derived.Test.YtofmkbijhmbbcaaBkProg
namespace Go.Proofs.Ytofmkbijhmbbcaa
open Go.RowKit

theorem laidOut : laidOutB Try.prog = true := by kernel_rfl
theorem bk3C (v u : Slots) (a b : BookT) (w : World) (hK : True) (ha : BookIn w v a) (hb : BookIn w u b) (hwa : BookWf a) (hwb : BookWf b) : Calls Try.prog 3 #[.agg (cellsB v a), .agg (cellsB u b)] w fun e w' => e = .returned (.bool true) ∧ Below w.heap.size w w' := bk3 bookC v u a b w hK ha hb hwa hwb
theorem bk4C (v : Slots) (b : BookT) (acc sym id : Int) (w : World) (hK : True) (hb : BookIn w v b) (hw : BookWf b) (i1 : in6 acc) (i2 : in6 sym) (i3 : in6 id) : Calls Try.prog 4 #[.agg (cellsB v b), .int .i64 acc, .int .i64 sym, .int .i64 id] w fun e w' => e = .returned (.bool true) ∧ Below w.heap.size w w' := bk4 bookC v b acc sym id w hK hb hw i1 i2 i3
theorem bk5C (v : Slots) (b : BookT) (p q r s p1 q1 r1 p2 q2 r2 s2 t2 z2 p3 q3 : Int) (w : World) (hK : True) (hb : BookIn w v b) (hcp : CapOk v b) (hw : BookWf b) (ip : in6 p) (iq : in6 q) (ir : in6 r) (is : in6 s) (ip1 : in6 p1) (iq1 : in6 q1) (ir1 : in6 r1) (ip2 : in6 p2) (iq2 : in6 q2) (ir2 : in6 r2) (is2 : in6 s2) (it2 : in6 t2) (iz2 : in6 z2) (ip3 : in6 p3) (iq3 : in6 q3) : Calls Try.prog 5 #[.agg (cellsB v b), .agg #[.int .i64 p, .int .i64 q, .int .i64 r, .int .i64 s], .agg #[.int .i64 p1, .int .i64 q1, .int .i64 r1], .agg #[.int .i64 p2, .int .i64 q2, .int .i64 r2, .int .i64 s2, .int .i64 t2, .int .i64 z2], .agg #[.int .i64 p3, .int .i64 q3]] w fun e w' => e = .returned (.bool true) ∧ Below w.heap.size w w' := bk5 bookC v b p q r s p1 q1 r1 p2 q2 r2 s2 t2 z2 p3 q3 w hK hb hcp hw ip iq ir is ip1 iq1 ir1 ip2 iq2 ir2 is2 it2 iz2 ip3 iq3
theorem bk6C (v : Slots) (b : BookT) (p q r s p3 q3 : Int) (w : World) (hK : True) (hb : BookIn w v b) (hcp : CapOk v b) (hw : BookWf b) (ip : in6 p) (iq : in6 q) (ir : in6 r) (is : in6 s) (ip3 : in6 p3) (iq3 : in6 q3) : Calls Try.prog 6 #[.agg (cellsB v b), .agg #[.int .i64 p, .int .i64 q, .int .i64 r, .int .i64 s], .agg #[.int .i64 p3, .int .i64 q3]] w fun e w' => e = .returned (.bool true) ∧ Below w.heap.size w w' := bk6 bookC v b p q r s p3 q3 w hK hb hcp hw ip iq ir is ip3 iq3
end Go.Proofs.Ytofmkbijhmbbcaa
