/- Things held alike. -/
import Derived.Test.YtmndkbfjmamnfaaBkRef2
namespace Go.Proofs.Ytmndkbfjmamnfaa
open Go.RowKit Base Base2

theorem eql_hold (a b c d a' b' c' d' : Int) (W : World) : (binOp .eql 45 (.agg #[.int .i64 a, .int .i64 b, .int .i64 c, .int .i64 d]) (.agg #[.int .i64 a', .int .i64 b', .int .i64 c', .int .i64 d'])).run Try.prog W = .ok (.bool (a == a' && b == b' && c == c' && d == d')) W := by
  cases ha : (a == a')
  · go_simp
  · skip
    cases hb : (b == b')
    · go_simp
    · skip
      cases hc : (c == c')
      · go_simp
      · skip
        cases hd : (d == d')
        · go_simp
        · go_simp
theorem neq_hold (a b c d a' b' c' d' : Int) (W : World) : (binOp .neq 45 (.agg #[.int .i64 a, .int .i64 b, .int .i64 c, .int .i64 d]) (.agg #[.int .i64 a', .int .i64 b', .int .i64 c', .int .i64 d'])).run Try.prog W = .ok (.bool (!(a == a' && b == b' && c == c' && d == d'))) W := by
  cases ha : (a == a')
  · go_simp
  · skip
    cases hb : (b == b')
    · go_simp
    · skip
      cases hc : (c == c')
      · go_simp
      · skip
        cases hd : (d == d')
        · go_simp
        · go_simp
theorem eql_stake (a b c a' b' c' : Int) (W : World) : (binOp .eql 43 (.agg #[.int .i64 a, .int .i64 b, .int .i64 c]) (.agg #[.int .i64 a', .int .i64 b', .int .i64 c'])).run Try.prog W = .ok (.bool (a == a' && b == b' && c == c')) W := by
  cases ha : (a == a')
  · go_simp
  · skip
    cases hb : (b == b')
    · go_simp
    · skip
      cases hc : (c == c')
      · go_simp
      · go_simp
theorem neq_stake (a b c a' b' c' : Int) (W : World) : (binOp .neq 43 (.agg #[.int .i64 a, .int .i64 b, .int .i64 c]) (.agg #[.int .i64 a', .int .i64 b', .int .i64 c'])).run Try.prog W = .ok (.bool (!(a == a' && b == b' && c == c'))) W := by
  cases ha : (a == a')
  · go_simp
  · skip
    cases hb : (b == b')
    · go_simp
    · skip
      cases hc : (c == c')
      · go_simp
      · go_simp
theorem eql_open (a b c d e f a' b' c' d' e' f' : Int) (W : World) : (binOp .eql 37 (.agg #[.int .i64 a, .int .i64 b, .int .i64 c, .int .i64 d, .int .i64 e, .int .i64 f]) (.agg #[.int .i64 a', .int .i64 b', .int .i64 c', .int .i64 d', .int .i64 e', .int .i64 f'])).run Try.prog W = .ok (.bool (a == a' && b == b' && c == c' && d == d' && e == e' && f == f')) W := by
  cases ha : (a == a')
  · go_simp
  · skip
    cases hb : (b == b')
    · go_simp
    · skip
      cases hc : (c == c')
      · go_simp
      · skip
        cases hd : (d == d')
        · go_simp
        · skip
          cases he : (e == e')
          · go_simp
          · skip
            cases hf : (f == f')
            · go_simp
            · go_simp
theorem neq_open (a b c d e f a' b' c' d' e' f' : Int) (W : World) : (binOp .neq 37 (.agg #[.int .i64 a, .int .i64 b, .int .i64 c, .int .i64 d, .int .i64 e, .int .i64 f]) (.agg #[.int .i64 a', .int .i64 b', .int .i64 c', .int .i64 d', .int .i64 e', .int .i64 f'])).run Try.prog W = .ok (.bool (!(a == a' && b == b' && c == c' && d == d' && e == e' && f == f'))) W := by
  cases ha : (a == a')
  · go_simp
  · skip
    cases hb : (b == b')
    · go_simp
    · skip
      cases hc : (c == c')
      · go_simp
      · skip
        cases hd : (d == d')
        · go_simp
        · skip
          cases he : (e == e')
          · go_simp
          · skip
            cases hf : (f == f')
            · go_simp
            · go_simp
theorem eql_rate (a b a' b' : Int) (W : World) : (binOp .eql 67 (.agg #[.int .i64 a, .int .i64 b]) (.agg #[.int .i64 a', .int .i64 b'])).run Try.prog W = .ok (.bool (a == a' && b == b')) W := by
  cases ha : (a == a')
  · go_simp
  · skip
    cases hb : (b == b')
    · go_simp
    · go_simp
theorem neq_rate (a b a' b' : Int) (W : World) : (binOp .neq 67 (.agg #[.int .i64 a, .int .i64 b]) (.agg #[.int .i64 a', .int .i64 b'])).run Try.prog W = .ok (.bool (!(a == a' && b == b'))) W := by
  cases ha : (a == a')
  · go_simp
  · skip
    cases hb : (b == b')
    · go_simp
    · go_simp
end Go.Proofs.Ytmndkbfjmamnfaa
