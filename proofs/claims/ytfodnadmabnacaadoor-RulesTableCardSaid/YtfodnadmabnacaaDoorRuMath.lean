/- Rules: the table, whether a step holds, whether steps may be, their verdict, a step's text: plain. -/
import Derived.Test.YtfodnadmabnacaaDoorSfMath
namespace Go.Proofs.YtfodnadmabnacaaDoor
open Go.RowKit Base Base2

/-- The table: a rule's name, relation, code. -/
def tabT : List (ByteArray × Int × Int) := [(⟨#[]⟩, 0, 0), (⟨#[107, 105, 110, 100, 32, 97, 116, 32, 108, 101, 97, 115, 116]⟩, 2, 1), (⟨#[107, 105, 110, 100, 32, 97, 116, 32, 109, 111, 115, 116]⟩, 1, 1), (⟨#[115, 105, 100, 101, 32, 97, 116, 32, 108, 101, 97, 115, 116]⟩, 2, 2), (⟨#[115, 105, 100, 101, 32, 97, 116, 32, 109, 111, 115, 116]⟩, 1, 2), (⟨#[113, 117, 97, 110, 116, 105, 116, 121]⟩, 2, 2), (⟨#[112, 114, 105, 99, 101]⟩, 2, 2), (⟨#[99, 97, 115, 104]⟩, 2, 2), (⟨#[108, 105, 109, 105, 116, 32, 111, 102, 32, 112, 111, 115, 105, 116, 105, 111, 110]⟩, 2, 2), (⟨#[108, 105, 109, 105, 116, 32, 111, 102, 32, 111, 114, 100, 101, 114]⟩, 2, 2), (⟨#[97, 99, 99, 111, 117, 110, 116, 32, 107, 110, 111, 119, 110]⟩, 3, 3), (⟨#[97, 99, 99, 111, 117, 110, 116, 32, 110, 101, 119]⟩, 3, 4), (⟨#[111, 114, 100, 101, 114, 32, 110, 101, 119]⟩, 3, 5), (⟨#[111, 114, 100, 101, 114, 32, 107, 110, 111, 119, 110]⟩, 3, 6), (⟨#[115, 121, 109, 98, 111, 108, 32, 112, 114, 105, 99, 101, 100]⟩, 3, 7), (⟨#[114, 111, 111, 109, 32, 111, 102, 32, 97, 99, 99, 111, 117, 110, 116, 115]⟩, 1, 8), (⟨#[114, 111, 111, 109, 32, 111, 102, 32, 111, 114, 100, 101, 114, 115]⟩, 1, 8), (⟨#[114, 111, 111, 109, 32, 111, 102, 32, 112, 114, 105, 99, 101, 115]⟩, 1, 8), (⟨#[119, 111, 114, 116, 104]⟩, 1, 9), (⟨#[114, 101, 97, 99, 104]⟩, 1, 10), (⟨#[109, 97, 114, 103, 105, 110]⟩, 1, 11), (⟨#[102, 105, 108, 108, 101, 100]⟩, 1, 2), (⟨#[99, 97, 115, 104, 32, 98, 101, 104, 105, 110, 100]⟩, 3, 12), (⟨#[112, 111, 115, 105, 116, 105, 111, 110, 32, 98, 101, 104, 105, 110, 100]⟩, 3, 12)]
def rowT (n : Int) : ByteArray × Int × Int := if 1 ≤ n ∧ n ≤ 23 then tabT.getD n.toNat (⟨#[]⟩, 0, 0) else (⟨#[]⟩, 0, 0)
def tabC : List Value := [.string ⟨#[]⟩, .int .i64 0, .int .i64 0, .string ⟨#[107, 105, 110, 100, 32, 97, 116, 32, 108, 101, 97, 115, 116]⟩, .int .i64 2, .int .i64 1, .string ⟨#[107, 105, 110, 100, 32, 97, 116, 32, 109, 111, 115, 116]⟩, .int .i64 1, .int .i64 1, .string ⟨#[115, 105, 100, 101, 32, 97, 116, 32, 108, 101, 97, 115, 116]⟩, .int .i64 2, .int .i64 2, .string ⟨#[115, 105, 100, 101, 32, 97, 116, 32, 109, 111, 115, 116]⟩, .int .i64 1, .int .i64 2, .string ⟨#[113, 117, 97, 110, 116, 105, 116, 121]⟩, .int .i64 2, .int .i64 2, .string ⟨#[112, 114, 105, 99, 101]⟩, .int .i64 2, .int .i64 2, .string ⟨#[99, 97, 115, 104]⟩, .int .i64 2, .int .i64 2, .string ⟨#[108, 105, 109, 105, 116, 32, 111, 102, 32, 112, 111, 115, 105, 116, 105, 111, 110]⟩, .int .i64 2, .int .i64 2, .string ⟨#[108, 105, 109, 105, 116, 32, 111, 102, 32, 111, 114, 100, 101, 114]⟩, .int .i64 2, .int .i64 2, .string ⟨#[97, 99, 99, 111, 117, 110, 116, 32, 107, 110, 111, 119, 110]⟩, .int .i64 3, .int .i64 3, .string ⟨#[97, 99, 99, 111, 117, 110, 116, 32, 110, 101, 119]⟩, .int .i64 3, .int .i64 4, .string ⟨#[111, 114, 100, 101, 114, 32, 110, 101, 119]⟩, .int .i64 3, .int .i64 5, .string ⟨#[111, 114, 100, 101, 114, 32, 107, 110, 111, 119, 110]⟩, .int .i64 3, .int .i64 6, .string ⟨#[115, 121, 109, 98, 111, 108, 32, 112, 114, 105, 99, 101, 100]⟩, .int .i64 3, .int .i64 7, .string ⟨#[114, 111, 111, 109, 32, 111, 102, 32, 97, 99, 99, 111, 117, 110, 116, 115]⟩, .int .i64 1, .int .i64 8, .string ⟨#[114, 111, 111, 109, 32, 111, 102, 32, 111, 114, 100, 101, 114, 115]⟩, .int .i64 1, .int .i64 8, .string ⟨#[114, 111, 111, 109, 32, 111, 102, 32, 112, 114, 105, 99, 101, 115]⟩, .int .i64 1, .int .i64 8, .string ⟨#[119, 111, 114, 116, 104]⟩, .int .i64 1, .int .i64 9, .string ⟨#[114, 101, 97, 99, 104]⟩, .int .i64 1, .int .i64 10, .string ⟨#[109, 97, 114, 103, 105, 110]⟩, .int .i64 1, .int .i64 11, .string ⟨#[102, 105, 108, 108, 101, 100]⟩, .int .i64 1, .int .i64 2, .string ⟨#[99, 97, 115, 104, 32, 98, 101, 104, 105, 110, 100]⟩, .int .i64 3, .int .i64 12, .string ⟨#[112, 111, 115, 105, 116, 105, 111, 110, 32, 98, 101, 104, 105, 110, 100]⟩, .int .i64 3, .int .i64 12]
theorem tab_at : ∀ k : Nat, k < 24 → tabC[k * 3]? = some (.string (tabT.getD k (⟨#[]⟩, 0, 0)).1) ∧ tabC[k * 3 + 1]? = some (.int .i64 (tabT.getD k (⟨#[]⟩, 0, 0)).2.1) ∧ tabC[k * 3 + 2]? = some (.int .i64 (tabT.getD k (⟨#[]⟩, 0, 0)).2.2)
  | 0, _ => ⟨rfl, rfl, rfl⟩
  | 1, _ => ⟨rfl, rfl, rfl⟩
  | 2, _ => ⟨rfl, rfl, rfl⟩
  | 3, _ => ⟨rfl, rfl, rfl⟩
  | 4, _ => ⟨rfl, rfl, rfl⟩
  | 5, _ => ⟨rfl, rfl, rfl⟩
  | 6, _ => ⟨rfl, rfl, rfl⟩
  | 7, _ => ⟨rfl, rfl, rfl⟩
  | 8, _ => ⟨rfl, rfl, rfl⟩
  | 9, _ => ⟨rfl, rfl, rfl⟩
  | 10, _ => ⟨rfl, rfl, rfl⟩
  | 11, _ => ⟨rfl, rfl, rfl⟩
  | 12, _ => ⟨rfl, rfl, rfl⟩
  | 13, _ => ⟨rfl, rfl, rfl⟩
  | 14, _ => ⟨rfl, rfl, rfl⟩
  | 15, _ => ⟨rfl, rfl, rfl⟩
  | 16, _ => ⟨rfl, rfl, rfl⟩
  | 17, _ => ⟨rfl, rfl, rfl⟩
  | 18, _ => ⟨rfl, rfl, rfl⟩
  | 19, _ => ⟨rfl, rfl, rfl⟩
  | 20, _ => ⟨rfl, rfl, rfl⟩
  | 21, _ => ⟨rfl, rfl, rfl⟩
  | 22, _ => ⟨rfl, rfl, rfl⟩
  | 23, _ => ⟨rfl, rfl, rfl⟩
  | k + 24, h => absurd h (by omega)
theorem row_yes {n : Int} (h : 1 ≤ n ∧ n ≤ 23) : rowT n = tabT.getD n.toNat (⟨#[]⟩, 0, 0) := if_pos h
theorem row_no {n : Int} (h : n < 1 ∨ 23 < n) : rowT n = (⟨#[]⟩, 0, 0) := if_neg (by omega)
/-- A step. -/
structure StepT where
  r : Int
  x : Int
  y : Int
  o : Bool
def StepT.cells (s : StepT) : List Value := [.int .i64 s.r, .int .i64 s.x, .int .i64 s.y, .bool s.o]
def relB (k x y : Int) : Bool := if k = 1 then decide (x ≤ y) else if k = 2 then decide (y ≤ x) else if k = 3 then x == y else false
def holdS (s : StepT) : Bool := !s.o && relB (rowT s.r).2.1 s.x s.y
/-- One step of steps that may be: not seen ahead; all but the last one hold. -/
def oneS (s : StepT) : Bool := decide (1 ≤ s.r) && decide (s.r ≤ 23) && !(s.o && (s.x != 0 || s.y != 0))
def newS (l : List StepT) (r : Int) : Bool := l.all (fun t => t.r != r)
def maySteps (l : List StepT) : Bool := (List.range l.length).all fun i => match l[i]? with | some s => oneS s && (decide (l.length ≤ i + 1) || holdS s) && newS (l.take i) s.r | none => true
/-- The verdict: a code, a need. -/
def weighS : List StepT → Int → Int × Int
  | [], n => (0, n)
  | s :: l, n => if s.o then (12, 0) else if holdS s then weighS l (if s.r = 20 then s.x else n) else ((rowT s.r).2.2, 0)
/-- A number's digits, with a sign below 0. -/
def decZ (n : Int) : ByteArray := if n < 0 then ⟨#[45]⟩ ++ decB n.natAbs else decB n.toNat
def signS (k : Int) : ByteArray := if k = 1 then ⟨#[60, 61]⟩ else if k = 2 then ⟨#[62, 61]⟩ else if k = 3 then ⟨#[61]⟩ else ⟨#[63]⟩
def nameS (n : Int) : ByteArray := if 1 ≤ n ∧ n ≤ 23 then (rowT n).1 else ⟨#[63]⟩
def textS (s : StepT) : ByteArray := if s.o then nameS s.r ++ ⟨#[32, 111, 118, 101, 114]⟩ else nameS s.r ++ ⟨#[32]⟩ ++ decZ s.x ++ ⟨#[32]⟩ ++ signS (rowT s.r).2.1 ++ ⟨#[32]⟩ ++ decZ s.y
end Go.Proofs.YtfodnadmabnacaaDoor
