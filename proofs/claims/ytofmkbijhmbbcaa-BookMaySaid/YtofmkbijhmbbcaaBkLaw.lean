/- What the laws of books ask of the program. -/
import Derived.Test.YtofmkbijhmbbcaaBkRef9
namespace Go.Proofs.Ytofmkbijhmbbcaa
open Go.RowKit Base Base2

/-- A row that may be written: it lies from a block on, and nothing of it is frozen. -/
def RowNew (base : Nat) (W : World) (a : Option Addr) (l : List Item) : Prop := l = [] ∨ ∃ b off, a = some ⟨b, off, none⟩ ∧ base ≤ b ∧ ∀ i, W.frozen? ⟨b, i, none⟩ = false
structure BookNew (base : Nat) (W : World) (v : Slots) (b : BookT) : Prop where
  hs : RowNew base W v.h b.hs
  ss : RowNew base W v.s b.ss
  os : RowNew base W v.o b.os
  rs : RowNew base W v.r b.rs
/-- Rows that have room for what they hold. -/
structure CapOk (v : Slots) (b : BookT) : Prop where
  hs : b.hs.length ≤ v.ch
  ss : b.ss.length ≤ v.cs
  os : b.os.length ≤ v.co
  rs : b.rs.length ≤ v.cr
/-- An answer that is a book of its own. -/
def BookOut (w : World) (b : BookT) (e : Ending) (w' : World) : Prop := (∃ v, e = .returned (.agg (cellsB v b)) ∧ BookIn w' v b ∧ BookNew w.heap.size w' v b ∧ CapOk v b) ∧ Below w.heap.size w w'
/-- What the laws ask of the program's calls; K: what they lean on in memory. -/
structure BookC (K : World → Prop) : Prop where
  keep : ∀ (W W' : World), K W → Below W.heap.size W W' → K W'
  may : ∀ (v : Slots) (b : BookT) (W : World), K W → BookIn W v b → BookOk 400 b → Calls Try.prog 9 #[.agg (cellsB v b)] W fun e w' => e = .returned (.bool (mayT b)) ∧ Below W.heap.size W w'
  same : ∀ (v u : Slots) (a b : BookT) (W : World), K W → BookIn W v a → BookIn W u b → BookOk 400 a → BookOk 400 b → Calls Try.prog 11 #[.agg (cellsB v a), .agg (cellsB u b)] W fun e w' => e = .returned (.bool (sameT a b)) ∧ Below W.heap.size W w'
  copy : ∀ (v : Slots) (b : BookT) (W : World), K W → BookIn W v b → BookOk 400 b → Calls Try.prog 13 #[.agg (cellsB v b)] W (BookOut W b)
  holder : ∀ (v : Slots) (b : BookT) (id : Int) (W : World), K W → BookIn W v b → BookOk 400 b → riseT b = true → in6 id → Calls Try.prog 15 #[.agg (cellsB v b), .int .i64 id] W fun e w' => e = .returned (.tuple #[valH (findL (is1 id) b.hs), .bool (findL (is1 id) b.hs).isSome]) ∧ Below W.heap.size W w'
  openO : ∀ (v : Slots) (b : BookT) (id : Int) (W : World), K W → BookIn W v b → BookOk 400 b → riseT b = true → in6 id → Calls Try.prog 16 #[.agg (cellsB v b), .int .i64 id] W fun e w' => e = .returned (.tuple #[valO (findL (is1 id) b.os), .bool (findL (is1 id) b.os).isSome]) ∧ Below W.heap.size W w'
  rate : ∀ (v : Slots) (b : BookT) (id : Int) (W : World), K W → BookIn W v b → BookOk 400 b → riseT b = true → in6 id → Calls Try.prog 17 #[.agg (cellsB v b), .int .i64 id] W fun e w' => e = .returned (.tuple #[.int .i64 (valR (findL (is1 id) b.rs)), .bool (findL (is1 id) b.rs).isSome]) ∧ Below W.heap.size W w'
  stake : ∀ (v : Slots) (b : BookT) (id sy : Int) (W : World), K W → BookIn W v b → BookOk 400 b → riseT b = true → in6 id → in6 sy → Calls Try.prog 21 #[.agg (cellsB v b), .int .i64 id, .int .i64 sy] W fun e w' => e = .returned (.int .i64 (valS (findL (is2 id sy) b.ss))) ∧ Below W.heap.size W w'
  setHolder : ∀ (v : Slots) (b : BookT) (p q r s : Int) (W : World), K W → BookIn W v b → CapOk v b → BookOk 400 b → riseT b = true → in6 p → in6 q → in6 r → in6 s → Calls Try.prog 23 #[.agg (cellsB v b), .agg #[.int .i64 p, .int .i64 q, .int .i64 r, .int .i64 s]] W (BookOut W (setHolderT b [p, q, r, s]))
  setStake : ∀ (v : Slots) (b : BookT) (p q r : Int) (W : World), K W → BookIn W v b → CapOk v b → BookOk 400 b → riseT b = true → in6 p → in6 q → in6 r → Calls Try.prog 24 #[.agg (cellsB v b), .agg #[.int .i64 p, .int .i64 q, .int .i64 r]] W (BookOut W (setStakeT b [p, q, r]))
  setOpen : ∀ (v : Slots) (b : BookT) (p q r s t z : Int) (W : World), K W → BookIn W v b → CapOk v b → BookOk 400 b → riseT b = true → in6 p → in6 q → in6 r → in6 s → in6 t → in6 z → Calls Try.prog 25 #[.agg (cellsB v b), .agg #[.int .i64 p, .int .i64 q, .int .i64 r, .int .i64 s, .int .i64 t, .int .i64 z]] W (BookOut W (setOpenT b [p, q, r, s, t, z]))
  setRate : ∀ (v : Slots) (b : BookT) (p q : Int) (W : World), K W → BookIn W v b → CapOk v b → BookOk 400 b → riseT b = true → in6 p → in6 q → Calls Try.prog 26 #[.agg (cellsB v b), .agg #[.int .i64 p, .int .i64 q]] W (BookOut W (setRateT b [p, q]))
theorem ItemsOk.mono {k m n : Nat} {l : List Item} (h : ItemsOk k m l) (hm : m ≤ n) : ItemsOk k n l := ⟨Nat.le_trans h.1 hm, h.2⟩
theorem BookOk.mono {m n : Nat} {b : BookT} (h : BookOk m b) (hm : m ≤ n) : BookOk n b := ⟨h.hs.mono hm, h.ss.mono hm, h.os.mono hm, h.rs.mono hm, h.co⟩
end Go.Proofs.Ytofmkbijhmbbcaa
