/- Sums of products in another order: plain mathematics. -/
import Derived.Test.YtipodikjdgnocaaMoneyTwos
import Derived.Test.YtipodikjdgnocaaMoneySum
namespace Go.Proofs.Ytipodikjdgnocaa
open Go.RowKit Base

/-- A sum of so many. -/
def sumN (f : Nat → Int) : Nat → Int
  | 0 => 0
  | n + 1 => sumN f n + f n
theorem sumN_shift (f : Nat → Int) (n : Nat) : sumN (fun j => f (j + 1)) n + f 0 = sumN f n + f n := by
  induction n with
  | zero => simp [sumN]
  | succ n ih => simp only [sumN]; omega
theorem sumN_congr {f g : Nat → Int} {n : Nat} (h : ∀ j, j < n → f j = g j) : sumN f n = sumN g n := by
  induction n with
  | zero => rfl
  | succ n ih => simp only [sumN]; rw [ih (fun j hj => h j (by omega)), h n (by omega)]
/-- However far the row is turned. -/
theorem sumN_turn (f : Nat → Int) (n m : Nat) (_ : 0 < n) : sumN (fun j => f ((j + m) % n)) n = sumN f n := by
  induction m with
  | zero => exact sumN_congr fun j hj => by rw [Nat.add_zero, Nat.mod_eq_of_lt hj]
  | succ m ih =>
    have h := sumN_shift (fun j => f ((j + m) % n)) n
    have e : f ((0 + m) % n) = f ((n + m) % n) := by rw [Nat.zero_add, Nat.add_mod_left]
    rw [e] at h
    have h2 : sumN (fun j => f ((j + 1 + m) % n)) n = sumN (fun j => f ((j + m) % n)) n := by omega
    rw [← ih, ← h2]
    exact sumN_congr fun j _ => by rw [Nat.add_right_comm, Nat.add_assoc]
theorem sumN_bound {f : Nat → Int} {M : Nat} : ∀ {n : Nat}, (∀ j, j < n → (f j).natAbs ≤ M) → (sumN f n).natAbs ≤ n * M := by
  intro n
  induction n with
  | zero => intro _; simp [sumN]
  | succ n ih =>
    intro h
    have h1 := ih (fun j hj => h j (by omega))
    have h2 := h n (by omega)
    simp only [sumN]
    rw [Nat.add_mul, Nat.one_mul]
    omega
/-- A pair's product. -/
def prd (l : List (Int × Int)) (j : Nat) : Int := (l.getD j (0, 0)).1 * (l.getD j (0, 0)).2
theorem prd_bound {l : List (Int × Int)} (h : ∀ p ∈ l, In64 p.1 ∧ In64 p.2) (j : Nat) : (prd l j).natAbs ≤ 85070591730234615865843651857942052864 := by
  unfold prd
  rcases Nat.lt_or_ge j l.length with hj | hj
  · have hm := h (l.getD j (0, 0)) (by rw [List.getD_eq_getElem?_getD, List.getElem?_eq_getElem hj]; exact List.getElem_mem _)
    have := prod_bound hm.1 hm.2
    omega
  · rw [List.getD_eq_getElem?_getD, List.getElem?_eq_none hj]; decide
theorem sum_range {l : List (Int × Int)} (h : ∀ p ∈ l, In64 p.1 ∧ In64 p.2) {f : Nat → Nat} {n : Nat} (hn : n ≤ 60) : (sumN (fun j => prd l (f j)) n).natAbs ≤ 5104235503814076951950619111476523171840 := by
  have k := sumN_bound (f := fun j => prd l (f j)) (M := 85070591730234615865843651857942052864) (n := n) (fun j _ => prd_bound h _)
  have k2 := Nat.mul_le_mul_right 85070591730234615865843651857942052864 hn
  omega
theorem share_in {z r : Int} (hz : z.natAbs ≤ 5104235503814076951950619111476523171840) (hr : r.natAbs ≤ 1000) : In192 (z * r + 99) := by
  have k := Nat.mul_le_mul hz hr
  rw [← Int.natAbs_mul] at k
  unfold In192
  omega
theorem NumAt.grown {W W' : World} {g h T : Nat} {z : Int} (k : NumAt W h T z) (hg : W.grownBy W' (some g)) (hne : h ≠ g) : NumAt W' h T z := by
  obtain ⟨a, b, c, h1, h2⟩ := k
  exact ⟨a, b, c, h1, (hg.block h (lt_of_block h2) (by simpa using hne)).trans h2⟩
/-- The two cells of a pair. -/
theorem TwosAt.cells {W : World} {a : Option Addr} {l : List (Int × Int)} (h : TwosAt W a l) (hl : 1 ≤ l.length) : ∃ b off, a = some ⟨b, off, none⟩ ∧ b < W.heap.size ∧ ∀ i, i < l.length → W.cell? ⟨b, off + i * 2, none⟩ = some (.int .i64 (l.getD i (0, 0)).1) ∧ W.cell? ⟨b, off + i * 2 + 1, none⟩ = some (.int .i64 (l.getD i (0, 0)).2) := by
  rcases h with rfl | ⟨b, off, rfl, h1, h2⟩
  · simp at hl
  · exact ⟨b, off, rfl, h1, fun i hi => h2 i _ (by rw [List.getD_eq_getElem?_getD, List.getElem?_eq_getElem hi]; rfl)⟩
end Go.Proofs.Ytipodikjdgnocaa
