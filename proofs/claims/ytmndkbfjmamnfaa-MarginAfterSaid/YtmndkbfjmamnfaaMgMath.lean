/- What an account is worth, and what it needs: plain. -/
import Derived.Test.YtmndkbfjmamnfaaBkRef1
import Derived.Test.YtmndkbfjmamnfaaMoneySum
namespace Go.Proofs.Ytmndkbfjmamnfaa
open Go.RowKit Base

def rateOf (b : BookT) (s : Int) : Int := valR (findL (is1 s) b.rs)
def cashOf (b : BookT) (a : Int) : Int := match findL (is1 a) b.hs with | some x => key 1 x | none => 0
def stakeOf (b : BookT) (a s : Int) : Int := valS (findL (is2 a s) b.ss)
def ofAcc (j : Nat) (a : Int) (l : List Item) : List Item := l.filter (fun x => key j x == a)
def ofSD (s d : Int) (l : List Item) : List Item := l.filter (fun x => key 2 x == s && key 3 x == d)
def sumI (f : Item → Int) (l : List Item) : Int := (l.map f).sum
theorem sumI_snoc (f : Item → Int) (l : List Item) (x : Item) : sumI f (l ++ [x]) = sumI f l + f x := by simp [sumI]
theorem sumI_bound {f : Item → Int} {M : Nat} : ∀ (l : List Item), (∀ x ∈ l, (f x).natAbs ≤ M) → (sumI f l).natAbs ≤ l.length * M
  | [], _ => by simp [sumI]
  | x :: l, h => by
    have ih := sumI_bound l (fun y hy => h y (List.mem_cons_of_mem _ hy))
    have e : sumI f (x :: l) = f x + sumI f l := by simp [sumI]
    have h1 := h x List.mem_cons_self
    have h2 := Int.natAbs_add_le (f x) (sumI f l)
    rw [e, List.length_cons, Nat.succ_mul]; omega
/-- A stake's worth, with and without its sign; an order's. -/
def eqW (b : BookT) (x : Item) : Int := key 2 x * rateOf b (key 1 x)
def exW (b : BookT) (x : Item) : Int := ((eqW b x).natAbs : Int)
def ordW (x : Item) : Int := key 4 x * key 5 x
/-- The equity; the exposure with one more order; how far an account may reach. -/
def eqT (b : BookT) (a : Int) : Int := cashOf b a + sumI (eqW b) (ofAcc 0 a b.ss)
def exT (b : BookT) (a q p : Int) : Int := q * p + sumI (exW b) (ofAcc 0 a b.ss) + sumI ordW (ofAcc 1 a b.os)
def sgD (d : Int) : Int := if d = 1 then -1 else 1
def farT (b : BookT) (a s d q : Int) : Int := sgD d * stakeOf b a s + q + sumI (key 4) (ofSD s d (ofAcc 1 a b.os))
def leftT (b : BookT) (a d q p : Int) : Int := cashOf b a - sgD d * (q * p)
def muchT (b : BookT) (a s d q : Int) : Int := stakeOf b a s + sgD d * q
def sideB (d : Int) : Bool := d == 0 || d == 1

theorem key_in {k m : Nat} {l : List Item} (h : ItemsOk k m l) {x : Item} (hx : x ∈ l) (j : Nat) : In64' (key j x) := by
  unfold key
  rcases Nat.lt_or_ge j x.length with hj | hj
  · rw [List.getD_eq_getElem?_getD, List.getElem?_eq_getElem hj]; exact (h.2 x hx).2 _ (List.getElem_mem _)
  · rw [List.getD_eq_getElem?_getD, List.getElem?_eq_none hj]; show In64' 0; unfold In64'; omega
theorem find_memM {p : Item → Bool} {l : List Item} {x : Item} (h : findL p l = some x) : x ∈ l := List.mem_of_find?_eq_some h
theorem rate_in {m : Nat} {b : BookT} (h : ItemsOk 2 m b.rs) (s : Int) : In64' (rateOf b s) := by
  unfold rateOf
  cases hf : findL (is1 s) b.rs with
  | none => show In64' 0; unfold In64'; omega
  | some x => exact key_in h (find_memM hf) 1
theorem rate_nn {b : BookT} (h : mayT b = true) (s : Int) : 0 ≤ rateOf b s := by
  unfold rateOf
  cases hf : findL (is1 s) b.rs with
  | none => exact Int.le_refl 0
  | some x =>
    simp only [mayT, Bool.and_eq_true] at h
    have h2 := List.all_eq_true.1 h.1.1.2 x (find_memM hf)
    have := of_decide_eq_true h2
    show 0 ≤ key 1 x
    omega
theorem cash_in {m : Nat} {b : BookT} (h : ItemsOk 4 m b.hs) (a : Int) : In64' (cashOf b a) := by
  unfold cashOf
  cases hf : findL (is1 a) b.hs with
  | none => show In64' 0; unfold In64'; omega
  | some x => exact key_in h (find_memM hf) 1
theorem stake_in {m : Nat} {b : BookT} (h : ItemsOk 3 m b.ss) (a s : Int) : In64' (stakeOf b a s) := by
  unfold stakeOf
  cases hf : findL (is2 a s) b.ss with
  | none => show In64' 0; unfold In64'; omega
  | some x => exact key_in h (find_memM hf) 2
theorem ofAcc_mem {j : Nat} {a : Int} {l : List Item} {x : Item} (h : x ∈ ofAcc j a l) : x ∈ l ∧ key j x = a := by
  have := List.mem_filter.1 h
  exact ⟨this.1, by simpa using this.2⟩
theorem ofAcc_len (j : Nat) (a : Int) (l : List Item) : (ofAcc j a l).length ≤ l.length := List.length_filter_le _ _
theorem ofAcc_take {j : Nat} {a : Int} {l : List Item} {i : Nat} {x : Item} (h : l[i]? = some x) : ofAcc j a (l.take (i + 1)) = ofAcc j a (l.take i) ++ (if key j x == a then [x] else []) := by
  rw [take_one h]; unfold ofAcc; rw [List.filter_append, List.filter_cons, List.filter_nil]
theorem ofAcc_yes {j : Nat} {a : Int} {l : List Item} {i : Nat} {x : Item} (h : l[i]? = some x) (e : (key j x == a) = true) : ofAcc j a (l.take (i + 1)) = ofAcc j a (l.take i) ++ [x] := by rw [ofAcc_take h, e, if_pos rfl]
theorem ofAcc_no {j : Nat} {a : Int} {l : List Item} {i : Nat} {x : Item} (h : l[i]? = some x) (e : (key j x == a) = false) : ofAcc j a (l.take (i + 1)) = ofAcc j a (l.take i) := by rw [ofAcc_take h, e, if_neg (by simp), List.append_nil]
/-- What is told so far begins what is told. -/
theorem ofAcc_pre {j : Nat} {a : Int} (l : List Item) (i : Nat) : ∃ s, ofAcc j a (l.take i) ++ s = ofAcc j a l := ⟨ofAcc j a (l.drop i), by unfold ofAcc; rw [← List.filter_append, List.take_append_drop]⟩
theorem ofSD_snoc (s d : Int) (l : List Item) (x : Item) : ofSD s d (l ++ [x]) = ofSD s d l ++ (if key 2 x == s && key 3 x == d then [x] else []) := by
  unfold ofSD; rw [List.filter_append, List.filter_cons, List.filter_nil]
theorem prod_nat {a b : Int} (ha : In64' a) (hb : In64' b) : (a * b).natAbs ≤ 85070591730234615865843651857942052864 := by have := prod_bound ha hb; omega
/-- Not too great. -/
def Fine (z : Int) : Prop := z.natAbs ≤ 1000000000000000000000000000000000000000000000
theorem Fine.in {z : Int} (h : Fine z) : In192 z := by unfold Fine at h; unfold In192; omega
theorem pow50 {z : Int} (h : z.natAbs ≤ 100000000000000000000000000000000000000000000000000) : z.natAbs < 10000 ^ 100 := by
  have : (10000 : Nat) ^ 15 ≤ 10000 ^ 100 := Nat.pow_le_pow_right (by omega) (by omega)
  have e : (10000 : Nat) ^ 15 = 1000000000000000000000000000000000000000000000000000000000000 := by decide
  omega
theorem Fine.pow {z : Int} (h : Fine z) : z.natAbs < 10000 ^ 100 := pow50 (by unfold Fine at h; omega)
theorem in64_pow {z : Int} (h : In64' z) : z.natAbs < 10000 ^ 100 := pow50 (by unfold In64' at h; omega)
theorem prod_pow {a b : Int} (ha : In64' a) (hb : In64' b) : (a * b).natAbs < 10000 ^ 100 := pow50 (by have := prod_nat ha hb; omega)
theorem eqW_le {b : BookT} (hk : BookOk 2000 b) {x : Item} (hx : x ∈ b.ss) : (eqW b x).natAbs ≤ 85070591730234615865843651857942052864 := prod_nat (key_in hk.ss hx 2) (rate_in hk.rs _)
theorem ordW_le {b : BookT} (hk : BookOk 2000 b) {x : Item} (hx : x ∈ b.os) : (ordW x).natAbs ≤ 85070591730234615865843651857942052864 := prod_nat (key_in hk.os hx 4) (key_in hk.os hx 5)
theorem sum_le {f : Item → Int} {l : List Item} (h : ∀ x ∈ l, (f x).natAbs ≤ 85070591730234615865843651857942052864) (hl : l.length ≤ 2000) : (sumI f l).natAbs ≤ 170141183460469231731687303715884105728000 := by
  have h1 := sumI_bound l h
  have h2 := Nat.mul_le_mul_right 85070591730234615865843651857942052864 hl
  omega
/-- Some of an account's things, of a list. -/
theorem pre_le {j : Nat} {a : Int} {l pre s : List Item} (h : pre ++ s = ofAcc j a l) (hl : l.length ≤ 2000) : pre.length ≤ 2000 ∧ ∀ x ∈ pre, x ∈ l := by
  have h1 := congrArg List.length h
  rw [List.length_append] at h1
  have h2 := ofAcc_len j a l
  exact ⟨by omega, fun x hx => (ofAcc_mem (h ▸ List.mem_append_left s hx)).1⟩
theorem eq_sum {b : BookT} (hk : BookOk 2000 b) {a : Int} {pre s : List Item} (h : pre ++ s = ofAcc 0 a b.ss) : (sumI (eqW b) pre).natAbs ≤ 170141183460469231731687303715884105728000 := by
  obtain ⟨h1, h2⟩ := pre_le h hk.ss.1
  exact sum_le (fun x hx => eqW_le hk (h2 x hx)) h1
theorem ex_sum {b : BookT} (hk : BookOk 2000 b) {a : Int} {pre s : List Item} (h : pre ++ s = ofAcc 0 a b.ss) : (sumI (exW b) pre).natAbs ≤ 170141183460469231731687303715884105728000 := by
  obtain ⟨h1, h2⟩ := pre_le h hk.ss.1
  exact sum_le (fun x hx => by have := eqW_le hk (h2 x hx); unfold exW; omega) h1
theorem ord_sum {b : BookT} (hk : BookOk 2000 b) {a : Int} {pre s : List Item} (h : pre ++ s = ofAcc 1 a b.os) : (sumI ordW pre).natAbs ≤ 170141183460469231731687303715884105728000 := by
  obtain ⟨h1, h2⟩ := pre_le h hk.os.1
  exact sum_le (fun x hx => ordW_le hk (h2 x hx)) h1
theorem far_sum {b : BookT} (hk : BookOk 2000 b) {a sy d : Int} {pre s : List Item} (h : pre ++ s = ofAcc 1 a b.os) : (sumI (key 4) (ofSD sy d pre)).natAbs ≤ 170141183460469231731687303715884105728000 := by
  obtain ⟨h1, h2⟩ := pre_le h hk.os.1
  refine sum_le (fun x hx => ?_) (Nat.le_trans (List.length_filter_le _ _) h1)
  have := key_in hk.os (h2 x (List.mem_filter.1 hx).1) 4
  unfold In64' at this
  omega
theorem fine_of {z : Int} (h : z.natAbs ≤ 500000000000000000000000000000000000000000) : Fine z := by unfold Fine; omega
theorem sg_in (d : Int) : In64' (sgD d) := by unfold sgD In64'; split <;> omega
theorem sg_mul {d z : Int} : sgD d * z = if d = 1 then -z else z := by unfold sgD; split <;> omega
/-- A stake's worth without its sign, as it is told. -/
def atW (b : BookT) (x : Item) : Int := if key 2 x < 0 then -rateOf b (key 1 x) else rateOf b (key 1 x)
theorem exW_at {b : BookT} (h : mayT b = true) (x : Item) : key 2 x * atW b x = exW b x := by
  have hr := rate_nn h (key 1 x)
  unfold atW exW eqW
  generalize rateOf b (key 1 x) = r at *
  generalize key 2 x = q at *
  split
  · next h0 =>
    have := Int.mul_nonneg (show 0 ≤ -q by omega) hr
    rw [Int.mul_neg]
    rw [Int.neg_mul] at this
    omega
  · next h0 =>
    have := Int.mul_nonneg (show 0 ≤ q by omega) hr
    omega
theorem at_in {b : BookT} (h : mayT b = true) (hk : BookOk 2000 b) (x : Item) : In64' (atW b x) := by
  have h1 := rate_nn h (key 1 x)
  have h2 := rate_in hk.rs (key 1 x)
  unfold atW
  unfold In64' at *
  split <;> omega
theorem valH_cash {b : BookT} (h : ItemsOk 4 2000 b.hs) (a : Int) : ∃ p r s, valH (findL (is1 a) b.hs) = .agg #[.int .i64 p, .int .i64 (cashOf b a), .int .i64 r, .int .i64 s] := by
  unfold cashOf
  cases hf : findL (is1 a) b.hs with
  | none => exact ⟨0, 0, 0, rfl⟩
  | some x =>
    obtain ⟨p, q, r, s, rfl⟩ := item4 (h.2 x (find_memM hf)).1
    exact ⟨p, r, s, rfl⟩
end Go.Proofs.Ytmndkbfjmamnfaa
