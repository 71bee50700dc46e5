/- Plain mathematics of numbers as rows of digits of base 10000, the lowest first. -/
import Derived.Below
namespace Go.Proofs.Ytmndkbfjmamnfaa

/-- What digits are worth. -/
def valD : List Nat → Nat
  | [] => 0
  | d :: l => d + 10000 * valD l
/-- Each is a digit. -/
def digsD (l : List Nat) : Prop := ∀ d ∈ l, d < 10000
theorem digsD_nil : digsD [] := by intro d hd; cases hd
theorem digsD_cons {d : Nat} {l : List Nat} (h : digsD (d :: l)) : d < 10000 ∧ digsD l := ⟨h d (by simp), fun x hx => h x (by simp [hx])⟩
theorem digsD_app {l m : List Nat} (h : digsD l) (k : digsD m) : digsD (l ++ m) := by
  intro d hd
  rcases List.mem_append.1 hd with hd | hd
  · exact h d hd
  · exact k d hd
theorem digsD_take {l : List Nat} (h : digsD l) (i : Nat) : digsD (l.take i) := fun d hd => h d (List.mem_of_mem_take hd)
theorem digsD_drop {l : List Nat} (h : digsD l) (i : Nat) : digsD (l.drop i) := fun d hd => h d (List.mem_of_mem_drop hd)
theorem digsD_getD {l : List Nat} (h : digsD l) (i : Nat) : l.getD i 0 < 10000 := by
  rw [List.getD_eq_getElem?_getD]
  rcases Nat.lt_or_ge i l.length with hi | hi
  · rw [List.getElem?_eq_getElem hi]; exact h _ (List.getElem_mem _)
  · rw [List.getElem?_eq_none hi]; decide
theorem digsD_set {l : List Nat} (h : digsD l) (i v : Nat) (hv : v < 10000) : digsD (l.set i v) := fun d hd => by
  rcases List.mem_or_eq_of_mem_set hd with hd | rfl
  · exact h d hd
  · exact hv
theorem valD_app (l m : List Nat) : valD (l ++ m) = valD l + 10000 ^ l.length * valD m := by
  induction l with
  | nil => simp [valD]
  | cons d l ih => simp only [List.cons_append, valD, ih, List.length_cons, Nat.pow_succ]; rw [Nat.mul_add, ← Nat.mul_assoc, Nat.mul_comm 10000 (10000 ^ l.length)]; omega
theorem valD_lt {l : List Nat} (h : digsD l) : valD l < 10000 ^ l.length := by
  induction l with
  | nil => simp [valD]
  | cons d l ih =>
    have := ih (digsD_cons h).2
    have := (digsD_cons h).1
    simp only [valD, List.length_cons, Nat.pow_succ]
    omega
theorem valD_one (d : Nat) : valD [d] = d := by simp [valD]
theorem valD_snoc (l : List Nat) (d : Nat) : valD (l ++ [d]) = valD l + 10000 ^ l.length * d := by rw [valD_app, valD_one]
theorem valD_zeros (n : Nat) : valD (List.replicate n 0) = 0 := by
  induction n with
  | zero => rfl
  | succ n ih => simp [List.replicate_succ, valD, ih]
/-- Digits below a place, at it, above it. -/
theorem valD_cut (l : List Nat) : ∀ i, valD l = valD (l.take i) + 10000 ^ i * (l.getD i 0 + 10000 * valD (l.drop (i + 1))) := by
  induction l with
  | nil => intro i; simp [valD]
  | cons d l ih =>
    intro i
    cases i with
    | zero => simp [valD]
    | succ i =>
      have h := ih i
      simp only [List.take_succ_cons, List.drop_succ_cons, List.getD_cons_succ, valD, Nat.pow_succ]
      rw [Nat.mul_comm (10000 ^ i) 10000, Nat.mul_assoc]
      omega
theorem valD_take_succ (l : List Nat) (i : Nat) : valD (l.take (i + 1)) = valD (l.take i) + 10000 ^ i * l.getD i 0 := by
  have h1 := valD_cut (l.take (i + 1)) i
  have e1 : (l.take (i + 1)).take i = l.take i := by rw [List.take_take]; congr 1; omega
  have e2 : (l.take (i + 1)).drop (i + 1) = [] := List.drop_of_length_le (by simp; omega)
  have e3 : (l.take (i + 1)).getD i 0 = l.getD i 0 := by
    rw [List.getD_eq_getElem?_getD, List.getD_eq_getElem?_getD, List.getElem?_take, if_pos (by omega)]
  rw [e1, e2, e3] at h1
  rw [h1]; simp [valD]
theorem valD_drop (l : List Nat) (i : Nat) : valD (l.drop i) = l.getD i 0 + 10000 * valD (l.drop (i + 1)) := by
  rcases Nat.lt_or_ge i l.length with hi | hi
  · rw [List.drop_eq_getElem_cons hi, List.getD_eq_getElem?_getD, List.getElem?_eq_getElem hi]; rfl
  · rw [List.drop_of_length_le hi, List.drop_of_length_le (by omega), List.getD_eq_getElem?_getD, List.getElem?_eq_none hi]; rfl
theorem valD_take_all (l : List Nat) {n : Nat} (h : l.length ≤ n) : valD (l.take n) = valD l := by rw [List.take_of_length_le h]
theorem valD_set {l : List Nat} {k : Nat} (hk : k < l.length) (v : Nat) : valD (l.set k v) + 10000 ^ k * l.getD k 0 = valD l + 10000 ^ k * v := by
  induction l generalizing k with
  | nil => simp at hk
  | cons d l ih =>
    cases k with
    | zero => simp [valD]; omega
    | succ k =>
      have := ih (k := k) (by simpa using hk)
      simp only [List.set_cons_succ, valD, List.getD_cons_succ, Nat.pow_succ]
      rw [Nat.mul_comm (10000 ^ k) 10000, Nat.mul_assoc, Nat.mul_assoc]
      omega
/-- No nought ahead. -/
def topD (l : List Nat) : Prop := ∀ d, l.getLast? = some d → d ≠ 0
theorem topD_nil : topD [] := by intro d hd; cases hd
theorem topD_zero {l : List Nat} (h : topD l) (hv : valD l = 0) : l = [] := by
  rcases List.eq_nil_or_concat l with rfl | ⟨m, d, rfl⟩
  · rfl
  · rw [List.concat_eq_append, valD_snoc] at hv
    have h0 : d = 0 := by
      have : 10000 ^ m.length * d = 0 := by omega
      rcases Nat.mul_eq_zero.1 this with h | h
      · exact absurd h (by have := Nat.pow_pos (n := m.length) (show 0 < 10000 by omega); omega)
      · exact h
    exact absurd h0 (h d (by simp))
/-- With another sign. -/
def sgn (neg : Bool) (n : Nat) : Int := if neg then -(n : Int) else (n : Int)
theorem sgn_false (n : Nat) : sgn false n = n := rfl
theorem sgn_true (n : Nat) : sgn true n = -(n : Int) := rfl
/-- Less, by the highest digit that isn't alike. -/
theorem less_at {a b : List Nat} (ha : digsD a) (hb : digsD b) (i : Nat) (he : valD (a.drop (i + 1)) = valD (b.drop (i + 1))) (hne : a.getD i 0 ≠ b.getD i 0) : valD a < valD b ↔ a.getD i 0 < b.getD i 0 := by
  have h1 := valD_cut a i
  have h2 := valD_cut b i
  have t1 := valD_lt (digsD_take ha i)
  have t2 := valD_lt (digsD_take hb i)
  have l1 : 10000 ^ (a.take i).length ≤ 10000 ^ i := Nat.pow_le_pow_right (by omega) (by simp; omega)
  have l2 : 10000 ^ (b.take i).length ≤ 10000 ^ i := Nat.pow_le_pow_right (by omega) (by simp; omega)
  rw [he] at h1
  generalize valD (b.drop (i + 1)) = U at *
  generalize a.getD i 0 = x at *
  generalize b.getD i 0 = y at *
  generalize valD (a.take i) = p at *
  generalize valD (b.take i) = q at *
  generalize 10000 ^ i = T at *
  rw [Nat.mul_add] at h1 h2
  constructor
  · intro h
    rcases Nat.lt_or_ge x y with hlt | hge
    · exact hlt
    · have : y + 1 ≤ x := by omega
      have := Nat.mul_le_mul_left T this
      rw [Nat.mul_add] at this
      omega
  · intro h
    have : x + 1 ≤ y := h
    have := Nat.mul_le_mul_left T this
    rw [Nat.mul_add] at this
    omega
/-- A carry's step. -/
theorem add_step (T x y c : Nat) : T * ((x + y + c) % 10000) + T * 10000 * ((x + y + c) / 10000) = T * x + T * y + T * c := by
  have h := Nat.mod_add_div (x + y + c) 10000
  rw [Nat.mul_assoc, ← Nat.mul_add, h, Nat.mul_add, Nat.mul_add]
theorem topD_snoc {l : List Nat} {d : Nat} (h : d ≠ 0) : topD (l ++ [d]) := by
  intro x hx
  simp at hx
  omega
theorem pow_split (i n : Nat) : 10000 ^ (i + n) = 10000 ^ i * 10000 ^ n := Nat.pow_add _ _ _
/-- Two rows of digits without noughts ahead that are worth the same are the same. -/
theorem digs_inj {a : List Nat} : ∀ {b : List Nat}, digsD a → digsD b → topD a → topD b → valD a = valD b → a = b := by
  induction a with
  | nil => intro b _ _ _ hb e; exact (topD_zero hb e.symm).symm
  | cons x a ih =>
    intro b ha hb ta tb e
    cases b with
    | nil => exact topD_zero ta e
    | cons y b =>
      have x1 := (digsD_cons ha).1
      have y1 := (digsD_cons hb).1
      simp only [valD] at e
      have exy : x = y := by omega
      have ev : valD a = valD b := by omega
      have tt : ∀ {z : Nat} {l : List Nat}, topD (z :: l) → topD l := fun {z l} h d hd => h d (by
        rcases l with _ | ⟨w, l⟩
        · cases hd
        · simpa [List.getLast?_cons_cons] using hd)
      rw [exy, ih (digsD_cons ha).2 (digsD_cons hb).2 (tt ta) (tt tb) ev]
end Go.Proofs.Ytmndkbfjmamnfaa
