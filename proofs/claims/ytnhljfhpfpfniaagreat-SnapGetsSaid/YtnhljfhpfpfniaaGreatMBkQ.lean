/- Where a key belongs in a list that rises; plain. The library's Compare, Or; the comparers by keys: contracts. The library's search in a list; the program's place: contracts. The program's find: contracts. The program's look-ups in a book: contracts. -/
import Derived.Test.YtnhljfhpfpfniaaGreatBkMath
import Derived.Test.YtnhljfhpfpfniaaGreatBkSet
import Derived.Test.YtnhljfhpfpfniaaGreatBkLaw
namespace Go.Proofs.YtnhljfhpfpfniaaGreat
open Go.RowKit Base Base2

/-- How two numbers stand. -/
def cmpI (a b : Int) : Int := if a < b then -1 else if b < a then 1 else 0
theorem cmpI_neg {a b : Int} : cmpI a b < 0 ↔ a < b := by unfold cmpI; split <;> (try split) <;> omega
theorem cmpI_nonneg {a b : Int} : 0 ≤ cmpI a b ↔ b ≤ a := by unfold cmpI; split <;> (try split) <;> omega
theorem cmpI_pos {a b : Int} : 0 < cmpI a b ↔ b < a := by unfold cmpI; split <;> (try split) <;> omega
theorem cmpI_zero {a b : Int} : cmpI a b = 0 ↔ a = b := by unfold cmpI; split <;> (try split) <;> omega
theorem cmpI_cases (a b : Int) : cmpI a b = -1 ∨ cmpI a b = 0 ∨ cmpI a b = 1 := by unfold cmpI; split <;> (try split) <;> omega
/-- By one number, by two. -/
def c1 (id : Int) (x : Item) : Int := cmpI (key 0 x) id
def c2 (id s : Int) (x : Item) : Int := if cmpI (key 0 x) id = 0 then cmpI (key 1 x) s else cmpI (key 0 x) id
theorem c2_neg {id s : Int} {x : Item} : c2 id s x < 0 ↔ key 0 x < id ∨ (key 0 x = id ∧ key 1 x < s) := by
  have h1 := @cmpI_neg (key 0 x) id
  have h2 := @cmpI_zero (key 0 x) id
  have h3 := @cmpI_neg (key 1 x) s
  unfold c2
  split <;> omega
theorem c2_zero {id s : Int} {x : Item} : c2 id s x = 0 ↔ key 0 x = id ∧ key 1 x = s := by
  have h2 := @cmpI_zero (key 0 x) id
  have h3 := @cmpI_zero (key 1 x) s
  unfold c2
  split <;> omega
theorem c2_cases (id s : Int) (x : Item) : c2 id s x = -1 ∨ c2 id s x = 0 ∨ c2 id s x = 1 := by
  unfold c2
  split <;> exact cmpI_cases _ _
def MonoC (lt : Item → Item → Bool) (c : Item → Int) : Prop := ∀ x y, lt x y = true → 0 ≤ c x → 0 < c y
theorem mono1 (id : Int) : MonoC lt1 (c1 id) := by
  intro x y h h0
  simp only [lt1, decide_eq_true_eq] at h
  unfold c1 at *
  rw [cmpI_nonneg] at h0
  rw [cmpI_pos]
  omega
theorem mono2 (id s : Int) : MonoC lt2 (c2 id s) := by
  intro x y h h0
  simp only [lt2, Bool.or_eq_true, Bool.and_eq_true, decide_eq_true_eq] at h
  have h1 := @c2_neg id s x
  have h2 := @c2_neg id s y
  have h3 := @c2_zero id s y
  omega
/-- How many stand ahead of the place. -/
def posL (c : Item → Int) (l : List Item) : Nat := (l.takeWhile (fun x => decide (c x < 0))).length
theorem posL_le (c : Item → Int) (l : List Item) : posL c l ≤ l.length := List.Sublist.length_le (List.takeWhile_sublist _)
theorem posL_lt {c : Item → Int} {x : Item} {l : List Item} (h : c x < 0) : posL c (x :: l) = posL c l + 1 := by simp [posL, h]
theorem posL_ge {c : Item → Int} {x : Item} {l : List Item} (h : 0 ≤ c x) : posL c (x :: l) = 0 := by simp [posL, h]
theorem riseL_tail {lt : Item → Item → Bool} {x : Item} {l : List Item} (h : riseL lt (x :: l) = true) : riseL lt l = true := by
  cases l with
  | nil => rfl
  | cons y r => rw [riseL_two, Bool.and_eq_true] at h; exact h.2
theorem later {lt : Item → Item → Bool} {c : Item → Int} (hm : MonoC lt c) : ∀ {l : List Item} {x : Item}, riseL lt (x :: l) = true → 0 ≤ c x → ∀ y ∈ l, 0 < c y
  | [], _, _, _, _, hy => by cases hy
  | z :: r, x, h, h0, y, hy => by
    rw [riseL_two, Bool.and_eq_true] at h
    have hz := hm x z h.1 h0
    rcases List.mem_cons.1 hy with rfl | hy
    · exact hz
    · exact later hm h.2 (by omega) y hy
theorem pos_iff {lt : Item → Item → Bool} {c : Item → Int} (hm : MonoC lt c) : ∀ {l : List Item}, riseL lt l = true → ∀ {i : Nat} {x : Item}, l[i]? = some x → (c x < 0 ↔ i < posL c l)
  | [], _, i, x, h => by simp at h
  | y :: l, hr, i, x, h => by
    by_cases hc : c y < 0
    · rw [posL_lt hc]
      cases i with
      | zero => simp at h; subst h; omega
      | succ i => have := pos_iff hm (riseL_tail hr) (i := i) (x := x) (by simpa using h); omega
    · rw [posL_ge (by omega)]
      cases i with
      | zero => simp at h; subst h; omega
      | succ i => have := later hm hr (by omega) x (List.mem_of_getElem? (i := i) (by simpa using h)); omega
def foundL (c : Item → Int) (l : List Item) : Bool := match l[posL c l]? with | some x => c x == 0 | none => false
theorem foundL_some {c : Item → Int} {l : List Item} {x : Item} (h : l[posL c l]? = some x) : foundL c l = (c x == 0) := by unfold foundL; rw [h]
theorem foundL_none {c : Item → Int} {l : List Item} (h : l[posL c l]? = none) : foundL c l = false := by unfold foundL; rw [h]
theorem foundL_lt {c : Item → Int} {l : List Item} (h : foundL c l = true) : posL c l < l.length := by
  cases hx : l[posL c l]? with
  | none => rw [foundL_none hx] at h; cases h
  | some x => exact (List.getElem?_eq_some_iff.1 hx).1
theorem find_pos {lt : Item → Item → Bool} {c : Item → Int} {p : Item → Bool} (hm : MonoC lt c) (hp : ∀ x, p x = (c x == 0)) : ∀ {l : List Item}, riseL lt l = true → findL p l = if foundL c l then l[posL c l]? else none
  | [], _ => rfl
  | y :: l, hr => by
    by_cases hc : c y < 0
    · have ih := find_pos hm hp (riseL_tail hr)
      have e : foundL c (y :: l) = foundL c l := by unfold foundL; rw [posL_lt hc, List.getElem?_cons_succ]
      have e2 : findL p (y :: l) = findL p l := by unfold findL; rw [List.find?_cons, hp, beq_eq_false_iff_ne.2 (by omega)]
      rw [e, e2, ih, posL_lt hc, List.getElem?_cons_succ]
    · have e0 : posL c (y :: l) = 0 := posL_ge (by omega)
      by_cases hz : c y = 0
      · have e : foundL c (y :: l) = true := by unfold foundL; rw [e0]; simp [hz]
        rw [e, e0, if_pos rfl]
        unfold findL
        rw [List.find?_cons, hp, beq_iff_eq.2 hz]; rfl
      · have e : foundL c (y :: l) = false := by unfold foundL; rw [e0]; simp [hz]
        rw [e, if_neg (by simp)]
        refine find_no (fun z hz2 => ?_)
        rw [hp]
        rcases List.mem_cons.1 hz2 with rfl | h
        · exact beq_eq_false_iff_ne.2 hz
        · have := later hm hr (by omega) z h; exact beq_eq_false_iff_ne.2 (by omega)
def finS (x : Item) (st : List Item × Bool) : List Item := if st.2 then st.1 else st.1 ++ [x]
/-- What stands behind the place: without the thing that is there. -/
def behindL (c : Item → Int) (l : List Item) : List Item := l.drop (if foundL c l then posL c l + 1 else posL c l)
theorem set_done {ge eq : Item → Bool} {x : Item} : ∀ (l o : List Item), (∀ y ∈ l, eq y = false) → l.foldl (setF ge eq x) (o, true) = (o ++ l, true)
  | [], o, _ => by simp
  | y :: l, o, h => by
    rw [List.foldl_cons]
    have e : setF ge eq x (o, true) y = (o ++ [y], true) := by unfold setF; simp [h y (List.mem_cons_self ..)]
    rw [e, set_done l _ (fun z hz => h z (List.mem_cons_of_mem _ hz))]
    simp
theorem set_pos {lt : Item → Item → Bool} {c : Item → Int} {ge eq : Item → Bool} {x : Item} (hm : MonoC lt c) (hg : ∀ y, ge y = decide (0 ≤ c y)) (he : ∀ y, eq y = (c y == 0)) : ∀ (l o : List Item) (d : Bool), riseL lt l = true →
    finS x (l.foldl (setF ge eq x) (o, d)) = o ++ (l.take (posL c l) ++ ((if d then [] else [x]) ++ behindL c l))
  | [], o, d, _ => by cases d <;> simp [finS, posL, behindL]
  | y :: l, o, d, hr => by
    rw [List.foldl_cons]
    by_cases hc : c y < 0
    · have g1 : ge y = false := by rw [hg, decide_eq_false_iff_not]; omega
      have g2 : eq y = false := by rw [he, beq_eq_false_iff_ne]; omega
      have e : setF ge eq x (o, d) y = (o ++ [y], d) := by unfold setF; simp [g1, g2]
      have ef : foundL c (y :: l) = foundL c l := by unfold foundL; rw [posL_lt hc, List.getElem?_cons_succ]
      have eb : behindL c (y :: l) = behindL c l := by unfold behindL; rw [ef, posL_lt hc]; cases foundL c l <;> simp
      rw [e, set_pos hm hg he l _ d (riseL_tail hr), posL_lt hc, eb]
      simp
    · have e0 : posL c (y :: l) = 0 := posL_ge (by omega)
      have g1 : ge y = true := by rw [hg, decide_eq_true_eq]; omega
      have e : setF ge eq x (o, d) y = (o ++ (if d then [] else [x]) ++ (if eq y then [] else [y]), true) := by unfold setF; cases d <;> simp [g1]
      have ef : foundL c (y :: l) = eq y := by unfold foundL; rw [e0, he]; rfl
      have eb : behindL c (y :: l) = (if eq y then [] else [y]) ++ l := by unfold behindL; rw [ef, e0]; cases eq y <;> simp
      rw [e, set_done _ _ (fun z hz => by have := later hm hr (by omega) z hz; rw [he, beq_eq_false_iff_ne]; omega), e0, eb]
      simp [finS]
theorem setL_pos {lt : Item → Item → Bool} {c : Item → Int} {ge eq : Item → Bool} {x : Item} (hm : MonoC lt c) (hg : ∀ y, ge y = decide (0 ≤ c y)) (he : ∀ y, eq y = (c y == 0)) (d : Bool) {l : List Item} (hr : riseL lt l = true) :
    setL ge eq x d l = l.take (posL c l) ++ ((if d then [] else [x]) ++ behindL c l) := by
  have h := set_pos (x := x) hm hg he l [] d hr
  rw [List.nil_append] at h
  rw [← h]
  rfl
theorem is1_c (id : Int) (x : Item) : is1 id x = (c1 id x == 0) := by
  have := @cmpI_zero (key 0 x) id
  unfold is1 c1
  rw [Bool.eq_iff_iff, beq_iff_eq, beq_iff_eq]; exact this.symm
theorem is2_c (id s : Int) (x : Item) : is2 id s x = (c2 id s x == 0) := by
  have := @c2_zero id s x
  unfold is2
  rw [Bool.eq_iff_iff, Bool.and_eq_true, beq_iff_eq, beq_iff_eq, beq_iff_eq]; exact this.symm
theorem ge1_c (x y : Item) : ge1 x y = decide (0 ≤ c1 (key 0 x) y) := by
  have := @cmpI_nonneg (key 0 y) (key 0 x)
  unfold ge1 c1
  rw [Bool.eq_iff_iff, decide_eq_true_eq, decide_eq_true_eq]; exact this.symm
theorem eq1_c (x y : Item) : eq1 x y = (c1 (key 0 x) y == 0) := by
  have := @cmpI_zero (key 0 y) (key 0 x)
  unfold eq1 c1
  rw [Bool.eq_iff_iff, decide_eq_true_eq, beq_iff_eq]; exact this.symm
theorem ge2_c (x y : Item) : ge2 x y = decide (0 ≤ c2 (key 0 x) (key 1 x) y) := by
  have := @c2_neg (key 0 x) (key 1 x) y
  unfold ge2
  rw [Bool.eq_iff_iff, Bool.or_eq_true, Bool.and_eq_true, decide_eq_true_eq, decide_eq_true_eq, decide_eq_true_eq, decide_eq_true_eq]; omega
theorem eq2_c (x y : Item) : eq2 x y = (c2 (key 0 x) (key 1 x) y == 0) := by
  have := @c2_zero (key 0 x) (key 1 x) y
  unfold eq2
  rw [Bool.eq_iff_iff, Bool.and_eq_true, beq_iff_eq, decide_eq_true_eq, decide_eq_true_eq]; exact this.symm
end Go.Proofs.YtnhljfhpfpfniaaGreat

namespace Go.Proofs.YtnhljfhpfpfniaaGreat
open Go.RowKit Base Base2

theorem nan85 (a : Int) (w : World) : Calls Tryz.prog 152 #[.int .i64 a] w fun e w' => e = .returned (.bool false) ∧ w' = w := by
  go_enter Tryz.func152, Tryz.ntmps152
  go_wp2
  go_ret
  simp
theorem compare79 (a b : Int) (w : World) : Calls Tryz.prog 143 #[.int .i64 a, .int .i64 b] w fun e w' => e = .returned (.int .i64 (cmpI a b)) ∧ w' = w := by
  by_cases h1 : a < b
  · have e : cmpI a b = -1 := by unfold cmpI; rw [if_pos h1]
    rw [e]
    go_enter Tryz.func143, Tryz.ntmps143
    go_wp2_with (go_at_call 152; refine (nan85 _ _).mono ?_; rintro e w' ⟨rfl, rfl⟩)
    go_ret
    exact ⟨rfl, rfl⟩
  · by_cases h2 : b < a
    · have e : cmpI a b = 1 := by unfold cmpI; rw [if_neg h1, if_pos h2]
      rw [e]
      go_enter Tryz.func143, Tryz.ntmps143
      go_wp2_with (go_at_call 152; refine (nan85 _ _).mono ?_; rintro e w' ⟨rfl, rfl⟩)
      go_ret
      exact ⟨rfl, rfl⟩
    · have e : cmpI a b = 0 := by unfold cmpI; rw [if_neg h1, if_neg h2]
      rw [e]
      go_enter Tryz.func143, Tryz.ntmps143
      go_wp2_with (go_at_call 152; refine (nan85 _ _).mono ?_; rintro e w' ⟨rfl, rfl⟩)
      go_ret
      exact ⟨rfl, rfl⟩
set_option maxHeartbeats 4000000 in
theorem or83 (g : Nat) (a b : Int) (w : World) (h0 : w.cell? ⟨g, 0, none⟩ = some (.int .i64 a)) (h1 : w.cell? ⟨g, 1, none⟩ = some (.int .i64 b)) :
    Calls Tryz.prog 144 #[.slice (some ⟨g, 0, none⟩) 2 2] w fun e w' => e = .returned (.int .i64 (if a = 0 then b else a)) ∧ w' = w := by
  obtain ⟨RES, hR⟩ : ∃ r, (if a = 0 then b else a) = r := ⟨_, rfl⟩
  rw [hR]
  go_enter Tryz.func144, Tryz.ntmps144
  go_wp2
  go_loopw [8] (fun vi W => ∃ i : Nat, vi = .int .i64 (i : Int) ∧ i ≤ 2 ∧ (1 ≤ i → a = 0) ∧ (2 ≤ i → b = 0) ∧ W = w) (fun vi _ => 2 - (intOf vi).toNat)
  case atStart => exact ⟨0, rfl, by omega, by omega, by omega, rfl⟩
  case round =>
    obtain ⟨i, rfl, hi, ha, hb, rfl⟩ := hrel
    by_cases e0 : i = 0
    · subst e0
      by_cases hz : a = 0
      · have g : (a == 0) = true := by rw [beq_iff_eq]; exact hz
        have HZ := Lib.hid hz
        clear hz
        go_wp2
        go_roundw
        case rel => exact ⟨1, rfl, by omega, fun _ => HZ.out, fun h => absurd h (by omega), by trivial⟩
        case measure => simp [intOf]
      · have g : (a == 0) = false := by rw [beq_eq_false_iff_ne]; exact hz
        have HR := Lib.hid ((if_neg hz).symm.trans hR)
        clear hz hR
        go_wp2
        go_ret
        exact ⟨ret_int HR.out, rfl⟩
    · by_cases e1 : i = 1
      · subst e1
        have hz := ha (by omega)
        have HR := Lib.hid ((if_pos hz).symm.trans hR)
        have HA := Lib.hid hz
        clear hR ha hz
        by_cases hz : b = 0
        · have g : (b == 0) = true := by rw [beq_iff_eq]; exact hz
          have HZ := Lib.hid hz
          clear hz
          go_wp2
          go_roundw
          case rel => exact ⟨2, rfl, by omega, fun _ => HA.out, fun _ => HZ.out, by trivial⟩
          case measure => simp [intOf]
        · have g : (b == 0) = false := by rw [beq_eq_false_iff_ne]; exact hz
          clear hz
          go_wp2
          go_ret
          exact ⟨ret_int HR.out, rfl⟩
      · have e2 : i = 2 := by omega
        subst e2
        have HR := Lib.hid ((hb (by omega)).symm.trans ((if_pos (ha (by omega))).symm.trans hR))
        clear ha hb hR
        go_wp2
        go_ret
        exact ⟨ret_int HR.out, rfl⟩
set_option maxHeartbeats 4000000 in
theorem byHolder (p q r s id : Int) (w : World) : Calls Tryz.prog 81 #[.agg #[.int .i64 p, .int .i64 q, .int .i64 r, .int .i64 s], .int .i64 id] w fun e w' => e = .returned (.int .i64 (c1 id [p, q, r, s])) ∧ Below w.heap.size w w' := by
  have e : c1 id [p, q, r, s] = cmpI p id := rfl
  rw [e]
  have hb : Below w.heap.size w (w.alloc (.cells #[.int .i64 p, .int .i64 q, .int .i64 r, .int .i64 s] 62)) := (Below.refl _ w).alloc (Nat.le_refl _) _
  have k0 : (w.alloc (.cells #[.int .i64 p, .int .i64 q, .int .i64 r, .int .i64 s] 62)).cell? ⟨w.heap.size, 0, none⟩ = some (.int .i64 p) := cell_of_row _ _ 0 _ 62 (0, 0) (heap_alloc_new w _)
  go_enter Tryz.func81, Tryz.ntmps81
  go_wp2_with (go_at_call 143; refine (compare79 _ _ _).mono ?_; rintro e w' ⟨rfl, rfl⟩)
  go_ret
  exact ⟨rfl, hb⟩
set_option maxHeartbeats 4000000 in
theorem byOpen (p q r s t z id : Int) (w : World) : Calls Tryz.prog 87 #[.agg #[.int .i64 p, .int .i64 q, .int .i64 r, .int .i64 s, .int .i64 t, .int .i64 z], .int .i64 id] w fun e w' => e = .returned (.int .i64 (c1 id [p, q, r, s, t, z])) ∧ Below w.heap.size w w' := by
  have e : c1 id [p, q, r, s, t, z] = cmpI p id := rfl
  rw [e]
  have hb : Below w.heap.size w (w.alloc (.cells #[.int .i64 p, .int .i64 q, .int .i64 r, .int .i64 s, .int .i64 t, .int .i64 z] 69)) := (Below.refl _ w).alloc (Nat.le_refl _) _
  have k0 : (w.alloc (.cells #[.int .i64 p, .int .i64 q, .int .i64 r, .int .i64 s, .int .i64 t, .int .i64 z] 69)).cell? ⟨w.heap.size, 0, none⟩ = some (.int .i64 p) := cell_of_row _ _ 0 _ 69 (0, 0) (heap_alloc_new w _)
  go_enter Tryz.func87, Tryz.ntmps87
  go_wp2_with (go_at_call 143; refine (compare79 _ _ _).mono ?_; rintro e w' ⟨rfl, rfl⟩)
  go_ret
  exact ⟨rfl, hb⟩
set_option maxHeartbeats 4000000 in
theorem byRate (p q id : Int) (w : World) : Calls Tryz.prog 90 #[.agg #[.int .i64 p, .int .i64 q], .int .i64 id] w fun e w' => e = .returned (.int .i64 (c1 id [p, q])) ∧ Below w.heap.size w w' := by
  have e : c1 id [p, q] = cmpI p id := rfl
  rw [e]
  have hb : Below w.heap.size w (w.alloc (.cells #[.int .i64 p, .int .i64 q] 64)) := (Below.refl _ w).alloc (Nat.le_refl _) _
  have k0 : (w.alloc (.cells #[.int .i64 p, .int .i64 q] 64)).cell? ⟨w.heap.size, 0, none⟩ = some (.int .i64 p) := cell_of_row _ _ 0 _ 64 (0, 0) (heap_alloc_new w _)
  go_enter Tryz.func90, Tryz.ntmps90
  go_wp2_with (go_at_call 143; refine (compare79 _ _ _).mono ?_; rintro e w' ⟨rfl, rfl⟩)
  go_ret
  exact ⟨rfl, hb⟩
set_option maxRecDepth 100000 in
set_option maxHeartbeats 8000000 in
theorem byStakeC (p q r id s : Int) (w : World) : Calls Tryz.prog 84 #[.agg #[.int .i64 p, .int .i64 q, .int .i64 r], .agg #[.int .i64 id, .int .i64 s]] w fun e w' => e = .returned (.int .i64 (c2 id s [p, q, r])) ∧ Below w.heap.size w w' := by
  obtain ⟨RES, hR⟩ : ∃ x, c2 id s [p, q, r] = x := ⟨_, rfl⟩
  have hR2 : (if cmpI p id = 0 then cmpI q s else cmpI p id) = RES := hR
  rw [hR]
  clear hR
  obtain ⟨W0, hW0⟩ : ∃ W, (w.alloc (.cells #[.int .i64 p, .int .i64 q, .int .i64 r] 66)).alloc (.cells #[.int .i64 id, .int .i64 s] 158) = W := ⟨_, rfl⟩
  have hlo : Below w.heap.size w W0 := by rw [← hW0]; exact ((Below.refl _ w).alloc (Nat.le_refl _) _).alloc (by simp) _
  have hx : W0.heap[w.heap.size]? = some (.cells #[.int .i64 p, .int .i64 q, .int .i64 r] 66) ∧ W0.heap[w.heap.size + 1]? = some (.cells #[.int .i64 id, .int .i64 s] 158) := by rw [← hW0]; exact two_new
  have hsz : W0.heap.size = w.heap.size + 2 := by rw [← hW0]; simp
  have HC := Lib.hid (show ∀ W, Below (w.heap.size + 2) W0 W → W.cell? ⟨w.heap.size, 0, none⟩ = some (.int .i64 p) ∧ W.cell? ⟨w.heap.size, 1, none⟩ = some (.int .i64 q) ∧ W.cell? ⟨w.heap.size + 1, 0, none⟩ = some (.int .i64 id) ∧ W.cell? ⟨w.heap.size + 1, 1, none⟩ = some (.int .i64 s) from fun W h =>
    ⟨cell_of_row _ _ 0 _ 66 (0, 0) ((h.block _ (by omega)).trans hx.1), cell_of_row _ _ 1 _ 66 (0, 0) ((h.block _ (by omega)).trans hx.1), cell_of_row _ _ 0 _ 158 (0, 0) ((h.block _ (by omega)).trans hx.2), cell_of_row _ _ 1 _ 158 (0, 0) ((h.block _ (by omega)).trans hx.2)⟩)
  have HLO := Lib.hid (show ∀ W, Below (w.heap.size + 2) W0 W → Below w.heap.size w W from fun W h => hlo.trans (h.mono (by omega)))
  have HSZ := Lib.hid (show ∀ W, Below (w.heap.size + 2) W0 W → w.heap.size + 2 ≤ W.heap.size from fun W h => by have := h.size; omega)
  clear hx hlo hsz
  obtain ⟨X1, hX1⟩ : ∃ z, cmpI p id = z := ⟨_, rfl⟩
  obtain ⟨X2, hX2⟩ : ∃ z, cmpI q s = z := ⟨_, rfl⟩
  rw [hX1, hX2] at hR2
  have HP1 := Lib.hid (fun W => compare79 p id W)
  have HP2 := Lib.hid (fun W => compare79 q s W)
  rw [hX1] at HP1
  rw [hX2] at HP2
  have HRR := Lib.hid hR2
  clear hX1 hX2 hR2
  go_enter Tryz.func84, Tryz.ntmps84
  go_wp2
  clear hW0
  refine wp_region_held_drew (S := fun W => Below (w.heap.size + 2) W0 W) (by kernel_rfl) (below_drewN' (Below.refl _ _) 1) (fun hS => ?_)
  refine wpAnyH_take (i := 0) (v := .pointer (some ⟨w.heap.size, 0, none⟩)) rfl (by kernel_rfl) (by kernel_rfl) (by kernel_rfl) (fun _ _ _ h => h) (Or.inl ⟨by simp [Region.wanted], fun W _ => by go_simp⟩) hS ?_
  simp only [List.getElem_toArray, List.getElem_cons_zero, Act.put, List.setIfInBounds_toArray, List.set_cons_zero, List.set_cons_succ]
  refine wpAnyH_take (i := 1) (v := .int .i64 p) rfl (by kernel_rfl) (by kernel_rfl) (by kernel_rfl) (fun _ _ _ h => h) (Or.inl ⟨by simp [Region.wanted], fun W hW => by obtain ⟨c1, c2, c3, c4⟩ := HC.out W hW; go_simp⟩) hS ?_
  simp only [List.getElem_toArray, List.getElem_cons_zero, List.getElem_cons_succ, Act.put, List.setIfInBounds_toArray, List.set_cons_zero, List.set_cons_succ]
  refine wpAnyH_take (i := 2) (v := .pointer (some ⟨w.heap.size + 1, 0, none⟩)) rfl (by kernel_rfl) (by kernel_rfl) (by kernel_rfl) (fun _ _ _ h => h) (Or.inl ⟨by simp [Region.wanted], fun W _ => by go_simp⟩) hS ?_
  simp only [List.getElem_toArray, List.getElem_cons_zero, List.getElem_cons_succ, Act.put, List.setIfInBounds_toArray, List.set_cons_zero, List.set_cons_succ]
  refine wpAnyH_take (i := 3) (v := .int .i64 id) rfl (by kernel_rfl) (by kernel_rfl) (by kernel_rfl) (fun _ _ _ h => h) (Or.inl ⟨by simp [Region.wanted], fun W hW => by obtain ⟨c1, c2, c3, c4⟩ := HC.out W hW; go_simp⟩) hS ?_
  simp only [List.getElem_toArray, List.getElem_cons_zero, List.getElem_cons_succ, Act.put, List.setIfInBounds_toArray, List.set_cons_zero, List.set_cons_succ]
  refine wpAnyH_take (i := 5) (v := .pointer (some ⟨w.heap.size, 1, none⟩)) rfl (by kernel_rfl) (by kernel_rfl) (by kernel_rfl) (fun _ _ _ h => h) (Or.inl ⟨by simp [Region.wanted], fun W _ => by go_simp⟩) hS ?_
  simp only [List.getElem_toArray, List.getElem_cons_zero, List.getElem_cons_succ, Act.put, List.setIfInBounds_toArray, List.set_cons_zero, List.set_cons_succ]
  refine wpAnyH_take (i := 6) (v := .int .i64 q) rfl (by kernel_rfl) (by kernel_rfl) (by kernel_rfl) (fun _ _ _ h => h) (Or.inl ⟨by simp [Region.wanted], fun W hW => by obtain ⟨c1, c2, c3, c4⟩ := HC.out W hW; go_simp⟩) hS ?_
  simp only [List.getElem_toArray, List.getElem_cons_zero, List.getElem_cons_succ, Act.put, List.setIfInBounds_toArray, List.set_cons_zero, List.set_cons_succ]
  refine wpAnyH_take (i := 7) (v := .pointer (some ⟨w.heap.size + 1, 1, none⟩)) rfl (by kernel_rfl) (by kernel_rfl) (by kernel_rfl) (fun _ _ _ h => h) (Or.inl ⟨by simp [Region.wanted], fun W _ => by go_simp⟩) hS ?_
  simp only [List.getElem_toArray, List.getElem_cons_zero, List.getElem_cons_succ, Act.put, List.setIfInBounds_toArray, List.set_cons_zero, List.set_cons_succ]
  refine wpAnyH_take (i := 8) (v := .int .i64 s) rfl (by kernel_rfl) (by kernel_rfl) (by kernel_rfl) (fun _ _ _ h => h) (Or.inl ⟨by simp [Region.wanted], fun W hW => by obtain ⟨c1, c2, c3, c4⟩ := HC.out W hW; go_simp⟩) hS ?_
  simp only [List.getElem_toArray, List.getElem_cons_zero, List.getElem_cons_succ, Act.put, List.setIfInBounds_toArray, List.set_cons_zero, List.set_cons_succ]
  refine wpAnyH_ready (rs := [4]) (by kernel_rfl) (by simp) ?_
  refine AllReadyH.cons rfl (fun K4 hK4 => ?_) AllReadyH.nil
  refine wanted_go rfl ?_
  simp only [List.getElem_toArray, List.getElem_cons_zero, List.getElem_cons_succ]
  go_wp2_with (go_at_call 143; refine (HP1.out _).mono ?_; rintro e y ⟨rfl, rfl⟩)
  refine hK4.out _ _ hS (fun hS1 => ?_)
  refine wpAnyH_ready (rs := [9]) (by kernel_rfl) (by simp) ?_
  refine AllReadyH.cons rfl (fun K9 hK9 => ?_) AllReadyH.nil
  refine wanted_go rfl ?_
  simp only [List.getElem_toArray, List.getElem_cons_zero, List.getElem_cons_succ]
  go_wp2_with (go_at_call 143; refine (HP2.out _).mono ?_; rintro e y ⟨rfl, rfl⟩)
  refine hK9.out _ _ hS1 (fun hS2 => ?_)
  refine wpAnyH_ready (rs := [10]) (by kernel_rfl) (by simp) ?_
  refine AllReadyH.cons rfl (fun K10 hK10 => ?_) AllReadyH.nil
  refine wanted_go rfl ?_
  simp only [List.getElem_toArray, List.getElem_cons_zero, List.getElem_cons_succ]
  go_wp2
  refine hK10.out _ _ (hS2.alloc (HSZ.out _ hS2) _) (fun hS3 => ?_)
  refine wpAnyH_ready (rs := [11]) (by kernel_rfl) (by simp) ?_
  refine AllReadyH.cons rfl (fun K11 hK11 => ?_) AllReadyH.nil
  refine wanted_go rfl ?_
  simp only [List.getElem_toArray, List.getElem_cons_zero, List.getElem_cons_succ]
  go_wp2_with (go_at_call 144; refine (or83 _ X1 X2 _ (cell_of_row _ _ 0 _ 3 (0, 0) (heap_alloc_new _ _)) (cell_of_row _ _ 1 _ 3 (0, 0) (heap_alloc_new _ _))).mono ?_; rw [HRR.out]; rintro e y ⟨rfl, rfl⟩)
  refine hK11.out _ _ hS3 (fun _ => ?_)
  refine wpAnyH_take (i := 12) (v := .int .i64 RES) rfl (by kernel_rfl) (by kernel_rfl) (by kernel_rfl) (fun _ _ _ h => h) (Or.inl ⟨by simp [Region.wanted], fun W _ => by go_simp⟩) hS3 ?_
  simp only [List.getElem_toArray, List.getElem_cons_zero, List.getElem_cons_succ, Act.put, List.setIfInBounds_toArray, List.set_cons_zero, List.set_cons_succ]
  refine wpAnyH_done (by kernel_rfl) ?_ _
  go_wp2
  go_ret
  exact ⟨rfl, HLO.out _ hS3⟩
end Go.Proofs.YtnhljfhpfpfniaaGreat

namespace Go.Proofs.YtnhljfhpfpfniaaGreat
open Go.RowKit Base Base2

set_option maxRecDepth 100000 in
set_option maxHeartbeats 8000000 in
theorem searchHolder (a : Option Addr) (c : Nat) (L : List Item) (id : Int) (w : World) (hr : RowsOf 4 w a L) (hk : ItemsOk 4 2000 L) (hs : riseL lt1 L = true) :
    Calls Tryz.prog 159 #[.slice a L.length c, .int .i64 id, .func (.func 81) #[] #[]] w fun e w' => e = .returned (.tuple #[.int .i64 (posL (c1 id) L : Int), .bool (foundL (c1 id) L)]) ∧ Below w.heap.size w w' := by
  have HROW := Lib.hid hr
  have hkl := hk.1
  have HK := Lib.hid hk.2
  have HB := Lib.hid (fun (p q r s : Int) W => byHolder p q r s id W)
  have HP := Lib.hid (fun (i : Nat) (x : Item) (h : L[i]? = some x) => pos_iff (mono1 id) hs h)
  have HF1 := Lib.hid (fun (x : Item) (h : L[posL (c1 id) L]? = some x) => foundL_some h)
  have HF0 := Lib.hid (fun (h : L[posL (c1 id) L]? = none) => foundL_none h)
  have hpl := posL_le (c1 id) L
  clear hr hk hs
  generalize foundL (c1 id) L = FO at *
  generalize posL (c1 id) L = PO at *
  go_enter Tryz.func159, Tryz.ntmps159
  go_wp2
  go_loopw [9, 10] (fun vi vj W => ∃ i j : Nat, vi = .int .i64 (i : Int) ∧ vj = .int .i64 (j : Int) ∧ i ≤ PO ∧ PO ≤ j ∧ j ≤ L.length ∧ Below w.heap.size w W) (fun vi vj _ => (intOf vj).toNat - (intOf vi).toNat)
  case atStart => exact ⟨0, L.length, rfl, rfl, Nat.zero_le _, hpl, Nat.le_refl _, Below.refl _ _⟩
  case round =>
    obtain ⟨i, j, rfl, rfl, hi, hj, hjl, hb⟩ := hrel
    have HLO := Lib.hid hb
    clear hb
    by_cases hlt : i < j
    · obtain ⟨x, hx⟩ : ∃ x, L[(i + j) / 2]? = some x := ⟨L[(i + j) / 2], by simp [show (i + j) / 2 < L.length by omega]⟩
      obtain ⟨b0, off, rfl, hb0, hcs⟩ := HROW.out.at hx
      obtain ⟨p, q, r, s, rfl⟩ := item4 (HK.out _ (List.mem_of_getElem? hx)).1
      have HCS := Lib.hid hcs
      clear hcs
      have HQ := HP.out _ _ hx
      obtain ⟨Z, hZ⟩ : ∃ zz, c1 id [p, q, r, s] = zz := ⟨_, rfl⟩
      have HBY := Lib.hid (fun W => HB.out p q r s W)
      rw [hZ] at HQ HBY
      clear hZ HB hx
      have HK1 := Lib.hid (show (i + j) / 2 < L.length by omega)
      have k0 := HCS.out wr HLO.out 0 p rfl
      have k1 := HCS.out wr HLO.out 1 q rfl
      have k2 := HCS.out wr HLO.out 2 r rfl
      have k3 := HCS.out wr HLO.out 3 s rfl
      rw [Nat.add_zero] at k0
      by_cases hz : Z < 0
      · have hpo := HQ.1 hz
        go_wp2_with (go_at_call 81; refine (HBY.out _).mono ?_; rintro e y ⟨rfl, hy⟩)
        go_roundw
        case rel => exact ⟨(i + j) / 2 + 1, j, by go_num, rfl, by omega, hj, hjl, HLO.out.trans (hy.mono HLO.out.size)⟩
        case measure => simp [intOf]; omega
      · have hpo : ¬ (i + j) / 2 < PO := fun h => hz (HQ.2 h)
        go_wp2_with (go_at_call 81; refine (HBY.out _).mono ?_; rintro e y ⟨rfl, hy⟩)
        go_roundw
        case rel => exact ⟨i, (i + j) / 2, rfl, by go_num, hi, by omega, by omega, HLO.out.trans (hy.mono HLO.out.size)⟩
        case measure => simp [intOf]; omega
    · have hij : i = PO := by omega
      subst hij
      by_cases hiL : i < L.length
      · obtain ⟨x, hx⟩ : ∃ x, L[i]? = some x := ⟨L[i], by simp [hiL]⟩
        have HF := Lib.hid (HF1.out _ hx)
        obtain ⟨b0, off, rfl, hb0, hcs⟩ := HROW.out.at hx
        obtain ⟨p, q, r, s, rfl⟩ := item4 (HK.out _ (List.mem_of_getElem? hx)).1
        have HCS := Lib.hid hcs
        clear hcs
        obtain ⟨Z, hZ⟩ : ∃ zz, c1 id [p, q, r, s] = zz := ⟨_, rfl⟩
        have HBY := Lib.hid (fun W => HB.out p q r s W)
        rw [hZ] at HBY HF
        clear hZ HB hx
        have k0 := HCS.out wr HLO.out 0 p rfl
        have k1 := HCS.out wr HLO.out 1 q rfl
        have k2 := HCS.out wr HLO.out 2 r rfl
        have k3 := HCS.out wr HLO.out 3 s rfl
        rw [Nat.add_zero] at k0
        go_wp2_with (go_at_call 81; refine (HBY.out _).mono ?_; rintro e y ⟨rfl, hy⟩)
        have hf := HF.out
        subst hf
        go_ret2
        exact ⟨rfl, HLO.out.trans (hy.mono HLO.out.size)⟩
      · have HF := Lib.hid (HF0.out (List.getElem?_eq_none (by omega)))
        go_wp2
        have hf := HF.out
        subst hf
        go_ret2
        exact ⟨rfl, HLO.out⟩

set_option maxHeartbeats 4000000 in
theorem placeHolder (a : Option Addr) (c : Nat) (L : List Item) (id : Int) (w : World) (hr : RowsOf 4 w a L) (hk : ItemsOk 4 2000 L) (hs : riseL lt1 L = true) :
    Calls Tryz.prog 153 #[.slice a L.length c, .int .i64 id, .func (.func 81) #[] #[]] w fun e w' => e = .returned (.tuple #[.int .i64 (posL (c1 id) L : Int), .bool (foundL (c1 id) L)]) ∧ Below w.heap.size w w' := by
  have HS := Lib.hid (fun W (h : Below w.heap.size w W) => searchHolder a c L id W (hr.below h) hk hs)
  clear hr hk hs
  generalize foundL (c1 id) L = FO at *
  generalize posL (c1 id) L = PO at *
  have HB := Lib.hid (Below.refl w.heap.size w)
  go_enter Tryz.func153, Tryz.ntmps153
  go_wp2_with (go_at_call 159; refine (HS.out _ HB.out).mono ?_; rintro e y ⟨rfl, hy⟩)
  go_ret2
  exact ⟨rfl, HB.out.trans (hy.mono HB.out.size)⟩

set_option maxRecDepth 100000 in
set_option maxHeartbeats 8000000 in
theorem searchRate (a : Option Addr) (c : Nat) (L : List Item) (id : Int) (w : World) (hr : RowsOf 2 w a L) (hk : ItemsOk 2 2000 L) (hs : riseL lt1 L = true) :
    Calls Tryz.prog 160 #[.slice a L.length c, .int .i64 id, .func (.func 90) #[] #[]] w fun e w' => e = .returned (.tuple #[.int .i64 (posL (c1 id) L : Int), .bool (foundL (c1 id) L)]) ∧ Below w.heap.size w w' := by
  have HROW := Lib.hid hr
  have hkl := hk.1
  have HK := Lib.hid hk.2
  have HB := Lib.hid (fun (p q : Int) W => byRate p q id W)
  have HP := Lib.hid (fun (i : Nat) (x : Item) (h : L[i]? = some x) => pos_iff (mono1 id) hs h)
  have HF1 := Lib.hid (fun (x : Item) (h : L[posL (c1 id) L]? = some x) => foundL_some h)
  have HF0 := Lib.hid (fun (h : L[posL (c1 id) L]? = none) => foundL_none h)
  have hpl := posL_le (c1 id) L
  clear hr hk hs
  generalize foundL (c1 id) L = FO at *
  generalize posL (c1 id) L = PO at *
  go_enter Tryz.func160, Tryz.ntmps160
  go_wp2
  go_loopw [9, 10] (fun vi vj W => ∃ i j : Nat, vi = .int .i64 (i : Int) ∧ vj = .int .i64 (j : Int) ∧ i ≤ PO ∧ PO ≤ j ∧ j ≤ L.length ∧ Below w.heap.size w W) (fun vi vj _ => (intOf vj).toNat - (intOf vi).toNat)
  case atStart => exact ⟨0, L.length, rfl, rfl, Nat.zero_le _, hpl, Nat.le_refl _, Below.refl _ _⟩
  case round =>
    obtain ⟨i, j, rfl, rfl, hi, hj, hjl, hb⟩ := hrel
    have HLO := Lib.hid hb
    clear hb
    by_cases hlt : i < j
    · obtain ⟨x, hx⟩ : ∃ x, L[(i + j) / 2]? = some x := ⟨L[(i + j) / 2], by simp [show (i + j) / 2 < L.length by omega]⟩
      obtain ⟨b0, off, rfl, hb0, hcs⟩ := HROW.out.at hx
      obtain ⟨p, q, rfl⟩ := item2 (HK.out _ (List.mem_of_getElem? hx)).1
      have HCS := Lib.hid hcs
      clear hcs
      have HQ := HP.out _ _ hx
      obtain ⟨Z, hZ⟩ : ∃ zz, c1 id [p, q] = zz := ⟨_, rfl⟩
      have HBY := Lib.hid (fun W => HB.out p q W)
      rw [hZ] at HQ HBY
      clear hZ HB hx
      have HK1 := Lib.hid (show (i + j) / 2 < L.length by omega)
      have k0 := HCS.out wr HLO.out 0 p rfl
      have k1 := HCS.out wr HLO.out 1 q rfl
      rw [Nat.add_zero] at k0
      by_cases hz : Z < 0
      · have hpo := HQ.1 hz
        go_wp2_with (go_at_call 90; refine (HBY.out _).mono ?_; rintro e y ⟨rfl, hy⟩)
        go_roundw
        case rel => exact ⟨(i + j) / 2 + 1, j, by go_num, rfl, by omega, hj, hjl, HLO.out.trans (hy.mono HLO.out.size)⟩
        case measure => simp [intOf]; omega
      · have hpo : ¬ (i + j) / 2 < PO := fun h => hz (HQ.2 h)
        go_wp2_with (go_at_call 90; refine (HBY.out _).mono ?_; rintro e y ⟨rfl, hy⟩)
        go_roundw
        case rel => exact ⟨i, (i + j) / 2, rfl, by go_num, hi, by omega, by omega, HLO.out.trans (hy.mono HLO.out.size)⟩
        case measure => simp [intOf]; omega
    · have hij : i = PO := by omega
      subst hij
      by_cases hiL : i < L.length
      · obtain ⟨x, hx⟩ : ∃ x, L[i]? = some x := ⟨L[i], by simp [hiL]⟩
        have HF := Lib.hid (HF1.out _ hx)
        obtain ⟨b0, off, rfl, hb0, hcs⟩ := HROW.out.at hx
        obtain ⟨p, q, rfl⟩ := item2 (HK.out _ (List.mem_of_getElem? hx)).1
        have HCS := Lib.hid hcs
        clear hcs
        obtain ⟨Z, hZ⟩ : ∃ zz, c1 id [p, q] = zz := ⟨_, rfl⟩
        have HBY := Lib.hid (fun W => HB.out p q W)
        rw [hZ] at HBY HF
        clear hZ HB hx
        have k0 := HCS.out wr HLO.out 0 p rfl
        have k1 := HCS.out wr HLO.out 1 q rfl
        rw [Nat.add_zero] at k0
        go_wp2_with (go_at_call 90; refine (HBY.out _).mono ?_; rintro e y ⟨rfl, hy⟩)
        have hf := HF.out
        subst hf
        go_ret2
        exact ⟨rfl, HLO.out.trans (hy.mono HLO.out.size)⟩
      · have HF := Lib.hid (HF0.out (List.getElem?_eq_none (by omega)))
        go_wp2
        have hf := HF.out
        subst hf
        go_ret2
        exact ⟨rfl, HLO.out⟩

set_option maxHeartbeats 4000000 in
theorem placeRate (a : Option Addr) (c : Nat) (L : List Item) (id : Int) (w : World) (hr : RowsOf 2 w a L) (hk : ItemsOk 2 2000 L) (hs : riseL lt1 L = true) :
    Calls Tryz.prog 154 #[.slice a L.length c, .int .i64 id, .func (.func 90) #[] #[]] w fun e w' => e = .returned (.tuple #[.int .i64 (posL (c1 id) L : Int), .bool (foundL (c1 id) L)]) ∧ Below w.heap.size w w' := by
  have HS := Lib.hid (fun W (h : Below w.heap.size w W) => searchRate a c L id W (hr.below h) hk hs)
  clear hr hk hs
  generalize foundL (c1 id) L = FO at *
  generalize posL (c1 id) L = PO at *
  have HB := Lib.hid (Below.refl w.heap.size w)
  go_enter Tryz.func154, Tryz.ntmps154
  go_wp2_with (go_at_call 160; refine (HS.out _ HB.out).mono ?_; rintro e y ⟨rfl, hy⟩)
  go_ret2
  exact ⟨rfl, HB.out.trans (hy.mono HB.out.size)⟩
end Go.Proofs.YtnhljfhpfpfniaaGreat

namespace Go.Proofs.YtnhljfhpfpfniaaGreat
open Go.RowKit Base Base2

def valI (k : Nat) (R : Option Item) : Value := match R with | some x => aggI x | none => aggI (List.replicate k 0)

set_option maxRecDepth 100000 in
set_option maxHeartbeats 4000000 in
theorem findHolder (a : Option Addr) (c : Nat) (L : List Item) (id : Int) (w : World) (hr : RowsOf 4 w a L) (hk : ItemsOk 4 2000 L) (hs : riseL lt1 L = true) :
    Calls Tryz.prog 145 #[.slice a L.length c, .int .i64 id, .func (.func 81) #[] #[]] w fun e w' => e = .returned (.tuple #[valI 4 (findL (is1 id) L), .bool (findL (is1 id) L).isSome]) ∧ Below w.heap.size w w' := by
  have HS := Lib.hid (fun W (h : Below w.heap.size w W) => placeHolder a c L id W (hr.below h) hk hs)
  have HROW := Lib.hid hr
  have hkl := hk.1
  have HK := Lib.hid hk.2
  have hpl := posL_le (c1 id) L
  have hf := find_pos (mono1 id) (is1_c id) hs
  rw [hf]
  have hlt := @foundL_lt (c1 id) L
  clear hr hk hs hf
  generalize foundL (c1 id) L = FO at *
  generalize posL (c1 id) L = PO at *
  obtain ⟨R, hR⟩ : ∃ R, (if FO = true then L[PO]? else none) = R := ⟨_, rfl⟩
  rw [hR]
  have HR := Lib.hid hR
  clear hR
  obtain ⟨W0, hW0⟩ : ∃ W, w.alloc (.cells #[.int .i64 0, .int .i64 0, .int .i64 0, .int .i64 0] 62) = W := ⟨_, rfl⟩
  have HB := Lib.hid (show Below w.heap.size w W0 by rw [← hW0]; exact (Below.refl _ w).alloc (Nat.le_refl _) _)
  have HSZ := Lib.hid (show W0.heap.size = w.heap.size + 1 by rw [← hW0]; simp)
  have HG := Lib.hid (show ∀ W, Below (w.heap.size + 1) W0 W → W.heap[w.heap.size]? = some (.cells #[.int .i64 0, .int .i64 0, .int .i64 0, .int .i64 0] 62 (0, 0)) from fun W h => (h.block _ (by omega)).trans (by rw [← hW0]; exact heap_alloc_new w _))
  cases FO with
  | true =>
    have hlt := hlt rfl
    obtain ⟨x, hx⟩ : ∃ x, L[PO]? = some x := ⟨L[PO], by simp [hlt]⟩
    have HX := Lib.hid (HR.out.symm.trans ((if_pos rfl).trans hx))
    obtain ⟨b0, off, rfl, hb0, hcs⟩ := HROW.out.at hx
    obtain ⟨p, q, r, s, rfl⟩ := item4 (HK.out _ (List.mem_of_getElem? hx)).1
    have HCS := Lib.hid hcs
    clear hcs hx HR
    go_enter Tryz.func145, Tryz.ntmps145
    go_wp2_with (first | ((with_reducible refine atStore (ty := 62) (x := .tmp 6) (y := .tmp 24) rfl ?_); refine wpList_store_row rfl 62 (.tmp 6) (.tmp 24) rfl w.heap.size #[.int .i64 p, .int .i64 q, .int .i64 r, .int .i64 s] rfl rfl 62 #[.int .i64 0, .int .i64 0, .int .i64 0, .int .i64 0] (HG.out _ HY.out) info33 rfl (by simp [Value.oneCell']) ?_) | (go_at_call 153; refine (HS.out _ HB.out).mono ?_; rintro e y ⟨rfl, hy⟩; have HY := Lib.hid (show Below (w.heap.size + 1) W0 y from hy.mono (by rw [HSZ.out]; exact Nat.le_refl _)); have HYW := Lib.hid (HB.out.trans (hy.mono HB.out.size)); have m0 := HCS.out y HYW.out 0 p rfl; have m1 := HCS.out y HYW.out 1 q rfl; have m2 := HCS.out y HYW.out 2 r rfl; have m3 := HCS.out y HYW.out 3 s rfl; rw [Nat.add_zero] at m0))
    refine ret_cell_tmp rfl rfl rfl rfl (setRow_heap _ _ _ _ _ _ (HG.out _ HY.out)) Tryz.underlying62 rfl info33 ?_
    rw [HX.out]
    exact ⟨rfl, below_row1 HYW.out (by omega)⟩
  | false =>
    have HX := Lib.hid (HR.out.symm.trans (if_neg (by simp)))
    clear HR
    go_enter Tryz.func145, Tryz.ntmps145
    go_wp2_with (first | ((with_reducible refine atStore (ty := 62) (x := .tmp 6) (y := .tmp 20) rfl ?_); refine wpList_store_row rfl 62 (.tmp 6) (.tmp 20) rfl w.heap.size #[.int .i64 0, .int .i64 0, .int .i64 0, .int .i64 0] rfl rfl 62 #[.int .i64 0, .int .i64 0, .int .i64 0, .int .i64 0] (HG.out _ (HY.out.alloc HYS.out _)) info33 rfl (by simp [Value.oneCell']) ?_) | (go_at_call 153; refine (HS.out _ HB.out).mono ?_; rintro e y ⟨rfl, hy⟩; have HY := Lib.hid (show Below (w.heap.size + 1) W0 y from hy.mono (by rw [HSZ.out]; exact Nat.le_refl _)); have HYS := Lib.hid (show w.heap.size + 1 ≤ y.heap.size by have h1 := hy.size; rw [HSZ.out] at h1; exact h1); have HYW := Lib.hid (HB.out.trans (hy.mono HB.out.size))))
    refine ret_cell_tmp rfl rfl rfl rfl (setRow_heap _ _ _ _ _ _ (HG.out _ (HY.out.alloc HYS.out _))) Tryz.underlying62 rfl info33 ?_
    rw [HX.out]
    exact ⟨rfl, below_row1 (HYW.out.alloc (Nat.le_trans (by omega) HYS.out) _) (by omega)⟩

set_option maxRecDepth 100000 in
set_option maxHeartbeats 4000000 in
theorem findRate (a : Option Addr) (c : Nat) (L : List Item) (id : Int) (w : World) (hr : RowsOf 2 w a L) (hk : ItemsOk 2 2000 L) (hs : riseL lt1 L = true) :
    Calls Tryz.prog 146 #[.slice a L.length c, .int .i64 id, .func (.func 90) #[] #[]] w fun e w' => e = .returned (.tuple #[valI 2 (findL (is1 id) L), .bool (findL (is1 id) L).isSome]) ∧ Below w.heap.size w w' := by
  have HS := Lib.hid (fun W (h : Below w.heap.size w W) => placeRate a c L id W (hr.below h) hk hs)
  have HROW := Lib.hid hr
  have hkl := hk.1
  have HK := Lib.hid hk.2
  have hpl := posL_le (c1 id) L
  have hf := find_pos (mono1 id) (is1_c id) hs
  rw [hf]
  have hlt := @foundL_lt (c1 id) L
  clear hr hk hs hf
  generalize foundL (c1 id) L = FO at *
  generalize posL (c1 id) L = PO at *
  obtain ⟨R, hR⟩ : ∃ R, (if FO = true then L[PO]? else none) = R := ⟨_, rfl⟩
  rw [hR]
  have HR := Lib.hid hR
  clear hR
  obtain ⟨W0, hW0⟩ : ∃ W, w.alloc (.cells #[.int .i64 0, .int .i64 0] 64) = W := ⟨_, rfl⟩
  have HB := Lib.hid (show Below w.heap.size w W0 by rw [← hW0]; exact (Below.refl _ w).alloc (Nat.le_refl _) _)
  have HSZ := Lib.hid (show W0.heap.size = w.heap.size + 1 by rw [← hW0]; simp)
  have HG := Lib.hid (show ∀ W, Below (w.heap.size + 1) W0 W → W.heap[w.heap.size]? = some (.cells #[.int .i64 0, .int .i64 0] 64 (0, 0)) from fun W h => (h.block _ (by omega)).trans (by rw [← hW0]; exact heap_alloc_new w _))
  cases FO with
  | true =>
    have hlt := hlt rfl
    obtain ⟨x, hx⟩ : ∃ x, L[PO]? = some x := ⟨L[PO], by simp [hlt]⟩
    have HX := Lib.hid (HR.out.symm.trans ((if_pos rfl).trans hx))
    obtain ⟨b0, off, rfl, hb0, hcs⟩ := HROW.out.at hx
    obtain ⟨p, q, rfl⟩ := item2 (HK.out _ (List.mem_of_getElem? hx)).1
    have HCS := Lib.hid hcs
    clear hcs hx HR
    go_enter Tryz.func146, Tryz.ntmps146
    go_wp2_with (first | ((with_reducible refine atStore (ty := 64) (x := .tmp 6) (y := .tmp 24) rfl ?_); refine wpList_store_row rfl 64 (.tmp 6) (.tmp 24) rfl w.heap.size #[.int .i64 p, .int .i64 q] rfl rfl 64 #[.int .i64 0, .int .i64 0] (HG.out _ HY.out) info47 rfl (by simp [Value.oneCell']) ?_) | (go_at_call 154; refine (HS.out _ HB.out).mono ?_; rintro e y ⟨rfl, hy⟩; have HY := Lib.hid (show Below (w.heap.size + 1) W0 y from hy.mono (by rw [HSZ.out]; exact Nat.le_refl _)); have HYW := Lib.hid (HB.out.trans (hy.mono HB.out.size)); have m0 := HCS.out y HYW.out 0 p rfl; have m1 := HCS.out y HYW.out 1 q rfl; rw [Nat.add_zero] at m0))
    refine ret_cell_tmp rfl rfl rfl rfl (setRow_heap _ _ _ _ _ _ (HG.out _ HY.out)) Tryz.underlying64 rfl info47 ?_
    rw [HX.out]
    exact ⟨rfl, below_row1 HYW.out (by omega)⟩
  | false =>
    have HX := Lib.hid (HR.out.symm.trans (if_neg (by simp)))
    clear HR
    go_enter Tryz.func146, Tryz.ntmps146
    go_wp2_with (first | ((with_reducible refine atStore (ty := 64) (x := .tmp 6) (y := .tmp 20) rfl ?_); refine wpList_store_row rfl 64 (.tmp 6) (.tmp 20) rfl w.heap.size #[.int .i64 0, .int .i64 0] rfl rfl 64 #[.int .i64 0, .int .i64 0] (HG.out _ (HY.out.alloc HYS.out _)) info47 rfl (by simp [Value.oneCell']) ?_) | (go_at_call 154; refine (HS.out _ HB.out).mono ?_; rintro e y ⟨rfl, hy⟩; have HY := Lib.hid (show Below (w.heap.size + 1) W0 y from hy.mono (by rw [HSZ.out]; exact Nat.le_refl _)); have HYS := Lib.hid (show w.heap.size + 1 ≤ y.heap.size by have h1 := hy.size; rw [HSZ.out] at h1; exact h1); have HYW := Lib.hid (HB.out.trans (hy.mono HB.out.size))))
    refine ret_cell_tmp rfl rfl rfl rfl (setRow_heap _ _ _ _ _ _ (HG.out _ (HY.out.alloc HYS.out _))) Tryz.underlying64 rfl info47 ?_
    rw [HX.out]
    exact ⟨rfl, below_row1 (HYW.out.alloc (Nat.le_trans (by omega) HYS.out) _) (by omega)⟩
end Go.Proofs.YtnhljfhpfpfniaaGreat

namespace Go.Proofs.YtnhljfhpfpfniaaGreat
open Go.RowKit Base Base2

theorem valI_some {k : Nat} {p : Item → Bool} {l : List Item} {m : Nat} (h : ItemsOk k m l) : ∃ x : Item, valI k (findL p l) = aggI x ∧ x.length = k ∧ (x = match findL p l with | some y => y | none => List.replicate k 0) := by
  cases hf : findL p l with
  | none => exact ⟨_, rfl, by simp, rfl⟩
  | some x => exact ⟨x, rfl, (h.2 x (find_mem hf)).1, rfl⟩

set_option maxRecDepth 100000 in
set_option maxHeartbeats 4000000 in
theorem progHolder (v : Slots) (b : BookT) (id : Int) (w : World) (hb : BookIn w v b) (hk : ItemsOk 4 2000 b.hs) (hs : riseL lt1 b.hs = true) :
    Calls Tryz.prog 92 #[.agg (cellsB v b), .int .i64 id] w fun e w' => e = .returned (.tuple #[valH (findL (is1 id) b.hs), .bool (findL (is1 id) b.hs).isSome]) ∧ Below w.heap.size w w' := by
  obtain ⟨W0, hW0⟩ : ∃ W, (w.alloc (.cells (cellsB v b) 27)).alloc (.cells #[.int .i64 0, .int .i64 0, .int .i64 0, .int .i64 0] 62) = W := ⟨_, rfl⟩
  have hlo : Below w.heap.size w W0 := by rw [← hW0]; exact ((Below.refl _ w).alloc (Nat.le_refl _) _).alloc (by simp) _
  have hsz : W0.heap.size = w.heap.size + 2 := by rw [← hW0]; simp
  have hx : BoxB W0 w.heap.size v b ∧ W0.heap[w.heap.size + 1]? = some (.cells #[.int .i64 0, .int .i64 0, .int .i64 0, .int .i64 0] 62) := by rw [← hW0]; exact two_new
  obtain ⟨c0, c1, c2, c3, c4⟩ := hx.1.cells
  have HG := Lib.hid (show ∀ W, Below (w.heap.size + 2) W0 W → W.heap[w.heap.size + 1]? = some (.cells #[.int .i64 0, .int .i64 0, .int .i64 0, .int .i64 0] 62 (0, 0)) from fun W h => (h.block _ (by omega)).trans hx.2)
  have HLO := Lib.hid hlo
  have HSZ := Lib.hid hsz
  have HF := Lib.hid (fun W (h : Below w.heap.size w W) => findHolder v.h v.ch b.hs id W (hb.hs.below h) hk hs)
  have hval : valI 4 (findL (is1 id) b.hs) = valH (findL (is1 id) b.hs) := by cases findL (is1 id) b.hs <;> rfl
  obtain ⟨x, hx1, hx2, _⟩ := valI_some (p := is1 id) hk
  rw [← hval]
  rw [hx1] at HF ⊢
  obtain ⟨p, q, r, s, rfl⟩ := item4 hx2
  clear hx hlo hsz hb hk hs hval hx1 hx2
  generalize (findL (is1 id) b.hs).isSome = B1 at *
  unfold cellsB at *
  have HF2 := Lib.hid (show ∀ W, Below w.heap.size w W → Calls Tryz.prog 145 _ W (fun e w' => e = .returned (.tuple #[.agg #[.int .i64 p, .int .i64 q, .int .i64 r, .int .i64 s], .bool B1]) ∧ Below W.heap.size W w') from HF.out)
  clear HF
  show Calls Tryz.prog 92 _ w (fun e w' => e = .returned (.tuple #[.agg #[.int .i64 p, .int .i64 q, .int .i64 r, .int .i64 s], .bool B1]) ∧ Below w.heap.size w w')
  go_enter Tryz.func92, Tryz.ntmps92
  go_wp2_with (first | ((with_reducible refine atStore (ty := 62) (x := .tmp 4) (y := .tmp 10) rfl ?_); refine wpList_store_row rfl 62 (.tmp 4) (.tmp 10) rfl (w.heap.size + 1) #[.int .i64 p, .int .i64 q, .int .i64 r, .int .i64 s] rfl rfl 62 #[.int .i64 0, .int .i64 0, .int .i64 0, .int .i64 0] (HG.out _ HY.out) info33 rfl (by simp [Value.oneCell']) ?_) | (go_at_call 145; refine (HF2.out _ HLO.out).mono ?_; rintro e y ⟨rfl, hy⟩; have HY := Lib.hid (show Below (w.heap.size + 2) W0 y from hy.mono (by rw [HSZ.out]; exact Nat.le_refl _)); have HYW := Lib.hid (HLO.out.trans (hy.mono HLO.out.size))))
  refine ret_cell_tmp rfl rfl rfl rfl (setRow_heap _ _ _ _ _ _ (HG.out _ HY.out)) Tryz.underlying62 rfl info33 ?_
  exact ⟨rfl, below_row1 HYW.out (by omega)⟩

set_option maxRecDepth 100000 in
set_option maxHeartbeats 4000000 in
theorem progRate (v : Slots) (b : BookT) (id : Int) (w : World) (hb : BookIn w v b) (hk : ItemsOk 2 2000 b.rs) (hs : riseL lt1 b.rs = true) :
    Calls Tryz.prog 93 #[.agg (cellsB v b), .int .i64 id] w fun e w' => e = .returned (.tuple #[.int .i64 (valR (findL (is1 id) b.rs)), .bool (findL (is1 id) b.rs).isSome]) ∧ Below w.heap.size w w' := by
  obtain ⟨W0, hW0⟩ : ∃ W, (w.alloc (.cells (cellsB v b) 27)) = W := ⟨_, rfl⟩
  have hlo : Below w.heap.size w W0 := by rw [← hW0]; exact (Below.refl _ w).alloc (Nat.le_refl _) _
  have hx : BoxB W0 w.heap.size v b := by rw [← hW0]; exact BoxB.new w v b
  obtain ⟨c0, c1, c2, c3, c4⟩ := hx.cells
  have HLO := Lib.hid hlo
  have HF := Lib.hid (fun W (h : Below w.heap.size w W) => findRate v.r v.cr b.rs id W (hb.rs.below h) hk hs)
  obtain ⟨x, hx1, hx2, hx3⟩ := valI_some (p := is1 id) hk
  have hval : valR (findL (is1 id) b.rs) = key 1 x := by rw [hx3]; cases findL (is1 id) b.rs <;> rfl
  rw [hval]
  rw [hx1] at HF
  obtain ⟨p, q, rfl⟩ := item2 hx2
  clear hx hlo hb hk hs hval hx1 hx2 hx3
  generalize (findL (is1 id) b.rs).isSome = B1 at *
  unfold cellsB at *
  have HF2 := Lib.hid (show ∀ W, Below w.heap.size w W → Calls Tryz.prog 146 _ W (fun e w' => e = .returned (.tuple #[.agg #[.int .i64 p, .int .i64 q], .bool B1]) ∧ Below W.heap.size W w') from HF.out)
  clear HF
  show Calls Tryz.prog 93 _ w (fun e w' => e = .returned (.tuple #[.int .i64 q, .bool B1]) ∧ Below w.heap.size w w')
  go_enter Tryz.func93, Tryz.ntmps93
  go_upto_region 2 with (first | ((with_reducible refine atStore (ty := 64) (x := (.tmp 6)) (y := (.tmp 13)) rfl ?_); refine wpList_store_row rfl 64 (.tmp 6) (.tmp 13) rfl y.heap.size #[.int .i64 p, .int .i64 q] rfl rfl 64 #[.int .i64 0, .int .i64 0] (heap_alloc_new y _) info47 rfl (by simp [Value.oneCell']) ?_) | (go_at_call 146; refine (HF2.out _ HLO.out).mono ?_; rintro e y ⟨rfl, hy⟩))
  have hbB := hy.trans ((below_rowB ((Below.refl _ y).alloc (Nat.le_refl _) (.cells #[.int .i64 0, .int .i64 0] 64)) (Nat.le_refl _) (ks := #[.int .i64 p, .int .i64 q])).mono hy.size)
  refine at_world (Φ := fun W => Below w.heap.size w W ∧ W.cell? ⟨y.heap.size, 1, none⟩ = some (.int .i64 q)) ⟨HLO.out.trans (hbB.mono HLO.out.size), cell_of_row _ _ 1 _ 64 (0, 0) (setRow_heap _ _ _ _ _ _ (heap_alloc_new y _))⟩ ?_
  clear hbB hy HLO HF2 c0 c1 c2 c3 c4
  rintro W3 ⟨hb3, hc3⟩
  have HB3 := Lib.hid hb3
  clear hb3
  go_wp2
  go_ret2
  exact ⟨rfl, HB3.out⟩
end Go.Proofs.YtnhljfhpfpfniaaGreat
