/- The example of the shelf's laws; the walks of ShelfNames and ShelfKinds: given a contract for each call of the program. -/
import Derived.Test.YtgdfnngfifjdmaaDoorSfNums
import Derived.Lib.Strings
namespace Go.Proofs.YtgdfnngfifjdmaaDoor
open Go.RowKit Base Base2

/-- What the laws ask of the program's calls. -/
structure ShelfC (K : World → Prop) : Prop where
  keep : ∀ (W W' : World), K W → Below W.heap.size W W' → K W'
  seg : ∀ (n : Int) (W : World), K W → -9223372036854775808 ≤ n ∧ n ≤ 9223372036854775807 → Calls Tryd.prog 7 #[.int .i64 n] W fun e w' => e = .returned (.string (nameB 115 n)) ∧ Below W.heap.size W w'
  col : ∀ (n : Int) (W : World), K W → -9223372036854775808 ≤ n ∧ n ≤ 9223372036854775807 → Calls Tryd.prog 8 #[.int .i64 n] W fun e w' => e = .returned (.string (nameB 99 n)) ∧ Below W.heap.size W w'
  kind : ∀ (s : ByteArray) (W : World), s.size ≤ 300 → Calls Tryd.prog 11 #[.string s] W fun e w' => e = .returned (kindV (kindS s)) ∧ Below W.heap.size W w'
  heads : ∀ (W : World), Calls Tryd.prog 15 #[] W fun e w' => e = .returned (.string headsB) ∧ Below W.heap.size W w'
theorem ShelfC.kindOf {K : World → Prop} (C : ShelfC K) {s : ByteArray} {a b : Int} {c : Bool} (h : kindS s = (a, b, c)) (hs : s.size ≤ 300) (W : World) : Calls Tryd.prog 11 #[.string s] W fun e w' => e = .returned (.tuple #[.int .i64 a, .int .i64 b, .bool c]) ∧ Below W.heap.size W w' := by
  have := C.kind s W hs
  rw [h] at this
  exact this

theorem decL_zero : decL 0 = [48] := by rw [decL_small (by omega)]; rfl
theorem decL_one : decL 1 = [49] := by rw [decL_small (by omega)]; rfl
theorem decL_twelve : decL 12 = [49, 50] := by rw [decL_more (by omega), show 12 / 10 = 1 from rfl, decL_one]; rfl
theorem al_c0 : kindS ⟨#[99, 48]⟩ = (2, 0, true) := by
  have h := kindS_col 0 (by omega)
  rwa [show nameB 99 ((0 : Nat) : Int) = ⟨#[99, 48]⟩ by rw [nameB_yes 99 0 (by omega)]; unfold decB; rw [decL_zero]; rfl] at h
theorem al_s12 : nameB 115 12 = ⟨#[115, 49, 50]⟩ := by
  rw [show (12 : Int) = ((12 : Nat) : Int) from rfl, nameB_yes 115 12 (by omega)]; unfold decB; rw [decL_twelve]; rfl
theorem al_s01 : kindS ⟨#[115, 48, 49]⟩ = (0, 0, false) := by
  have hv : valL 0 ((⟨#[115, 48, 49]⟩ : ByteArray).data.toList.drop 1) = some 1 := rfl
  rw [kindS_some (by decide) (by decide) hv, if_neg (by omega), nameB_yes 115 1 (by omega), nameB_yes 99 1 (by omega), if_neg, if_neg]
  · unfold decB; rw [decL_one]; decide
  · unfold decB; rw [decL_one]; decide
theorem eq_s12 : ((⟨#[115, 49, 50]⟩ : ByteArray).toList == [115, 49, 50]) = true := by rw [ByteArray.toList_eq]; rfl

set_option maxRecDepth 100000 in
set_option maxHeartbeats 4000000 in
theorem alive6S {K : World → Prop} (C : ShelfC K) (w : World) (hK : K w) : Calls Tryd.prog 6 #[] w fun e w' => e = .returned (.bool true) ∧ Below w.heap.size w w' := by
  have H1 := Lib.hid (fun W => C.kindOf al_c0 (by decide) W)
  have H2 := Lib.hid (fun W => C.kindOf al_s01 (by decide) W)
  have H3 : Hid (∀ W : World, Below w.heap.size w W → Calls Tryd.prog 7 #[.int .i64 12] W fun e w' => e = .returned (.string ⟨#[115, 49, 50]⟩) ∧ Below W.heap.size W w') := fun W hb => by
    have h := C.seg 12 W (C.keep w W hK hb) (by omega)
    rwa [al_s12] at h
  have H4 := Lib.hid (fun W => C.heads W)
  unfold headsB at H4
  clear C
  go_enter Tryd.func6, Tryd.ntmps6
  go_wp2_with (first
    | (go_at_call 11; refine (H1.out _).mono ?_; rintro e w1 ⟨rfl, hb⟩; have L1 := Lib.hid hb; clear hb H1)
    | (go_at_call 11; refine (H2.out _).mono ?_; rintro e w2 ⟨rfl, hb⟩; have L2 := Lib.hid (L1.out.trans (hb.mono L1.out.size)); clear hb)
    | (go_at_call 7; refine (H3.out _ L2.out).mono ?_; rintro e w3 ⟨rfl, hb⟩; have L3 := Lib.hid (L2.out.trans (hb.mono L2.out.size)); clear hb)
    | (go_at_call 15; refine (H4.out _).mono ?_; rintro e w4 ⟨rfl, hb⟩; have L4 := Lib.hid (L3.out.trans (hb.mono L3.out.size)); clear hb))
  go_ret
  exact ⟨rfl, L4.out⟩

set_option maxRecDepth 100000 in
set_option maxHeartbeats 4000000 in
theorem kinds4S {K : World → Prop} (C : ShelfC K) (s : ByteArray) (w : World) (hK : K w) (hs : s.size ≤ maxLen) : Calls Tryd.prog 4 #[.string s] w fun e w' => e = .returned (.bool true) ∧ Below w.heap.size w w' := by
  have HA := Lib.hid (alive6S C w hK)
  unfold maxLen at hs
  by_cases h3 : (300 : Int) < (s.size : Int)
  · clear C
    go_enter Tryd.func4, Tryd.ntmps4
    go_wp2_with (go_at_call 6; refine HA.out.mono ?_; rintro e w1 ⟨rfl, hb⟩; have L1 := Lib.hid hb; clear hb)
    go_ret
    exact ⟨rfl, L1.out⟩
  obtain ⟨q1, q2, q3, hq⟩ : ∃ q1 q2 q3, kindS s = (q1, q2, q3) := ⟨_, _, _, rfl⟩
  have H1 := Lib.hid (fun W => C.kindOf hq (by omega) W)
  have H2 : Hid (∀ W : World, Calls Tryd.prog 12 #[.string s] W fun e w' => e = .returned (.tuple #[.int .i64 q1, .int .i64 q2, .bool q3]) ∧ w' = W) := fun W => by
    have h := rkind12 s W (by unfold maxLen; omega)
    rw [hq] at h
    exact h
  have g1 : (q1 == q1) = true := by simp
  have g2 : (q2 == q2) = true := by simp
  have g3 : (q3 == q3) = true := by simp
  clear C hq
  go_enter Tryd.func4, Tryd.ntmps4
  go_wp2_with (first
    | (go_at_call 6; refine HA.out.mono ?_; rintro e w1 ⟨rfl, hb⟩; have L1 := Lib.hid hb; clear hb)
    | (go_at_call 11; refine (H1.out _).mono ?_; rintro e w2 ⟨rfl, hb⟩; have L2 := Lib.hid (L1.out.trans (hb.mono L1.out.size)); clear hb)
    | (go_at_call 12; refine (H2.out _).mono ?_; rintro e w3 ⟨rfl, rfl⟩))
  go_ret
  exact ⟨rfl, L2.out⟩

set_option maxRecDepth 100000 in
set_option maxHeartbeats 4000000 in
theorem names3S {K : World → Prop} (C : ShelfC K) (n : Int) (w : World) (hK : K w) (hn : -9223372036854775808 ≤ n ∧ n ≤ 9223372036854775807) : Calls Tryd.prog 3 #[.int .i64 n] w fun e w' => e = .returned (.bool true) ∧ Below w.heap.size w w' := by
  have HA := Lib.hid (alive6S C w hK)
  have H1 := Lib.hid (fun W (hb : Below w.heap.size w W) => C.seg n W (C.keep w W hK hb) hn)
  have H2 := Lib.hid (fun W (hb : Below w.heap.size w W) => C.col n W (C.keep w W hK hb) hn)
  have H3 := Lib.hid (fun W => rseg9 n W hn.2)
  have H4 := Lib.hid (fun W => rcol10 n W hn.2)
  by_cases hno : n < 0 ∨ 1099511627776 < n
  · rw [nameB_no hno] at H1 H2 H3 H4
    clear C
    have e0 : ((⟨#[]⟩ : ByteArray).toList == (⟨#[]⟩ : ByteArray).toList) = true := by simp
    have key : ∀ (b : Bool) (_ : decide (n < 0) = b) (_ : b = false → (1099511627776 : Int) < n), Calls Tryd.prog 3 #[.int .i64 n] w fun e w' => e = .returned (.bool true) ∧ Below w.heap.size w w' := by
      intro b hb hb2
      cases b with
      | true =>
        have k1 : n < 0 := of_decide_eq_true hb
        clear hb hb2 hno
        go_enter Tryd.func3, Tryd.ntmps3
        go_wp2_with (first
          | (go_at_call 6; refine HA.out.mono ?_; rintro e w1 ⟨rfl, hb⟩; have L1 := Lib.hid hb; clear hb)
          | (go_at_call 7; refine (H1.out _ L1.out).mono ?_; rintro e w2 ⟨rfl, hb⟩; have L2 := Lib.hid (L1.out.trans (hb.mono L1.out.size)); clear hb)
          | (go_at_call 8; refine (H2.out _ L2.out).mono ?_; rintro e w3 ⟨rfl, hb⟩; have L3 := Lib.hid (L2.out.trans (hb.mono L2.out.size)); clear hb)
          | (go_at_call 9; refine (H3.out _).mono ?_; rintro e w4 ⟨rfl, rfl⟩)
          | (go_at_call 10; refine (H4.out _).mono ?_; rintro e w5 ⟨rfl, rfl⟩))
        go_ret
        exact ⟨rfl, L3.out⟩
      | false =>
        have k1 : ¬ n < 0 := of_decide_eq_false hb
        have k2 := hb2 rfl
        clear hb hb2 hno
        go_enter Tryd.func3, Tryd.ntmps3
        go_wp2_with (first
          | (go_at_call 6; refine HA.out.mono ?_; rintro e w1 ⟨rfl, hb⟩; have L1 := Lib.hid hb; clear hb)
          | (go_at_call 7; refine (H1.out _ L1.out).mono ?_; rintro e w2 ⟨rfl, hb⟩; have L2 := Lib.hid (L1.out.trans (hb.mono L1.out.size)); clear hb)
          | (go_at_call 8; refine (H2.out _ L2.out).mono ?_; rintro e w3 ⟨rfl, hb⟩; have L3 := Lib.hid (L2.out.trans (hb.mono L2.out.size)); clear hb)
          | (go_at_call 9; refine (H3.out _).mono ?_; rintro e w4 ⟨rfl, rfl⟩)
          | (go_at_call 10; refine (H4.out _).mono ?_; rintro e w5 ⟨rfl, rfl⟩))
        go_ret
        exact ⟨rfl, L3.out⟩
    exact key _ rfl (fun h => hno.resolve_left (of_decide_eq_false h))
  obtain ⟨k, rfl⟩ : ∃ k : Nat, n = (k : Int) := ⟨n.toNat, by omega⟩
  have hk : k ≤ 1099511627776 := by omega
  have la := nameB_len 115 k hk
  have lc := nameB_len 99 k hk
  have H5 := Lib.hid (fun W => C.kindOf (kindS_seg k hk) (by omega) W)
  have H6 := Lib.hid (fun W => C.kindOf (kindS_col k hk) (by omega) W)
  have hne : nameB 115 (k : Int) ≠ nameB 99 (k : Int) := nameB_ne 115 99 (by decide) k k hk hk
  have he : nameB 115 (k : Int) ≠ ⟨#[]⟩ := by intro h; rw [h] at la; exact absurd la.1 (by decide)
  obtain ⟨A, hA⟩ : ∃ A, nameB 115 (k : Int) = A := ⟨_, rfl⟩
  obtain ⟨B, hB⟩ : ∃ B, nameB 99 (k : Int) = B := ⟨_, rfl⟩
  rw [hA] at H1 H3 H5 he hne
  rw [hB] at H2 H4 H6 hne
  have eA : (A.toList == A.toList) = true := by simp
  have eB : (B.toList == B.toList) = true := by simp
  have e0 : (A.toList == (⟨#[]⟩ : ByteArray).toList) = false := str_neS he
  have e1 : A.toList.isEmpty = false := by
    cases hq : A.toList with
    | nil =>
      have h5 : (A.toList == (⟨#[]⟩ : ByteArray).toList) = true := by rw [hq, ByteArray.toList_eq]; rfl
      rw [h5] at e0; cases e0
    | cons a b => rfl
  have g1 : ((k : Int) == (k : Int)) = true := by simp
  clear C hA hB la lc he hno
  go_enter Tryd.func3, Tryd.ntmps3
  go_wp2_with (first
    | (go_at_call 6; refine HA.out.mono ?_; rintro e w1 ⟨rfl, hb⟩; have L1 := Lib.hid hb; clear hb)
    | (go_at_call 7; refine (H1.out _ L1.out).mono ?_; rintro e w2 ⟨rfl, hb⟩; have L2 := Lib.hid (L1.out.trans (hb.mono L1.out.size)); clear hb)
    | (go_at_call 8; refine (H2.out _ L2.out).mono ?_; rintro e w3 ⟨rfl, hb⟩; have L3 := Lib.hid (L2.out.trans (hb.mono L2.out.size)); clear hb)
    | (go_at_call 9; refine (H3.out _).mono ?_; rintro e w4 ⟨rfl, rfl⟩)
    | (go_at_call 10; refine (H4.out _).mono ?_; rintro e w5 ⟨rfl, rfl⟩)
    | (go_at_call 11; refine (H5.out _).mono ?_; rintro e w6 ⟨rfl, hb⟩; have L6 := Lib.hid (L3.out.trans (hb.mono L3.out.size)); clear hb H5)
    | (go_at_call 11; refine (H6.out _).mono ?_; rintro e w7 ⟨rfl, hb⟩; have L7 := Lib.hid (L6.out.trans (hb.mono L6.out.size)); clear hb))
  go_ret
  exact ⟨rfl, L7.out⟩

end Go.Proofs.YtgdfnngfifjdmaaDoor
