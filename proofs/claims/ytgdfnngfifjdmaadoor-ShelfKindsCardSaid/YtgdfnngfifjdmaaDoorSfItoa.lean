/- The program's names of files: a letter and strconv.Itoa's digits, with its table of powers as the text lays it. -/
import Derived.Test.YtgdfnngfifjdmaaDoorSfLaw
import Derived.Test.YtgdfnngfifjdmaaDoorShelf
import Derived.Lib.LaidTab
namespace Go.Proofs.YtgdfnngfifjdmaaDoor
open Go.RowKit Base Base2

/-- The table of powers of ten lies as its text lays it. -/
def PowAt (W : World) : Prop := Lib.TabIs Tryd.prog W "internal/strconv.uint64pow10" .u64 Lib.pow10Tab
theorem gPow : Tryd.prog.globalNamed "internal/strconv.uint64pow10" = some 0 := by kernel_rfl
theorem pow_keep (W W' : World) (h : PowAt W) (hb : Below W.heap.size W W') : PowAt W' := by
  unfold PowAt Lib.TabIs World.var? at *
  rw [gPow] at *
  rcases Nat.eq_zero_or_pos W.heap.size with h0 | h0
  · have hn : W.heap[0]? = none := Array.getElem?_eq_none (by omega)
    simp [hn] at h
  · simpa [hb.block 0 h0] using h
theorem dec_itoa : ∀ k : Nat, Lib.decDigits k = decL k := by
  intro k
  induction k using Nat.strongRecOn with
  | _ k ih =>
    by_cases h : k < 10
    · rw [Lib.decDigits_one h, decL_small h]
    · rw [Lib.decDigits, dif_neg h, decL_more h, ih (k / 10) (by omega)]
theorem itoa_dec (k : Nat) : (⟨(Lib.itoa (k : Int)).toArray⟩ : ByteArray) = decB k := by rw [Lib.itoa_nonneg, dec_itoa]; rfl
theorem below_grow (w : World) (k : Nat) (os : Array Obj) : Below w.heap.size w (Sort.grow (w.drewN k) os) :=
  (below_drews k).trans ⟨rfl, rfl, rfl, by simp [Sort.grow], fun i hi => Sort.heap_grow_old (w.drewN k) os (k := i) hi⟩
theorem itoa18 (k : Nat) (hk : k ≤ 1099511627776) (w : World) (hT : PowAt w) : Calls Tryd.prog 18 #[.int .i64 (k : Int)] w fun e w' => e = .returned (.string (decB k)) ∧ Below w.heap.size w w' := by
  refine (shstrconv_Itoa (k : Int) (by omega) (by omega) w hT).mono ?_
  rintro e w' ⟨rfl, q, os, rfl⟩
  exact ⟨by rw [itoa_dec], below_grow w q os⟩

theorem conv_s (W : World) : (convert 21 9 (.int .i32 115)).run Tryd.prog W = .ok (.string ⟨#[115]⟩) W := by kernel_rfl
theorem conv_c (W : World) : (convert 21 9 (.int .i32 99)).run Tryd.prog W = .ok (.string ⟨#[99]⟩) W := by kernel_rfl

set_option maxRecDepth 100000 in
theorem name16s (n : Int) (w : World) (hT : PowAt w) (hn : n ≤ 9223372036854775807) : Calls Tryd.prog 16 #[.int .i32 115, .int .i64 n] w fun e w' => e = .returned (.string (nameB 115 n)) ∧ Below w.heap.size w w' := by
  have hcv := conv_s
  by_cases h1 : n < 0
  · rw [nameB_no (.inl h1)]
    go_enter Tryd.func16, Tryd.ntmps16
    go_wp2
    go_ret
    exact ⟨rfl, Below.refl _ _⟩
  by_cases h2 : 1099511627776 < n
  · rw [nameB_no (.inr h2)]
    go_enter Tryd.func16, Tryd.ntmps16
    go_wp2
    go_ret
    exact ⟨rfl, Below.refl _ _⟩
  obtain ⟨k, rfl⟩ := Int.eq_ofNat_of_zero_le (show 0 ≤ n by omega)
  rw [nameB_yes _ k (by omega)]
  have HD := Lib.hid (itoa18 k (by omega) w hT)
  have hs := decB_len k (by omega)
  have hsum : ¬ 9223372036854775807 < 1 + (decB k).size := by omega
  generalize decB k = D at *
  clear hs hn hT
  go_enter Tryd.func16, Tryd.ntmps16
  go_wp2_with (go_at_call 18; refine HD.out.mono ?_; rintro e w1 ⟨rfl, hb⟩; have HB := Lib.hid hb; clear hb)
  go_ret
  exact ⟨rfl, HB.out⟩

set_option maxRecDepth 100000 in
theorem name16c (n : Int) (w : World) (hT : PowAt w) (hn : n ≤ 9223372036854775807) : Calls Tryd.prog 16 #[.int .i32 99, .int .i64 n] w fun e w' => e = .returned (.string (nameB 99 n)) ∧ Below w.heap.size w w' := by
  have hcv := conv_c
  by_cases h1 : n < 0
  · rw [nameB_no (.inl h1)]
    go_enter Tryd.func16, Tryd.ntmps16
    go_wp2
    go_ret
    exact ⟨rfl, Below.refl _ _⟩
  by_cases h2 : 1099511627776 < n
  · rw [nameB_no (.inr h2)]
    go_enter Tryd.func16, Tryd.ntmps16
    go_wp2
    go_ret
    exact ⟨rfl, Below.refl _ _⟩
  obtain ⟨k, rfl⟩ := Int.eq_ofNat_of_zero_le (show 0 ≤ n by omega)
  rw [nameB_yes _ k (by omega)]
  have HD := Lib.hid (itoa18 k (by omega) w hT)
  have hs := decB_len k (by omega)
  have hsum : ¬ 9223372036854775807 < 1 + (decB k).size := by omega
  generalize decB k = D at *
  clear hs hn hT
  go_enter Tryd.func16, Tryd.ntmps16
  go_wp2_with (go_at_call 18; refine HD.out.mono ?_; rintro e w1 ⟨rfl, hb⟩; have HB := Lib.hid hb; clear hb)
  go_ret
  exact ⟨rfl, HB.out⟩

set_option maxRecDepth 100000 in
theorem seg7 (n : Int) (w : World) (hT : PowAt w) (hn : n ≤ 9223372036854775807) : Calls Tryd.prog 7 #[.int .i64 n] w fun e w' => e = .returned (.string (nameB 115 n)) ∧ Below w.heap.size w w' := by
  have HN := Lib.hid (name16s n w hT hn)
  clear hT hn
  go_enter Tryd.func7, Tryd.ntmps7
  go_wp2_with (go_at_call 16; refine HN.out.mono ?_; rintro e w1 ⟨rfl, hb⟩; have HB := Lib.hid hb; clear hb)
  go_ret
  exact ⟨rfl, HB.out⟩
set_option maxRecDepth 100000 in
theorem col8 (n : Int) (w : World) (hT : PowAt w) (hn : n ≤ 9223372036854775807) : Calls Tryd.prog 8 #[.int .i64 n] w fun e w' => e = .returned (.string (nameB 99 n)) ∧ Below w.heap.size w w' := by
  have HN := Lib.hid (name16c n w hT hn)
  clear hT hn
  go_enter Tryd.func8, Tryd.ntmps8
  go_wp2_with (go_at_call 16; refine HN.out.mono ?_; rintro e w1 ⟨rfl, hb⟩; have HB := Lib.hid hb; clear hb)
  go_ret
  exact ⟨rfl, HB.out⟩
theorem heads15 (w : World) : Calls Tryd.prog 15 #[] w fun e w' => e = .returned (.string headsB) ∧ Below w.heap.size w w' := by
  unfold headsB
  go_enter Tryd.func15, Tryd.ntmps15
  go_wp2
  go_ret
  exact ⟨rfl, Below.refl _ _⟩
end Go.Proofs.YtgdfnngfifjdmaaDoor
