/- The walk of NumsReads: whatever acts on both readers, the program's and the document's: it returns true and writes nothing that was there. -/
import Derived.Test.YtedkjiheanmkeaaRefRow
import Derived.Test.YtedkjiheanmkeaaAlive
import Derived.BigQuiet
import Derived.Deep.QuietTactic
import Derived.Deep.SlicePairs
namespace Go.Proofs.Ytedkjiheanmkeaa
open Go.RowKit

theorem ext_ext (S : ByteArray) (P k : Nat) (hP : P ≤ S.size) : (S.extract P S.size).extract k (S.extract P S.size).size = S.extract (P + k) S.size := by
  apply ByteArray.ext
  have e : (S.extract P S.size).size = S.size - P := by simp [ByteArray.size_extract]
  rw [e]
  simp only [ByteArray.data_extract, Array.extract_extract]
  congr 1
  omega

/-- Both readers stand at the same place, with the same fault. -/
theorem pair_after {W : World} {p q : Nat} {S : ByteArray} {P : Nat} {e k er : Int} (hX : RdX W p (AfterX (S.extract P S.size) e k er).1 (AfterX (S.extract P S.size) e k er).2)
    (hY : RdY W q S (AfterY P e k er).1 (AfterY P e k er).2) (hP : P ≤ S.size) (hk : k ≤ ((S.extract P S.size).size : Int)) :
    ∃ (P' : Nat) (e' : Int), P' ≤ S.size ∧ RdX W p (S.extract P' S.size) e' ∧ RdY W q S P' e' := by
  have hz : (S.extract P S.size).size = S.size - P := by simp [ByteArray.size_extract]
  unfold AfterX at hX
  unfold AfterY at hY
  by_cases h : e = 0
  · rw [if_pos h] at hX hY
    by_cases h2 : er = 0
    · rw [if_pos h2] at hX hY
      rw [ext_ext S P _ hP] at hX
      exact ⟨_, _, by rw [hz] at hk; omega, hX, hY⟩
    · rw [if_neg h2] at hX hY
      exact ⟨_, _, hP, hX, hY⟩
  · rw [if_neg h] at hX hY
    exact ⟨_, _, hP, hX, hY⟩

theorem fault22q (p : Nat) (s : ByteArray) (e : Int) (w : World) (hX : RdX w p s e) :
    Calls Try.prog 22 #[.pointer (some ⟨p, 0, none⟩)] w fun x w' => x = .returned (.int .i64 e) ∧ w' = w := (fault22 p s e w hX).mono fun _ _ h => ⟨h.1, h.2.symm⟩
theorem left23q (p : Nat) (s : ByteArray) (e : Int) (w : World) (hX : RdX w p s e) :
    Calls Try.prog 23 #[.pointer (some ⟨p, 0, none⟩)] w fun x w' => x = .returned (.int .i64 (s.size : Int)) ∧ w' = w := (left23 p s e w hX).mono fun _ _ h => ⟨h.1, h.2.symm⟩
theorem RdX.drewN {w : World} {p : Nat} {s : ByteArray} {e : Int} (h : RdX w p s e) (n : Nat) : RdX (w.drewN n) p s e := h
theorem below_drewN' {B : Nat} {a w : World} (h : Below B a w) (n : Nat) : Below B a (w.drewN n) := ⟨h.os, h.tape, h.output, h.size, h.block⟩

/-- What is known of the list of acts that came in. -/
def ActRow (w : World) (a : Option Addr) (len : Nat) : Prop :=
  len = 0 ∨ ∃ b off, a = some ⟨b, off, none⟩ ∧ b < w.heap.size ∧ ∀ i, i < len → ∃ k n : Int, w.cell? ⟨b, off + i * 2, none⟩ = some (.int .u8 k) ∧ w.cell? ⟨b, off + i * 2 + 1, none⟩ = some (.int .i64 n) ∧ 0 ≤ k ∧ k ≤ 255 ∧ -9223372036854775808 ≤ n ∧ n ≤ 9223372036854775807

/-- What the loop holds. -/
def ReadsRel (w : World) (S : ByteArray) (p q len : Nat) (b7 : Value) (W : World) : Prop :=
  ∃ (k P : Nat) (e : Int), k ≤ len ∧ b7 = .int .i64 k ∧ P ≤ S.size ∧ RdX W p (S.extract P S.size) e ∧ RdY W q S P e ∧ Below w.heap.size w W

set_option maxRecDepth 100000 in
set_option maxHeartbeats 4000000 in
theorem walk5 (S : ByteArray) (a : Option Addr) (len cap : Nat) (w : World) (hA : ActRow w a len) :
    Calls Try.prog 5 #[.string S, .slice a len cap] w fun e w' => e = .returned (.bool true) ∧ Below w.heap.size w w' := by
  by_cases hs : 2000 < S.size
  · have hd : decide (2000 < (S.size : Int)) = true := by simp; omega
    go_enter Try.func5, Try.ntmps5
    go_wp2_with (go_at_call 7; refine (alive7 _).mono ?_; rintro x w1 ⟨rfl, hq1⟩)
    go_ret
    exact ⟨rfl, hq1⟩
  · have hd : decide (2000 < (S.size : Int)) = false := by simp; omega
    by_cases hl2 : 40 < len
    · go_enter Try.func5, Try.ntmps5
      go_wp2_with (go_at_call 7; refine (alive7 _).mono ?_; rintro x w1 ⟨rfl, hq1⟩)
      go_ret
      exact ⟨rfl, hq1⟩
    · have hS : S.size ≤ 1000000 := by omega
      have HA := Lib.hid hA; clear hA
      have hl3 : ¬ (40 : Int) < (len : Int) := by omega
      go_enter Try.func5, Try.ntmps5
      go_wp2_with (first
        | (go_at_call 7; refine (alive7 _).mono ?_; rintro x w1 ⟨rfl, hq1⟩)
        | (go_at_call 18; refine (read18 _ _).mono ?_; rintro x w2 ⟨rfl, hX, hq2⟩; have HX := Lib.hid hX; clear hX)
        | (go_at_call 25; refine (of25 _ _).mono ?_; rintro x w3 ⟨rfl, hY, hq3⟩; have HY := Lib.hid hY; clear hY))
      have hXY : RdX w3 w1.heap.size (S.extract 0 S.size) 0 := by
        have e : S.extract 0 S.size = S := by rw [Lib.extract_eq, List.drop_zero, Nat.sub_zero, List.take_of_length_le (by rw [Lib.size_eq]; omega), Lib.mk_data]
        rw [e]; exact HX.out.below hq3 HX.out.lt
      have s1 := hq1.size; have s2 := hq2.size; have s3 := hq3.size
      have HB3 := Lib.hid ((hq1.trans (hq2.mono s1)).trans (hq3.mono (by omega)))
      have hpq := HX.out.lt
      have HXY := Lib.hid hXY
      clear hXY HX hq1 hq2 hq3
      generalize hp : w1.heap.size = p at *
      generalize hq : w2.heap.size = q at *
      clear hp hq w1 w2
      go_loopw [7] (fun b7 W => ReadsRel w S p q len b7 W) (fun b7 _ => len - (intOf b7).toNat)
      case atStart => exact ⟨0, 0, 0, Nat.zero_le _, rfl, Nat.zero_le _, HXY.out, HY.out, HB3.out⟩
      case round =>
        obtain ⟨k, P, e, hk, rfl, hP, hX, hY, hb⟩ := hrel
        by_cases hlt : k < len
        · obtain ⟨b, off, rfl, hbw, hcells⟩ : ∃ b off, a = some ⟨b, off, none⟩ ∧ b < w.heap.size ∧ ∀ i, i < len → ∃ k n : Int, w.cell? ⟨b, off + i * 2, none⟩ = some (.int .u8 k) ∧ w.cell? ⟨b, off + i * 2 + 1, none⟩ = some (.int .i64 n) ∧ 0 ≤ k ∧ k ≤ 255 ∧ -9223372036854775808 ≤ n ∧ n ≤ 9223372036854775807 := by
            rcases HA.out with h0 | h
            · omega
            · exact h
          obtain ⟨kd, n, c0, c1, k1, k2, n1, n2⟩ := hcells k hlt
          have d0 := (hb.cell (p := ⟨b, off + k * 2, none⟩) hbw).trans c0
          have d1 := (hb.cell (p := ⟨b, off + k * 2 + 1, none⟩) hbw).trans c1
          have HX := Lib.hid hX
          have HY2 := Lib.hid hY
          have HB := Lib.hid hb
          clear hX hY hb c0 c1 hcells HXY HY HB3
          rcases (show kd % 5 = 0 ∨ kd % 5 = 1 ∨ kd % 5 = 2 ∨ kd % 5 = 3 ∨ kd % 5 = 4 from by omega) with hm | hm | hm | hm | hm
          · go_wp2_with (first
              | (go_at_call 19; refine (num19 _ _ _ _ _ (by simp [ByteArray.size_extract]; omega) HX.out).mono ?_; rintro x w4 ⟨rfl, hX4, hg4⟩; have HX4 := Lib.hid hX4; clear hX4; have HY4 := Lib.hid (HY2.out.grown hg4 (by simp; omega)))
              | (go_at_call 26; refine (num26 _ _ _ _ _ _ hS hP HY4.out).mono ?_; rintro x w5 ⟨rfl, hY5, hg5⟩; obtain ⟨P', e', hP', hX5, hY5⟩ := pair_after (HX4.out.grown hg5 (by simp; omega)) hY5 hP (by have := numTo_le (S.extract P S.size) (fun m => decide ((m : Int) ≤ IntKind.u64.wrap n)); omega); have HX5 := Lib.hid hX5; have HY5 := Lib.hid hY5; clear hX5 hY5))
            have cE := HY5.out.c2
            go_quiet (first
              | (go_at_call 22; exact Calls.quiet_of_same (fault22q _ _ _ _ (HX5.out.drewN _)))
              | (go_at_call 23; exact Calls.quiet_of_same (left23q _ _ _ _ (HX5.out.drewN _)))
              | (go_at_call 32; exact Calls.quiet_of (left32 _ _ _ _ _ hS hP' (HY5.out.drewN _))))
            go_wp2
            go_roundw
            case rel => exact ⟨k + 1, P', e', by omega, by go_num, hP', HX5.out.drewN _, HY5.out.drewN _, below_drewN' (below_own (below_own HB.out hg4 s1) hg5 (by omega)) _⟩
            case measure => simp [intOf]; omega
          · go_wp2_with (first
              | (go_at_call 20; refine (int20 _ _ _ _ (by simp [ByteArray.size_extract]; omega) HX.out).mono ?_; rintro x w4 ⟨rfl, hX4, hg4⟩; have HX4 := Lib.hid hX4; clear hX4; have HY4 := Lib.hid (HY2.out.grown hg4 (by simp; omega)))
              | (go_at_call 27; refine (int27 _ _ _ _ _ hS hP HY4.out).mono ?_; rintro x w5 ⟨rfl, hY5, hg5⟩; obtain ⟨P', e', hP', hX5, hY5⟩ := pair_after (HX4.out.grown hg5 (by simp; omega)) hY5 hP (by have := num_le (S.extract P S.size); omega); have HX5 := Lib.hid hX5; have HY5 := Lib.hid hY5; clear hX5 hY5))
            have cE := HY5.out.c2
            go_quiet (first
              | (go_at_call 22; exact Calls.quiet_of_same (fault22q _ _ _ _ (HX5.out.drewN _)))
              | (go_at_call 23; exact Calls.quiet_of_same (left23q _ _ _ _ (HX5.out.drewN _)))
              | (go_at_call 32; exact Calls.quiet_of (left32 _ _ _ _ _ hS hP' (HY5.out.drewN _))))
            go_wp2
            go_roundw
            case rel => exact ⟨k + 1, P', e', by omega, by go_num, hP', HX5.out.drewN _, HY5.out.drewN _, below_drewN' (below_own (below_own HB.out hg4 s1) hg5 (by omega)) _⟩
            case measure => simp [intOf]; omega
          · go_wp2_with (first
              | (go_at_call 21; refine (row21 _ _ _ _ _ (by simp [ByteArray.size_extract]; omega) n2 HX.out).mono ?_; rintro x w4 ⟨rfl, hX4, hg4⟩; have HX4 := Lib.hid hX4; clear hX4; have HY4 := Lib.hid (HY2.out.grown hg4 (by simp; omega)))
              | (go_at_call 28; refine (row28 _ _ _ _ _ _ hS hP n1 n2 HY4.out).mono ?_; rintro x w5 ⟨rfl, hY5, hg5⟩; obtain ⟨P', e', hP', hX5, hY5⟩ := pair_after (HX4.out.grown hg5 (by simp; omega)) hY5 hP (by have := (rowR_k (S.extract P S.size) n).2; omega); have HX5 := Lib.hid hX5; have HY5 := Lib.hid hY5; clear hX5 hY5))
            have cE := HY5.out.c2
            go_quiet (first
              | (go_at_call 22; exact Calls.quiet_of_same (fault22q _ _ _ _ (HX5.out.drewN _)))
              | (go_at_call 23; exact Calls.quiet_of_same (left23q _ _ _ _ (HX5.out.drewN _)))
              | (go_at_call 32; exact Calls.quiet_of (left32 _ _ _ _ _ hS hP' (HY5.out.drewN _))))
            go_wp2
            go_roundw
            case rel => exact ⟨k + 1, P', e', by omega, by go_num, hP', HX5.out.drewN _, HY5.out.drewN _, below_drewN' (below_own (below_own HB.out hg4 s1) hg5 (by omega)) _⟩
            case measure => simp [intOf]; omega
          · go_wp2_with (first
              | (go_at_call 24; refine (take24 _ _ _ _ _ (by simp [ByteArray.size_extract]; omega) HX.out).mono ?_; rintro x w4 ⟨rfl, hX4, hg4⟩; have HX4 := Lib.hid hX4; clear hX4; have HY4 := Lib.hid (HY2.out.grown hg4 (by simp; omega)))
              | (go_at_call 29; refine (take29 _ _ _ _ _ _ hS hP HY4.out).mono ?_; rintro x w5 ⟨rfl, hY5, hg5⟩; obtain ⟨P', e', hP', hX5, hY5⟩ := pair_after (HX4.out.grown hg5 (by simp; omega)) hY5 hP (by have := takeR_size (S.extract P S.size) n; omega); have HX5 := Lib.hid hX5; have HY5 := Lib.hid hY5; clear hX5 hY5))
            have cE := HY5.out.c2
            go_quiet (first
              | (go_at_call 22; exact Calls.quiet_of_same (fault22q _ _ _ _ (HX5.out.drewN _)))
              | (go_at_call 23; exact Calls.quiet_of_same (left23q _ _ _ _ (HX5.out.drewN _)))
              | (go_at_call 32; exact Calls.quiet_of (left32 _ _ _ _ _ hS hP' (HY5.out.drewN _))))
            go_wp2
            go_roundw
            case rel => exact ⟨k + 1, P', e', by omega, by go_num, hP', HX5.out.drewN _, HY5.out.drewN _, below_drewN' (below_own (below_own HB.out hg4 s1) hg5 (by omega)) _⟩
            case measure => simp [intOf]; omega
          · go_wp2_with (first
              | (go_at_call 30; refine (fail30 _ _ _ _ _ HX.out).mono ?_; rintro x w4 ⟨rfl, hX4, hg4⟩; have HX4 := Lib.hid hX4; clear hX4; have HY4 := Lib.hid (HY2.out.grown hg4 (by simp; omega)))
              | (go_at_call 31; refine (fail31 _ _ _ _ _ _ HY4.out).mono ?_; rintro x w5 ⟨rfl, hY5, hg5⟩; obtain ⟨P', e', hP', hX5, hY5⟩ : ∃ (P' : Nat) (e' : Int), P' ≤ S.size ∧ RdX w5 p (S.extract P' S.size) e' ∧ RdY w5 q S P' e' := ⟨_, _, hP, HX4.out.grown hg5 (by simp; omega), hY5⟩; have HX5 := Lib.hid hX5; have HY5 := Lib.hid hY5; clear hX5 hY5))
            have cE := HY5.out.c2
            go_quiet (first
              | (go_at_call 22; exact Calls.quiet_of_same (fault22q _ _ _ _ (HX5.out.drewN _)))
              | (go_at_call 23; exact Calls.quiet_of_same (left23q _ _ _ _ (HX5.out.drewN _)))
              | (go_at_call 32; exact Calls.quiet_of (left32 _ _ _ _ _ hS hP' (HY5.out.drewN _))))
            go_wp2
            go_roundw
            case rel => exact ⟨k + 1, P', e', by omega, by go_num, hP', HX5.out.drewN _, HY5.out.drewN _, below_drewN' (below_own (below_own HB.out hg4 s1) hg5 (by omega)) _⟩
            case measure => simp [intOf]; omega
        · clear HXY HY HB3 HA
          have HX := Lib.hid hX
          have HB := Lib.hid hb
          clear hX hY hb
          go_wp2_with (first
            | (go_at_call 30; refine (fail30_nil _ _).mono ?_; rintro x w4 ⟨rfl, hq4⟩)
            | (go_at_call 19; refine (num19_nil _ _).mono ?_; rintro x w5 ⟨rfl, hq5⟩)
            | (go_at_call 20; refine (int20_nil _).mono ?_; rintro x w6 ⟨rfl, hq6⟩)
            | (go_at_call 21; refine (row21_nil _ _).mono ?_; rintro x w7 ⟨rfl, hq7⟩)
            | (go_at_call 24; refine (take24_nil _ _).mono ?_; rintro x w8 ⟨rfl, hq8⟩)
            | (go_at_call 23; refine (left23_nil _).mono ?_; rintro x w9 ⟨rfl, rfl⟩)
            | (go_at_call 22; refine (fault22_nil _).mono ?_; rintro x w9 ⟨rfl, rfl⟩))
          go_ret
          have t1 := HB.out.size; have t4 := hq4.size; have t5 := hq5.size; have t6 := hq6.size; have t7 := hq7.size
          exact ⟨rfl, ((((HB.out.trans (hq4.mono t1)).trans (hq5.mono (by omega))).trans (hq6.mono (by omega))).trans (hq7.mono (by omega))).trans (hq8.mono (by omega))⟩
end Go.Proofs.Ytedkjiheanmkeaa
