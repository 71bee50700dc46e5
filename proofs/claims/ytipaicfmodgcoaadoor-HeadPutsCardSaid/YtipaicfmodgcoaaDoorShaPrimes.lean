/- The first 64 primes: the contract of primes. -/
import Derived.Test.YtipaicfmodgcoaaDoorShaRoot
namespace Go.Proofs.YtipaicfmodgcoaaDoor
open Go.RowKit

/-- Does no number from d on, whose square is at most p, part p? -/
def isPF (p : Nat) : Nat → Nat → Bool
  | 0, _ => true
  | f + 1, d => if d * d ≤ p then (p % d != 0) && isPF p f (d + 1) else true
def isP (p : Nat) : Bool := isPF p 400 2
/-- The primes below p. -/
def primesTo : Nat → List Nat
  | 0 => []
  | p + 1 => if 2 ≤ p && isP p then primesTo p ++ [p] else primesTo p

theorem primesTo_312 : (primesTo 312).length = 64 := by decide +kernel
theorem primesTo_mono (a k : Nat) : (primesTo a).length ≤ (primesTo (a + k)).length := by
  induction k with
  | zero => exact Nat.le_refl _
  | succ k ih =>
    refine Nat.le_trans ih ?_
    show _ ≤ (primesTo (a + k + 1)).length
    rw [primesTo]
    split
    · simp
    · exact Nat.le_refl _
theorem primes_le (p : Nat) (h : (primesTo p).length < 64) : p ≤ 311 := by
  rcases Nat.lt_or_ge p 312 with h1 | h1
  · omega
  · have := primesTo_mono 312 (p - 312)
    rw [show 312 + (p - 312) = p from by omega, primesTo_312] at this
    omega
/-- The list is the same from the 64th prime on till the next one: what the loop ends with. -/
def primes64 : List Nat := primesTo 312
theorem primes_end (p : Nat) (h : p ≤ 312) (h2 : ¬ (primesTo p).length < 64) : primesTo p = primes64 := by
  have h3 := primesTo_mono p (312 - p)
  rw [show p + (312 - p) = 312 from by omega, primesTo_312] at h3
  rcases Nat.lt_or_ge p 312 with h1 | h1
  · exfalso
    have h4 := primesTo_mono p (311 - p)
    rw [show p + (311 - p) = 311 from by omega] at h4
    have : (primesTo 311).length = 63 := by decide +kernel
    omega
  · rw [show p = 312 from by omega]; rfl

theorem isPF_no (p f d : Nat) (h : ¬ d * d ≤ p) : isPF p f d = true := by
  cases f with
  | zero => rfl
  | succ f => rw [isPF, if_neg h]

theorem own_len {P : Program} {w : World} {base : Nat} {e e' : TypeId} {size n : Nat} {v : Value} {xs : List Value} (h : w.ownsRow base e size v n xs) (t ty : TypeId) (ht : P.underlying t = some (.slice e')) (W : World) :
    (Builtin.len_ #[t] ty #[v]).run P W = .ok (.int .i64 (n : Int)) W := by
  rcases h.2 with ⟨rfl, rfl⟩ | ⟨g, cap, cur, rfl, _⟩
  · simp [Builtin.len_, run_underlying ht, goInt]
  · simp [Builtin.len_, run_underlying ht, goInt]

theorem u64_info : (Tryd.prog.info? 63).map (fun i => (i.zero, i.size, i.bytes)) = some (some (.int .u64 0), 1, 8) := by kernel_rfl

theorem new_one (W : World) (v : Value) (T : TypeId) : ∀ (j : Nat) (u : Value), [v][j]? = some u → (W.alloc (.cells #[v] T)).cell? ((⟨W.heap.size, 0, none⟩ : Addr).add j) = some u := by
  intro j u hj
  match j, hj with
  | 0, hj => simp at hj; subst hj; simp [Addr.add, cell_of_one (heap_alloc_new W _)]
theorem one_cell_u64 (n : Int) : ∀ u ∈ [Value.int .u64 n], u.oneCell' = true := by
  intro u hu; simp at hu; subst hu; rfl
theorem World_grown_alloc {w w' : World} {o : Obj} {r : Option Nat} (h : (w.alloc o).grownBy w' r) : w.grownBy w' r :=
  ⟨h.os, h.tape, h.output, by have := h.size; simp at this; omega, fun k hk hne => (h.block k (by simp; omega) hne).trans (Below.heap_alloc w o k hk)⟩
theorem own_block_ge {w : World} {base : Nat} {e : TypeId} {size n : Nat} {v : Value} {xs : List Value} (h : w.ownsRow base e size v n xs) : ∀ k, v.ownBlock = some k → base ≤ k := by
  intro k hk
  rcases h.2 with ⟨rfl, _⟩ | ⟨g, cap, cur, rfl, hg, _⟩
  · simp [Value.ownBlock] at hk
  · simp [Value.ownBlock] at hk; omega
theorem rem_ne (p d : Nat) : Value.bool ((p : Int) % (d : Int) != 0) = Value.bool (p % d != 0) := by
  congr 1
  rw [← Int.natCast_emod]
  by_cases h : p % d = 0
  · rw [h]; rfl
  · rw [bne_iff_ne.2 h, bne_iff_ne.2]; omega

/-- What the outer loop holds. -/
def PrimesRel (w : World) (b1 b2 : Value) (W : World) : Prop :=
  ∃ p : Nat, 2 ≤ p ∧ p ≤ 312 ∧ (primesTo p).length ≤ 64 ∧ b2 = .int .u64 (p : Int) ∧ W.ownsRow w.heap.size 63 1 b1 (primesTo p).length ((primesTo p).map fun (q : Nat) => Value.int .u64 (q : Int)) ∧ Below w.heap.size w W

set_option maxRecDepth 100000 in
set_option maxHeartbeats 2000000 in
theorem primes15 (w : World) :
    Calls Tryd.prog 52 #[] w fun e w' => ∃ v, e = .returned v ∧ w'.ownsRow w.heap.size 63 1 v 64 (primes64.map fun (q : Nat) => Value.int .u64 (q : Int)) ∧ Below w.heap.size w w' := by
  obtain ⟨i0, hi, hz0, hz1, hz2⟩ := info_parts u64_info
  go_enter Tryd.func52, Tryd.ntmps52
  go_wp2
  go_loopw [1, 2] (fun b1 b2 W => PrimesRel w b1 b2 W) (fun _ b2 _ => 312 - (intOf b2).toNat)
  case atStart => exact ⟨2, by omega, by omega, by decide +kernel, rfl, World.ownsRow_nil _ _ _ _, Below.refl _ _⟩
  case round =>
    obtain ⟨p, hp2, hp, hlen, rfl, hown, hb⟩ := hrel
    have HO := Lib.hid hown
    have HB := Lib.hid hb
    clear hown hb
    by_cases hlt : (primesTo p).length < 64
    · have hp1 := primes_le p hlt
      have hL := own_len HO.out 96 3 Tryd.underlying96
      have hlt2 : ((primesTo p).length : Int) < 64 := by omega
      have HH := Lib.hid hlen; clear hlen
      go_wp2_with fail
      go_loop [3, 4] (fun b3 b4 => ∃ (f d : Nat) (acc : Bool), b3 = .bool acc ∧ b4 = .int .u64 (d : Int) ∧ 2 ≤ d ∧ d ≤ 20 ∧ f + d = 402 ∧ (acc && isPF p f d) = isP p) (fun _ b4 => 400 - (intOf b4).toNat)
      case atStart => exact ⟨400, 2, true, rfl, rfl, by omega, by omega, by omega, by simp [isP]⟩
      case round =>
        obtain ⟨f, d, acc, rfl, rfl, hd2, hd20, hfd, hacc⟩ := hrel
        obtain ⟨dd, hdd⟩ : ∃ dd : Nat, dd = d * d := ⟨_, rfl⟩
        have hddb : dd ≤ 400 := by rw [hdd]; exact Nat.mul_le_mul hd20 hd20
        have hw : IntKind.u64.wrap ((d : Int) * (d : Int)) = (dd : Int) := by rw [hdd]; rw [u64_in] <;> rw [← Int.natCast_mul] <;> rw [← hdd] <;> omega
        have HDD := Lib.hid hdd; clear hdd
        have HACC := Lib.hid hacc; clear hacc
        by_cases hle : dd ≤ p
        · have hle2 : (dd : Int) ≤ (p : Int) := by omega
          have hd19 : d ≤ 19 := by
            apply Nat.le_of_not_lt; intro h
            have : 20 * 20 ≤ d * d := Nat.mul_le_mul (by omega) (by omega)
            rw [← HDD.out] at this; omega
          obtain ⟨f', hf'⟩ : ∃ f', f = f' + 1 := ⟨f - 1, by omega⟩
          have HN : Hid ((acc && (p % d != 0) && isPF p f' (d + 1)) = isP p) := by
            show _ = _
            rw [← HACC.out, hf', isPF, ← HDD.out, if_pos hle, Bool.and_assoc]
          have hdpos : ¬ (d : Int) = 0 := by omega
          cases acc with
          | true =>
            go_wp2
            go_round
            case rel => exact ⟨f', d + 1, p % d != 0, rem_ne p d, by go_num, by omega, by omega, by omega, HN.out⟩
            case measure => simp [intOf]; omega
          | false =>
            go_wp2
            go_round
            case rel => exact ⟨f', d + 1, false, rfl, by go_num, by omega, by omega, by omega, HN.out⟩
            case measure => simp [intOf]; omega
        · have hle2 : ¬ (dd : Int) ≤ (p : Int) := by omega
          have hv : Hid (acc = isP p) := by
            show _ = _
            rw [← HACC.out, isPF_no p f d (by rw [← HDD.out]; exact hle), Bool.and_true]
          have HP : acc = true → primesTo (p + 1) = primesTo p ++ [p] := fun h => by rw [primesTo, ← hv.out, h]; simp [hp2]
          have HQ : acc = false → primesTo (p + 1) = primesTo p := fun h => by rw [primesTo, ← hv.out, h]; simp
          cases acc with
          | true =>
            replace HP := Lib.hid (HP rfl)
            clear HQ
            go_wp2_with (at_builtin; refine wpList_append_own _ rfl _ _ 96 rfl w.heap.size 63 i0 (.int .u64 0) 1 8 Tryd.underlying96 hi hz0 hz1 hz2 rfl (by decide) _ _ _ rfl (HO.out.alloc _) ⟨wr.heap.size, 0, none⟩ 1 1 [.int .u64 (p : Int)] rfl rfl (new_one _ _ _) (one_cell_u64 _) (by unfold maxLen; omega) (by omega) (by have := HB.out.size; simp; omega) ?_; intro v' w1 hown' hgrow _; have HO1 := Lib.hid hown'; have HG1 := Lib.hid hgrow; clear hown' hgrow)
            go_roundw
            case rel => exact ⟨p + 1, by omega, by omega, by rw [HP.out]; simp; omega, by go_num, by rw [HP.out]; simpa using HO1.out, HB.out.grown (World_grown_alloc HG1.out) (by have := HB.out.size; omega) (own_block_ge HO.out)⟩
            case measure => simp [intOf]; omega
          | false =>
            replace HQ := Lib.hid (HQ rfl)
            clear HP
            go_wp2
            go_roundw
            case rel => exact ⟨p + 1, by omega, by omega, by rw [HQ.out]; exact HH.out, by go_num, by rw [HQ.out]; exact HO.out, HB.out⟩
            case measure => simp [intOf]; omega
    · have hL := own_len HO.out 96 3 Tryd.underlying96
      have hlt2 : ¬ ((primesTo p).length : Int) < 64 := by omega
      have hend := primes_end p hp hlt
      have hl64 : (primesTo p).length = 64 := by omega
      have HF := Lib.hid (show wr.ownsRow w.heap.size 63 1 u1 64 (primes64.map fun (q : Nat) => Value.int .u64 (q : Int)) by rw [← hend]; have h := HO.out; rw [hl64] at h; exact h)
      clear hend hl64
      have HH := Lib.hid hlen; clear hlen
      go_wp2
      go_ret
      exact ⟨_, rfl, HF.out, HB.out⟩
end Go.Proofs.YtipaicfmodgcoaaDoor
