/- Contracts of the document's reader: of, and its Num. -/
import Derived.Test.YtjbhgifdpdnppaaFails
namespace Go.Proofs.Ytjbhgifdpdnppaa
open Go.RowKit

/-- The document's reader at block q: the bytes, the place, the fault. -/
def RdY (w : World) (q : Nat) (S : ByteArray) (P : Nat) (e : Int) : Prop := w.heap[q]? = some (.cells #[.string S, .int .i64 (P : Int), .int .i64 e] 63 (0, 0))

theorem RdY.lt {w : World} {q : Nat} {S : ByteArray} {P : Nat} {e : Int} (h : RdY w q S P e) : q < w.heap.size := lt_of_blk h
theorem RdY.c0 {w : World} {q : Nat} {S : ByteArray} {P : Nat} {e : Int} (h : RdY w q S P e) : w.cell? ⟨q, 0, none⟩ = some (.string S) := by rw [cell_of_row w q 0 _ 63 (0, 0) h]; rfl
theorem RdY.c1 {w : World} {q : Nat} {S : ByteArray} {P : Nat} {e : Int} (h : RdY w q S P e) : w.cell? ⟨q, 1, none⟩ = some (.int .i64 (P : Int)) := by rw [cell_of_row w q 1 _ 63 (0, 0) h]; rfl
theorem RdY.c2 {w : World} {q : Nat} {S : ByteArray} {P : Nat} {e : Int} (h : RdY w q S P e) : w.cell? ⟨q, 2, none⟩ = some (.int .i64 e) := by rw [cell_of_row w q 2 _ 63 (0, 0) h]; rfl
theorem RdY.f {w : World} {q : Nat} {S : ByteArray} {P : Nat} {e : Int} (h : RdY w q S P e) (i : Nat) : w.frozen? ⟨q, i, none⟩ = false := free_of_blkN h i
theorem RdY.set1 {w : World} {q : Nat} {S : ByteArray} {P : Nat} {e : Int} (h : RdY w q S P e) (k : Nat) : RdY (w.setCell ⟨q, 1, none⟩ (.int .i64 (k : Int))) q S k e := set_blkN h 1 (.int .i64 (k : Int))
theorem RdY.set2 {w : World} {q : Nat} {S : ByteArray} {P : Nat} {e : Int} (h : RdY w q S P e) (t : Int) : RdY (w.setCell ⟨q, 2, none⟩ (.int .i64 t)) q S P t := set_blkN h 2 (.int .i64 t)
theorem RdY.grown {w w' : World} {q : Nat} {S : ByteArray} {P : Nat} {e : Int} {r : Option Nat} (h : RdY w q S P e) (hg : w.grownBy w' r) (hr : some q ≠ r) : RdY w' q S P e := (hg.block q h.lt hr).trans h
theorem RdY.below {w w' : World} {q B : Nat} {S : ByteArray} {P : Nat} {e : Int} (h : RdY w q S P e) (hb : Below B w w') (hB : q < B) : RdY w' q S P e := (hb.block q hB).trans h
theorem RdY.drewN {w : World} {q : Nat} {S : ByteArray} {P : Nat} {e : Int} (h : RdY w q S P e) (n : Nat) : RdY (w.drewN n) q S P e := h

theorem grown_drewN (w : World) (n : Nat) {w' : World} {r : Option Nat} (h : (w.drewN n).grownBy w' r) : w.grownBy w' r := ⟨h.os, h.tape, h.output, h.size, h.block⟩
theorem grown_drew0 (w : World) (n : Nat) (r : Option Nat) : w.grownBy (w.drewN n) r := ⟨rfl, rfl, rfl, Nat.le_refl _, fun _ _ _ => rfl⟩

theorem digits45q (s : ByteArray) (w : World) (hs : s.size ≤ maxLen) :
    Calls Try.prog 43 #[.string s] w fun e w' => e = .returned (.tuple #[.int .u64 (M.num s.data.toList).1, .int .i64 (M.num s.data.toList).2.1, .int .i64 (M.num s.data.toList).2.2]) ∧ w' = w :=
  (digits45 s w hs).mono fun _ _ ⟨h, h2⟩ => ⟨h, h2.symm⟩

theorem of25 (s : ByteArray) (w : World) : Calls Try.prog 27 #[.string s] w fun x w' => x = .returned (.pointer (some ⟨w.heap.size, 0, none⟩)) ∧ RdY w' w.heap.size s 0 0 ∧ Below w.heap.size w w' := by
  go_enter Try.func27, Try.ntmps27
  go_wp2
  go_ret
  exact ⟨rfl, heap_alloc_new w _, (Below.refl _ w).alloc (Nat.le_refl _) _⟩

/-- A look that goes well, a look that faults: what becomes of the place and the fault. -/
def AfterY (P : Nat) (e k er : Int) : Nat × Int := if e = 0 then (if er = 0 then (P + k.toNat, 0) else (P, er)) else (P, e)
theorem AfterY_stop (P : Nat) (e k er : Int) (h : e ≠ 0) : AfterY P e k er = (P, e) := if_neg h
theorem AfterY_ok (P : Nat) (k : Int) : AfterY P 0 k 0 = (P + k.toNat, 0) := rfl
theorem AfterY_no (P : Nat) (k er : Int) (h : er ≠ 0) : AfterY P 0 k er = (P, er) := by unfold AfterY; rw [if_pos rfl, if_neg h]

set_option maxRecDepth 100000 in
set_option maxHeartbeats 1000000 in
theorem num26 (q : Nat) (S : ByteArray) (P : Nat) (e : Int) (most : Int) (w : World) (hs : S.size ≤ 1000000) (hP : P ≤ S.size) (hY : RdY w q S P e) :
    Calls Try.prog 28 #[.pointer (some ⟨q, 0, none⟩), .int .u64 most] w fun x w' => x = .returned (.int .u64 (orZ e ((numTo (S.extract P S.size).data.toList (fun n => decide ((n : Int) ≤ most))).1 : Int) 0)) ∧
      RdY w' q S (AfterY P e (numTo (S.extract P S.size).data.toList (fun n => decide ((n : Int) ≤ most))).2.1 (numTo (S.extract P S.size).data.toList (fun n => decide ((n : Int) ≤ most))).2.2).1
        (AfterY P e (numTo (S.extract P S.size).data.toList (fun n => decide ((n : Int) ≤ most))).2.1 (numTo (S.extract P S.size).data.toList (fun n => decide ((n : Int) ≤ most))).2.2).2 ∧ w.grownBy w' (some q) := by
  have c0 := hY.c0; have c1 := hY.c1; have c2 := hY.c2
  by_cases he : e = 0
  · subst he
    rw [orZ_ok]
    have f1 := hY.f 1; have f2 := hY.f 2
    obtain ⟨r, hr⟩ : ∃ r, r = S.extract P S.size := ⟨_, rfl⟩
    have hrs : r.size ≤ maxLen := by rw [hr]; unfold maxLen; simp [ByteArray.size_extract]; omega
    have hle := num_le r
    have hrz : r.size = S.size - P := by rw [hr]; simp [ByteArray.size_extract]
    have HD := Lib.hid (fun W => digits45q r W hrs)
    obtain ⟨N, hN⟩ : ∃ N, N = M.num r.data.toList := ⟨_, rfl⟩
    have hbad : N.2.2 = 0 → decide ((N.1 : Int) ≤ most) = false → numTo r.data.toList (fun n => decide ((n : Int) ≤ most)) = (0, 0, 4) := fun a b => numTo_bad (by rw [← hN]; exact a) (by rw [← hN]; exact b)
    have hok : N.2.2 ≠ 0 ∨ decide ((N.1 : Int) ≤ most) = true → numTo r.data.toList (fun n => decide ((n : Int) ≤ most)) = N := fun a => (numTo_ok (by rw [← hN]; exact a)).trans hN.symm
    have hz := num_zero r.data.toList
    rw [← hN] at hz hle HD
    rw [hr] at HD
    by_cases he : N.2.2 = 0
    · have hb : (N.2.2 == 0) = true := by simpa using he
      have hbn : (N.2.2 != 0) = false := by simpa using he
      by_cases hm : (N.1 : Int) ≤ most
      · have HR := Lib.hid (hok (.inr (by simpa using hm)))
        rw [← hr, HR.out]
        have HS := Lib.hid (hY.drewN)
        have HE := Lib.hid he
        clear hY hN hbad hok hz hrs hr HR he
        go_enter Try.func28, Try.ntmps28
        go_wp2
        go_quiet ((go_at_call 43; exact Calls.quiet_of_same (HD.out _)))
        go_wp2
        go_ret
        exact ⟨rfl, by rw [HE.out]; exact (HS.out nq).set1 (P + N.2.1), grown_drewN w nq (grown_setN _ q 1 _)⟩
      · have hm2 : decide ((N.1 : Int) ≤ most) = false := by simpa using hm
        have HR := Lib.hid (hbad he hm2)
        rw [← hr, HR.out]
        have HS := Lib.hid (hY.drewN)
        have hm3 : most < (N.1 : Int) := by omega
        clear hY hN hbad hok hz hrs hr HR he hm hm2
        go_enter Try.func28, Try.ntmps28
        go_wp2
        go_quiet ((go_at_call 43; exact Calls.quiet_of_same (HD.out _)))
        go_wp2
        go_ret
        exact ⟨rfl, (HS.out nq).set2 4, grown_drewN w nq (grown_setN _ q 2 _)⟩
    · have hb : (N.2.2 == 0) = false := by simpa using he
      have hbn : (N.2.2 != 0) = true := by simpa using he
      have HR := Lib.hid (hok (.inl he))
      rw [← hr, HR.out, AfterY_no _ _ _ he, hz he]
      have HS := Lib.hid (hY.drewN)
      clear hY hN hbad hok hz hrs hr HR he
      go_enter Try.func28, Try.ntmps28
      go_wp2
      go_quiet ((go_at_call 43; exact Calls.quiet_of_same (HD.out _)))
      go_wp2
      go_ret
      exact ⟨rfl, (HS.out nq).set2 N.2.2, grown_drewN w nq (grown_setN _ q 2 _)⟩
  · rw [orZ_no _ _ _ he, AfterY_stop _ _ _ _ he]
    have hb : (e != 0) = true := by simpa using he
    have HY := Lib.hid hY
    clear hY he
    go_enter Try.func28, Try.ntmps28
    go_wp2
    go_ret
    exact ⟨rfl, HY.out, ⟨rfl, rfl, rfl, Nat.le_refl _, fun _ _ _ => rfl⟩⟩
end Go.Proofs.Ytjbhgifdpdnppaa
