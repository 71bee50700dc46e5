/- Contracts of the calls of the program's Reader: what each answers, and what becomes of the reader. -/
import Derived.Test.YtjbhgifdpdnppaaStops
namespace Go.Proofs.Ytjbhgifdpdnppaa
open Go.RowKit

theorem grown_alloc (w : World) (o : Obj) (r : Option Nat) : w.grownBy (w.alloc o) r :=
  ⟨rfl, rfl, rfl, by simp, fun k hk _ => Below.heap_alloc w o k hk⟩
theorem grown_transN {a b c : World} {r : Option Nat} (h : a.grownBy b r) (k : b.grownBy c r) : a.grownBy c r :=
  ⟨k.os.trans h.os, k.tape.trans h.tape, k.output.trans h.output, Nat.le_trans h.size k.size, fun i hi hne => (k.block i (by have := h.size; omega) hne).trans (h.block i hi hne)⟩
theorem below_grown {w w' : World} (h : Below w.heap.size w w') (r : Option Nat) : w.grownBy w' r :=
  ⟨h.os, h.tape, h.output, h.size, fun k hk _ => h.block k hk⟩
theorem AfterX_stop (s : ByteArray) (e k er : Int) (h : e ≠ 0) : AfterX s e k er = (s, e) := by unfold AfterX; rw [if_neg h]

/-- The first, if there is no fault. -/
def orZ {α : Type} (e : Int) (a z : α) : α := if e = 0 then a else z
theorem orZ_ok {α : Type} (a z : α) : orZ 0 a z = a := rfl
theorem orZ_no {α : Type} (e : Int) (a z : α) (h : e ≠ 0) : orZ e a z = z := if_neg h

theorem numTo_zero (s : List UInt8) (may : Nat → Bool) (h : (numTo s may).2.2 ≠ 0) : (numTo s may).1 = 0 := by
  unfold numTo at h ⊢
  split
  · rfl
  · rename_i hc
    rw [if_neg hc] at h
    have := M.num_form s
    omega
theorem num_zero (s : List UInt8) (h : (M.num s).2.2 ≠ 0) : (M.num s).1 = 0 := by
  have := M.num_form s
  omega
theorem num_le (s : ByteArray) : (M.num s.data.toList).2.1 ≤ s.size := by
  have h := M.num_form s.data.toList
  have e : s.data.toList.length = s.size := (Lib.size_eq s).symm
  rw [e] at h
  omega
theorem takeR_zero (s : ByteArray) (n : Int) (h : (takeR s n).2 ≠ 0) : (takeR s n).1 = ⟨#[]⟩ := by
  unfold takeR at h ⊢
  split
  · rfl
  · split
    · rfl
    · rename_i h1 h2
      rw [if_neg h1, if_neg h2] at h; exact absurd rfl h
theorem rowR_zero (s : ByteArray) (n : Int) (h : (rowR s n).2.2 ≠ 0) : (rowR s n).1 = ⟨#[]⟩ := by
  unfold rowR at h ⊢
  split
  · rename_i h1
    rw [if_pos h1] at h
    exact takeR_zero _ _ h
  · rfl
theorem rowR_k (s : ByteArray) (n : Int) : 0 ≤ (rowR s n).2.1 ∧ (rowR s n).2.1 ≤ s.size := by
  unfold rowR
  have h1 := numTo_le s (rowMay n)
  split
  · have h2 := takeR_size (s.extract (numTo s.data.toList (rowMay n)).2.1 s.size) (numTo s.data.toList (rowMay n)).1
    have h3 : (s.extract (numTo s.data.toList (rowMay n)).2.1 s.size).size = s.size - (numTo s.data.toList (rowMay n)).2.1 := by simp [ByteArray.size_extract]
    simp only
    omega
  · simp only; omega


set_option maxRecDepth 100000 in
theorem num19 (p : Nat) (s : ByteArray) (e : Int) (most : Int) (w : World) (hs : s.size ≤ 1000000) (hX : RdX w p s e) :
    Calls Try.prog 24 #[.pointer (some ⟨p, 0, none⟩), .int .u64 most] w fun x w' => x = .returned (.int .u64 (orZ e ((numTo s.data.toList (fun n => decide ((n : Int) ≤ most))).1 : Int) 0)) ∧ RdX w' p (AfterX s e ((numTo s.data.toList (fun n => decide ((n : Int) ≤ most))).2.1 : Int) (numTo s.data.toList (fun n => decide ((n : Int) ≤ most))).2.2).1 (AfterX s e ((numTo s.data.toList (fun n => decide ((n : Int) ≤ most))).2.1 : Int) (numTo s.data.toList (fun n => decide ((n : Int) ≤ most))).2.2).2 ∧ w.grownBy w' (some p) := by
  have hp := hX.lt
  have h0 := heap_alloc_new w (.cells #[.int .u64 most] 47)
  have hb0 : Below w.heap.size w (w.alloc (.cells #[.int .u64 most] 47)) := (Below.refl _ w).alloc (Nat.le_refl _) _
  have hX1 := hX.below hb0 hp
  have e1 : (w.alloc (.cells #[.int .u64 most] 47)).heap.size = w.heap.size + 1 := by simp
  by_cases he : e = 0
  · subst he
    obtain ⟨v, hv⟩ : ∃ v, v = ((numTo s.data.toList (fun n => decide ((n : Int) ≤ most))).1 : Int) := ⟨_, rfl⟩
    obtain ⟨k, hk⟩ : ∃ k : Nat, (k : Int) = ((numTo s.data.toList (fun n => decide ((n : Int) ≤ most))).2.1 : Int) := ⟨(((numTo s.data.toList (fun n => decide ((n : Int) ≤ most))).2.1 : Int)).toNat, by have := numTo_le s (fun n => decide ((n : Int) ≤ most)); omega⟩
    obtain ⟨er, her⟩ : ∃ er, er = (numTo s.data.toList (fun n => decide ((n : Int) ≤ most))).2.2 := ⟨_, rfl⟩
    have hle : k ≤ s.size := by have := numTo_le s (fun n => decide ((n : Int) ≤ most)); omega
    have HA := Lib.hid (answer33 (.pointer (some ⟨w.heap.size, 0, none⟩)) p s v k er _ hX1 hle
      (fun W hW => (look34 s w.heap.size most W (by unfold maxLen; omega) (by rw [World.cell?_of_block (w := w.alloc (.cells #[.int .u64 most] 47)) (hW.block w.heap.size (by rw [e1]; omega))]; exact cell_of_one h0)).mono fun x w' hx => by
        rw [hv, hk, her]; obtain ⟨rfl, rfl⟩ := hx; exact ⟨rfl, Below.refl _ _⟩))
    have HZ : Hid (pickV er (.int .u64 v) (.int .u64 0) = .int .u64 (orZ 0 ((numTo s.data.toList (fun n => decide ((n : Int) ≤ most))).1 : Int) 0)) := by
      show pickV er _ _ = _
      rw [orZ_ok, ← hv]
      by_cases h : er = 0
      · exact if_pos h
      · have hz : v = 0 := by rw [hv]; rw [numTo_zero _ _ (by rw [← her]; exact h)]; rfl
        rw [hz]; exact if_neg h
    rw [← hk, ← her]
    clear hv hk her hX1 h0 e1
    have HX := Lib.hid hX; clear hX
    go_enter Try.func24, Try.ntmps24
    go_wp2_with (go_at_call 39; refine HA.out.mono ?_; rintro e w4 ⟨rfl, hr, hg⟩; have HR := Lib.hid hr; clear hr)
    go_ret
    exact ⟨by rw [← HZ.out]; rfl, HR.out, grown_transN (below_grown hb0 _) hg⟩
  · have hz : orZ e ((numTo s.data.toList (fun n => decide ((n : Int) ≤ most))).1 : Int) 0 = 0 := orZ_no _ _ _ he
    have ha : AfterX s e ((numTo s.data.toList (fun n => decide ((n : Int) ≤ most))).2.1 : Int) (numTo s.data.toList (fun n => decide ((n : Int) ≤ most))).2.2 = (s, e) := AfterX_stop _ _ _ _ he
    rw [hz, ha]
    have HA := Lib.hid (stop33 40 #[.pointer (some ⟨w.heap.size, 0, none⟩)] (some ⟨p, 0, none⟩) e _ he
      (fun W hW => fault22 p s e W (hX1.below hW (by rw [e1]; omega))))
    have HX := Lib.hid hX1; clear hX1 hX hz ha he h0 e1
    go_enter Try.func24, Try.ntmps24
    go_wp2_with (go_at_call 39; refine HA.out.mono ?_; rintro e w4 ⟨rfl, hb⟩)
    go_ret
    exact ⟨rfl, HX.out.below hb (by simp; omega), grown_transN (below_grown hb0 _) (below_grown hb _)⟩

set_option maxRecDepth 100000 in
theorem num19_nil (most : Int) (w : World) :
    Calls Try.prog 24 #[.pointer none, .int .u64 most] w fun x w' => x = .returned (.int .u64 0) ∧ Below w.heap.size w w' := by
  have hb0 : Below w.heap.size w (w.alloc (.cells #[.int .u64 most] 47)) := (Below.refl _ w).alloc (Nat.le_refl _) _
  have HA := Lib.hid (stop33 40 #[.pointer (some ⟨w.heap.size, 0, none⟩)] none 1 (w.alloc (.cells #[.int .u64 most] 47)) (by decide)
    (fun W _ => fault22_nil W))
  go_enter Try.func24, Try.ntmps24
  go_wp2_with (go_at_call 39; refine HA.out.mono ?_; rintro e w4 ⟨rfl, hb⟩)
  go_ret
  exact ⟨rfl, hb0.trans (hb.mono (by simp))⟩

set_option maxRecDepth 100000 in
theorem int20 (p : Nat) (s : ByteArray) (e : Int) (w : World) (hs : s.size ≤ 1000000) (hX : RdX w p s e) :
    Calls Try.prog 36 #[.pointer (some ⟨p, 0, none⟩)] w fun x w' => x = .returned (.int .i64 (orZ e (M.zag (M.num s.data.toList).1) 0)) ∧ RdX w' p (AfterX s e (M.num s.data.toList).2.1 (M.num s.data.toList).2.2).1 (AfterX s e (M.num s.data.toList).2.1 (M.num s.data.toList).2.2).2 ∧ w.grownBy w' (some p) := by
  have hp := hX.lt
  by_cases he : e = 0
  · subst he
    obtain ⟨v, hv⟩ : ∃ v, v = M.zag (M.num s.data.toList).1 := ⟨_, rfl⟩
    obtain ⟨k, hk⟩ : ∃ k : Nat, k = (M.num s.data.toList).2.1 := ⟨_, rfl⟩
    obtain ⟨er, her⟩ : ∃ er, er = (M.num s.data.toList).2.2 := ⟨_, rfl⟩
    have hle : k ≤ s.size := by rw [hk]; exact num_le s
    have HA := Lib.hid (answer37 p s v k er w hX hle
      (fun W hW => (look38 s W (by unfold maxLen; omega)).mono fun x w' hx => by
        rw [hv, hk, her]; obtain ⟨rfl, rfl⟩ := hx; exact ⟨rfl, Below.refl _ _⟩))
    have HZ : Hid (pickV er (.int .i64 v) (.int .i64 0) = .int .i64 (orZ 0 (M.zag (M.num s.data.toList).1) 0)) := by
      show pickV er _ _ = _
      rw [orZ_ok, ← hv]
      by_cases h : er = 0
      · exact if_pos h
      · have hz : v = 0 := by rw [hv, num_zero _ (by rw [← her]; exact h)]; rfl
        rw [hz]; exact if_neg h
    rw [← hk, ← her]
    clear hv hk her
    have HX := Lib.hid hX; clear hX
    go_enter Try.func36, Try.ntmps36
    go_wp2_with (go_at_call 46; refine HA.out.mono ?_; rintro e w4 ⟨rfl, hr, hg⟩; have HR := Lib.hid hr; clear hr)
    go_ret
    exact ⟨by rw [← HZ.out]; rfl, HR.out, hg⟩
  · have hz : orZ e (M.zag (M.num s.data.toList).1) 0 = 0 := orZ_no _ _ _ he
    have ha : AfterX s e (M.num s.data.toList).2.1 (M.num s.data.toList).2.2 = (s, e) := AfterX_stop _ _ _ _ he
    rw [hz, ha]
    have HA := Lib.hid (stop37 47 #[] (some ⟨p, 0, none⟩) e w he
      (fun W hW => fault22 p s e W (hX.below hW hp)))
    have HX := Lib.hid hX; clear hX hz ha he
    go_enter Try.func36, Try.ntmps36
    go_wp2_with (go_at_call 46; refine HA.out.mono ?_; rintro e w4 ⟨rfl, hb⟩)
    go_ret
    exact ⟨rfl, HX.out.below hb hp, below_grown hb _⟩
theorem int20_nil (w : World) :
    Calls Try.prog 36 #[.pointer none] w fun x w' => x = .returned (.int .i64 0) ∧ Below w.heap.size w w' := by
  have HA := Lib.hid (stop37 47 #[] none 1 w (by decide) (fun W _ => fault22_nil W))
  go_enter Try.func36, Try.ntmps36
  go_wp2_with (go_at_call 46; refine HA.out.mono ?_; rintro e w4 ⟨rfl, hb⟩)
  go_ret
  exact ⟨rfl, hb⟩
end Go.Proofs.Ytjbhgifdpdnppaa
