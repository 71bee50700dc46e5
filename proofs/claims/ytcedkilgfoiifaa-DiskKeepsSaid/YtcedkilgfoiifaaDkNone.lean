/- The walk of DiskNone, given what the program's calls answer of a nil disk; the law's Keep. -/
import Derived.Test.YtcedkilgfoiifaaDkLaw
import Derived.Laws.EntriesVeiled
namespace Go.Proofs.Ytcedkilgfoiifaa
open Go.RowKit Base Base2

theorem keep17 (a : Option Addr) (n c : Nat) (w : World) : Calls Try.prog 17 #[.slice a n c] w fun e w' => e = .returned (.func (.func 40) #[] #[.pointer (some ⟨w.heap.size, 0, none⟩)]) ∧ w'.heap[w.heap.size]? = some (.cells #[.slice a n c] 34 (0, 0)) ∧ Below w.heap.size w w' := by
  have h := heap_alloc_new w (.cells #[.slice a n c] 34)
  have hb := (Below.refl _ w).alloc (Nat.le_refl _) (.cells #[.slice a n c] 34)
  have HH := Lib.hid h; have HB := Lib.hid hb
  clear h hb
  go_enter Try.func17, Try.ntmps17
  go_wp2
  go_ret
  exact ⟨rfl, HH.out, HB.out⟩
/-- What the program's calls answer of nil. -/
structure ProgN : Prop where
  write : ∀ (name s : ByteArray) (pl : Int) (W : World), Calls Try.prog 19 #[.pointer none, .string name, .int .i64 pl, .string s] W fun e w' => e = .returned (.int .i64 1) ∧ Below W.heap.size W w'
  sync : ∀ (W : World), Calls Try.prog 12 #[.pointer none] W fun e w' => e = .returned (.int .i64 1) ∧ Below W.heap.size W w'
  cut : ∀ (name : ByteArray) (n : Int) (W : World), Calls Try.prog 14 #[.pointer none, .string name, .int .i64 n] W fun e w' => e = .returned (.int .i64 1) ∧ Below W.heap.size W w'
  read : ∀ (name : ByteArray) (W : World), Calls Try.prog 22 #[.pointer none, .string name] W fun e w' => e = .returned (.string ⟨#[]⟩) ∧ Below W.heap.size W w'
  files : ∀ (W : World), Calls Try.prog 26 #[.pointer none] W fun e w' => (∃ a c, e = .returned (.slice a 0 c)) ∧ Below W.heap.size W w'
  kept : ∀ (W : World), Calls Try.prog 27 #[.pointer none] W fun e w' => (∃ a c, e = .returned (.slice a 0 c)) ∧ Below W.heap.size W w'
  used : ∀ (W : World), Calls Try.prog 28 #[.pointer none] W fun e w' => e = .returned (.int .i64 0) ∧ Below W.heap.size W w'
  room : ∀ (W : World), Calls Try.prog 29 #[.pointer none] W fun e w' => e = .returned (.int .i64 0) ∧ Below W.heap.size W w'
  pend : ∀ (W : World), Calls Try.prog 24 #[.pointer none] W fun e w' => e = .returned (.int .i64 0) ∧ Below W.heap.size W w'
  crash : ∀ (f : Value) (W : World), Calls Try.prog 16 #[.pointer none, f] W fun e w' => e = .returned (.int .i64 1) ∧ Below W.heap.size W w'

set_option maxRecDepth 100000 in
set_option maxHeartbeats 4000000 in
theorem none5 (N : ProgN) (name s : ByteArray) (pl : Int) (w : World) (HAL : Calls Try.prog 6 #[] w fun e w' => e = .returned (.bool true) ∧ Below w.heap.size w w') :
    Calls Try.prog 5 #[.string name, .int .i64 pl, .string s] w fun e w' => e = .returned (.bool true) ∧ Below w.heap.size w w' := by
  have HA := Lib.hid HAL
  have H1 := Lib.hid N.write; have H2 := Lib.hid N.sync; have H3 := Lib.hid N.cut; have H4 := Lib.hid N.read; have H5 := Lib.hid N.files
  have H6 := Lib.hid N.kept; have H7 := Lib.hid N.used; have H8 := Lib.hid N.room; have H9 := Lib.hid N.pend; have H10 := Lib.hid N.crash
  have HK := Lib.hid (fun W => keep17 none 0 0 W)
  clear HAL N
  go_enter Try.func5, Try.ntmps5
  go_wp2_with (first
    | (go_at_call 6; refine HA.out.mono ?_; rintro e w0 ⟨rfl, hb⟩; have B0 := Lib.hid hb; clear hb)
    | (go_at_call 19; refine (H1.out _ _ _ _).mono ?_; rintro e w1 ⟨rfl, hb⟩; have B1 := Lib.hid (bt2 B0.out hb); clear hb)
    | (go_at_call 12; refine (H2.out _).mono ?_; rintro e w2 ⟨rfl, hb⟩; have B2 := Lib.hid (bt2 B1.out hb); clear hb)
    | (go_at_call 14; refine (H3.out _ _ _).mono ?_; rintro e w3 ⟨rfl, hb⟩; have B3 := Lib.hid (bt2 B2.out hb); clear hb)
    | (go_at_call 22; refine (H4.out _ _).mono ?_; rintro e w4 ⟨rfl, hb⟩; have B4 := Lib.hid (bt2 B3.out hb); clear hb)
    | (go_at_call 26; refine (H5.out _).mono ?_; rintro e w5 ⟨⟨a5, c5, rfl⟩, hb⟩; have B5 := Lib.hid (bt2 B4.out hb); clear hb)
    | (go_at_call 27; refine (H6.out _).mono ?_; rintro e w6 ⟨⟨a6, c6, rfl⟩, hb⟩; have B6 := Lib.hid (bt2 B5.out hb); clear hb)
    | (go_at_call 28; refine (H7.out _).mono ?_; rintro e w7 ⟨rfl, hb⟩; have B7 := Lib.hid (bt2 B6.out hb); clear hb)
    | (go_at_call 29; refine (H8.out _).mono ?_; rintro e w8 ⟨rfl, hb⟩; have B8 := Lib.hid (bt2 B7.out hb); clear hb)
    | (go_at_call 24; refine (H9.out _).mono ?_; rintro e w9 ⟨rfl, hb⟩; have B9 := Lib.hid (bt2 B8.out hb); clear hb)
    | (go_at_call 17; refine (HK.out _).mono ?_; rintro e w10 ⟨rfl, _, hb⟩; have B10 := Lib.hid (bt2 B9.out hb); clear hb)
    | (go_at_call 16; refine (H10.out _ _).mono ?_; rintro e w11 ⟨rfl, hb⟩; have B11 := Lib.hid (bt2 B10.out hb); clear hb))
  go_ret
  exact ⟨rfl, B11.out⟩
end Go.Proofs.Ytcedkilgfoiifaa
