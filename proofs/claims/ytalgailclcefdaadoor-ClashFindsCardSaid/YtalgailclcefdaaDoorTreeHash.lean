/- Hashes of leaves and nodes: the contracts of Leaf, Node, the program's and the document's. -/
import Derived.Test.YtalgailclcefdaaDoorTreeMem
import Derived.Test.YtalgailclcefdaaDoorShaAlive
namespace Go.Proofs.YtalgailclcefdaaDoor
open Go.RowKit

/-- A digest, cut. -/
def cutH (n : Nat) (s : ByteArray) : ByteArray := (digS s).extract 0 n
theorem cutH_size (n : Nat) (hn : n ≤ 32) (s : ByteArray) : (cutH n s).size = n := by
  unfold cutH; rw [ByteArray.size_extract, digS_size]; omega
theorem bt2 {a b c : World} (h : Below a.heap.size a b) (k : Below b.heap.size b c) : Below a.heap.size a c := h.trans (k.mono h.size)
theorem size_add (a b : ByteArray) : (a ++ b).size = a.size + b.size := ByteArray.size_append ..

theorem digest33 (s : ByteArray) (n : Nat) (w : World) (h0 : 1 ≤ n) (h1 : n ≤ 32) (hs : s.size ≤ 800000) (hK : KHeld w) :
    Calls Tryd.prog 59 #[.string s, .int .i64 (n : Int)] w fun e w' => e = .returned (.string (cutH n s)) ∧ Below w.heap.size w w' := by
  have HC := Lib.hid (cut_yes s n w h0 h1 hs hK)
  rw [show (digS s).extract 0 n = cutH n s from rfl] at HC
  generalize cutH n s = D at *
  clear hK
  go_enter Tryd.func59, Tryd.ntmps59
  go_wp2_with (go_at_call 45; refine HC.out.mono ?_; rintro e w1 ⟨rfl, hb1⟩; have HB1 := Lib.hid hb1; clear hb1)
  go_ret
  exact ⟨rfl, HB1.out⟩
theorem leaf29 (s : ByteArray) (n : Nat) (w : World) (h0 : 1 ≤ n) (h1 : n ≤ 32) (hs : s.size ≤ 700000) (hK : KHeld w) :
    Calls Tryd.prog 60 #[.string s, .int .i64 (n : Int)] w fun e w' => e = .returned (.string (leafS (cutH n) s)) ∧ Below w.heap.size w w' := by
  have hz : (⟨#[0]⟩ ++ s : ByteArray).size ≤ 800000 := by rw [size_add]; show 1 + s.size ≤ _; omega
  have HC := Lib.hid (digest33 (⟨#[0]⟩ ++ s) n w h0 h1 hz hK)
  rw [show cutH n (⟨#[0]⟩ ++ s) = leafS (cutH n) s from rfl] at HC
  have e : (⟨#[0]⟩ ++ s : ByteArray).size = 1 + s.size := by rw [size_add]; rfl
  generalize leafS (cutH n) s = D at *
  clear hK
  go_enter Tryd.func60, Tryd.ntmps60
  go_wp2_with (go_at_call 59; refine HC.out.mono ?_; rintro e w1 ⟨rfl, hb1⟩; have HB1 := Lib.hid hb1; clear hb1)
  go_ret
  exact ⟨rfl, HB1.out⟩
theorem node31 (s t : ByteArray) (n : Nat) (w : World) (h0 : 1 ≤ n) (h1 : n ≤ 32) (hs : s.size ≤ 1000) (ht : t.size ≤ 1000) (hK : KHeld w) :
    Calls Tryd.prog 62 #[.string s, .string t, .int .i64 (n : Int)] w fun e w' => e = .returned (.string (nodeS (cutH n) s t)) ∧ Below w.heap.size w w' := by
  have e : (⟨#[1]⟩ ++ s : ByteArray).size = 1 + s.size := by rw [size_add]; rfl
  have e2 : ((⟨#[1]⟩ ++ s) ++ t : ByteArray).size = 1 + s.size + t.size := by rw [size_add, e]
  have HC := Lib.hid (digest33 ((⟨#[1]⟩ ++ s) ++ t) n w h0 h1 (by omega) hK)
  rw [show cutH n ((⟨#[1]⟩ ++ s) ++ t) = nodeS (cutH n) s t from rfl] at HC
  generalize nodeS (cutH n) s t = D at *
  clear hK
  go_enter Tryd.func62, Tryd.ntmps62
  go_wp2_with (go_at_call 59; refine HC.out.mono ?_; rintro e w1 ⟨rfl, hb1⟩; have HB1 := Lib.hid hb1; clear hb1)
  go_ret
  exact ⟨rfl, HB1.out⟩

theorem cut22 (s : ByteArray) (n : Nat) (w : World) (h1 : n ≤ 32) (hs : s.size ≤ 100000) :
    Calls Tryd.prog 16 #[.agg keyCells, .string s, .int .i64 (n : Int)] w fun e w' => e = .returned (.string (cutH n s)) ∧ Below w.heap.size w w' := by
  have HC := Lib.hid (show ∀ W, Calls Tryd.prog 28 #[.agg keyCells, .string s] W fun e w' => e = .returned (.string (digS s)) ∧ Below W.heap.size W w' from fun W => digest16 s W hs)
  have HI := Lib.hid (show (Tryd.prog.info? 32).map (·.size) = some keyCells.size by rw [key_size]; exact info33)
  have HX := Lib.hid (show (digS s).extract 0 n = cutH n s from rfl)
  have hd := digS_size s
  have hn32 : (n : Int) ≤ ((digS s).size : Int) := by omega
  clear hd
  generalize digS s = D at *
  generalize keyCells = kc at *
  go_enter Tryd.func16, Tryd.ntmps16
  go_upto_region 1 with (fail)
  refine at_world (Φ := fun W => W.heap[w.heap.size]? = some (.cells kc 32 (0, 0)) ∧ Below w.heap.size w W) ⟨heap_alloc_new w _, (Below.refl _ w).alloc (Nat.le_refl _) _⟩ ?_
  rintro W ⟨g1, g2⟩
  have HG := Lib.hid g1; have HB := Lib.hid g2
  clear g1 g2
  go_wp2_with (first
    | (refine wpList_load_row rfl 32 (.tmp 3) rfl w.heap.size rfl 32 kc (0, 0) _ HG.out Tryd.underlying32 rfl HI.out ?_)
    | (go_at_call 28; refine (HC.out _).mono ?_; rintro e w1 ⟨rfl, hb1⟩; have HB1 := Lib.hid hb1; clear hb1))
  go_ret
  exact ⟨ret_str HX.out, bt2 HB.out HB1.out⟩
end Go.Proofs.YtalgailclcefdaaDoor
