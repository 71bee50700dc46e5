/- The rounds of the program: the contract of rounds. -/
import Derived.Test.YtipaicfmodgcoaaDoorShaVals
import Derived.Test.YtipaicfmodgcoaaDoorShaKey
import Derived.Lib.LaidTab
import Derived.Deep.QuietTactic
import Derived.BigQuiet
namespace Go.Proofs.YtipaicfmodgcoaaDoor
open Go.RowKit

def stA (s : St) : Array Value := #[.int .u32 (vn s.a), .int .u32 (vn s.b), .int .u32 (vn s.c), .int .u32 (vn s.d), .int .u32 (vn s.e), .int .u32 (vn s.f), .int .u32 (vn s.g), .int .u32 (vn s.h)]
/-- The program's constants lie in their variable. -/
def KHeld (W : World) : Prop := ∀ i, i < 64 → W.cell? ⟨0, i, none⟩ = some (.int .u32 (vn (kw i)))
/-- A row of words lies in a block. -/
def WHeld (W : World) (g : Nat) (wd : List Wd) : Prop := ∀ i, i < wd.length → W.cell? ⟨g, i, none⟩ = some (.int .u32 (vn (wd.getD i 0)))
/-- The eight words of a state lie in a block. -/
def SHeld (W : World) (g : Nat) (s : St) : Prop :=
  W.cell? ⟨g, 0, none⟩ = some (.int .u32 (vn s.a)) ∧ W.cell? ⟨g, 1, none⟩ = some (.int .u32 (vn s.b)) ∧ W.cell? ⟨g, 2, none⟩ = some (.int .u32 (vn s.c)) ∧ W.cell? ⟨g, 3, none⟩ = some (.int .u32 (vn s.d)) ∧
  W.cell? ⟨g, 4, none⟩ = some (.int .u32 (vn s.e)) ∧ W.cell? ⟨g, 5, none⟩ = some (.int .u32 (vn s.f)) ∧ W.cell? ⟨g, 6, none⟩ = some (.int .u32 (vn s.g)) ∧ W.cell? ⟨g, 7, none⟩ = some (.int .u32 (vn s.h))

theorem SHeld_of {W : World} {g T : Nat} {s : St} (h : W.heap[g]? = some (.cells (stA s) T (0, 0))) : SHeld W g s := by
  have c := fun i => cell_of_row W g i (stA s) T (0, 0) h
  exact ⟨c 0, c 1, c 2, c 3, c 4, c 5, c 6, c 7⟩
theorem WHeld_of {W : World} {g T : Nat} {ws : Array Value} {wd : List Wd} (h : W.heap[g]? = some (.cells ws T (0, 0))) (hw : ws.toList = wd.map wv) : WHeld W g wd := by
  intro i hi
  rw [cell_of_row W g i ws T (0, 0) h, ← Array.getElem?_toList, hw, List.getElem?_map]
  simp [List.getD, hi, wv, vn]
theorem KHeld_of {w W : World} (h : KHeld w) (hb : Below w.heap.size w W) : KHeld W := by
  intro i hi
  have h1 := h i hi
  have h2 := World.block_lt_of_cell? w _ h1
  rw [hb.cell (p := ⟨0, i, none⟩) h2]; exact h1
theorem three_alloc {w : World} {A B C : Obj} : (((w.alloc A).alloc B).alloc C).heap[w.heap.size]? = some A ∧ (((w.alloc A).alloc B).alloc C).heap[w.heap.size + 1]? = some B ∧ (((w.alloc A).alloc B).alloc C).heap[w.heap.size + 1 + 1]? = some C ∧ Below w.heap.size w (((w.alloc A).alloc B).alloc C) := by
  have e1 : (w.alloc A).heap.size = w.heap.size + 1 := by simp
  have e2 : ((w.alloc A).alloc B).heap.size = w.heap.size + 1 + 1 := by simp
  have h0 := heap_alloc_new w A
  have h1 := heap_alloc_new (w.alloc A) B
  have h2 := heap_alloc_new ((w.alloc A).alloc B) C
  rw [e1] at h1; rw [e2] at h2
  refine ⟨?_, ?_, h2, (((Below.refl _ w).alloc (Nat.le_refl _) _).alloc (by omega) _).alloc (by omega) _⟩
  · rw [Below.heap_alloc _ _ _ (by omega), Below.heap_alloc _ _ _ (by omega)]; exact h0
  · rw [Below.heap_alloc _ _ _ (by omega)]; exact h1

theorem below_drewN {B : Nat} {w W : World} (h : Below B w W) (n : Nat) : Below B w (W.drewN n) := by
  induction n generalizing W with
  | zero => exact h
  | succ n ih => exact Below.drew (ih h)
theorem right_q (x : Wd) (n : Nat) (w : World) (h0 : 0 < n) (h1 : n < 32) :
    Calls Tryd.prog 85 #[.int .u32 (vn x), .int .i64 (n : Int)] w fun e w' => e = .returned (.int .u32 (vn (ror x n))) ∧ w' = w :=
  (right_v x n w h0 h1).mono fun _ _ h => ⟨h.1, h.2.symm⟩

theorem vn_com (x : Wd) : bits .xor .u32 (if IntKind.u32.signed = true then -1 else IntKind.u32.max) (vn x) = vn (~~~x) := by
  have e : (if IntKind.u32.signed = true then (-1 : Int) else IntKind.u32.max) = ((4294967295 : Nat) : Int) := by decide
  rw [e]; unfold vn
  rw [u32_xor_nat _ _ (by omega) x.isLt, BitVec.toNat_not]
  have hx := x.isLt
  congr 1
  have h : (4294967295 : Nat) = (BitVec.allOnes 32).toNat := by decide
  rw [h, ← BitVec.toNat_xor, BitVec.allOnes_xor, BitVec.toNat_not]
theorem stA_one (s : St) : (stA s).all (·.oneCell') = true := by simp [stA, Value.oneCell']
theorem info41 : (Tryd.prog.info? 35).map (·.size) = some 8 := by kernel_rfl
theorem built41 (s : St) : Tryd.prog.built 35 [(0, .int .u32 (vn s.a)), (1, .int .u32 (vn s.b)), (2, .int .u32 (vn s.c)), (3, .int .u32 (vn s.d)), (4, .int .u32 (vn s.e)), (5, .int .u32 (vn s.f)), (6, .int .u32 (vn s.g)), (7, .int .u32 (vn s.h))] = some (stA s) := by kernel_rfl

/-- What the loop of the rounds holds. -/
def RndRel (W : World) (wd : List Wd) (s : St) (va vb vc vd ve vf vg vh vi : Value) (W' : World) : Prop :=
  ∃ i : Nat, i ≤ 64 ∧ va = .int .u32 (vn (rnds wd s i).a) ∧ vb = .int .u32 (vn (rnds wd s i).b) ∧ vc = .int .u32 (vn (rnds wd s i).c) ∧ vd = .int .u32 (vn (rnds wd s i).d) ∧
    ve = .int .u32 (vn (rnds wd s i).e) ∧ vf = .int .u32 (vn (rnds wd s i).f) ∧ vg = .int .u32 (vn (rnds wd s i).g) ∧ vh = .int .u32 (vn (rnds wd s i).h) ∧ vi = .int .i64 (i : Int) ∧ ∃ n, W' = W.drewN n

set_option maxRecDepth 100000 in
set_option maxHeartbeats 1000000 in
theorem rounds24 (s : St) (ws : Array Value) (wd : List Wd) (w : World) (hw : ws.toList = wd.map wv) (hl : wd.length = 64) (hK : KHeld w) :
    Calls Tryd.prog 83 #[.agg (stA s), .agg ws] w fun e w' => e = .returned (.agg (stA (rnds wd s 64))) ∧ Below w.heap.size w w' := by
  have hadd := vn_add
  have hxor := vn_xor
  have hor := vn_or
  have hand := vn_and
  have hcom := vn_com
  have HK := Lib.hid hK
  have HW := Lib.hid hw
  have HL := Lib.hid hl
  clear hK hw hl
  generalize hsv : stA s = sv
  have HSV := Lib.hid hsv
  clear hsv
  go_enter Tryd.func83, Tryd.ntmps83
  go_wp2
  refine at_world (Φ := fun W => W.heap[w.heap.size]? = some (.cells sv 35 (0, 0)) ∧ W.heap[w.heap.size + 1]? = some (.cells ws 34 (0, 0)) ∧ (∃ Z, W.heap[w.heap.size + 1 + 1]? = some (.cells Z 35 (0, 0)) ∧ Z.size = 8) ∧ Below w.heap.size w W) ⟨three_alloc.1, three_alloc.2.1, ⟨_, three_alloc.2.2.1, rfl⟩, three_alloc.2.2.2⟩ ?_
  rintro W ⟨g1, g2, ⟨Z, g3, hZ⟩, g4⟩
  obtain ⟨c0, c1, c2, c3, c4, c5, c6, c7⟩ := SHeld_of (s := s) (by rw [HSV.out]; exact g1)
  have HWH := Lib.hid (WHeld_of g2 HW.out)
  have HKH := Lib.hid (KHeld_of HK.out g4)
  have HZ := Lib.hid g3
  have HZS := Lib.hid hZ
  have HB := Lib.hid g4
  clear g1 g2 g3 g4 hZ HK
  go_quiet (fail)
  go_wp2
  go_quiet (fail)
  go_wp2
  refine at_world (Φ := fun W1 => WHeld W1 (w.heap.size + 1) wd ∧ KHeld W1 ∧ (W1.heap[w.heap.size + 1 + 1]? = some (.cells Z 35 (0, 0))) ∧ Below w.heap.size w W1) ⟨by simpa [WHeld] using HWH.out, by simpa [KHeld] using HKH.out, by simpa using HZ.out, below_drewN (below_drewN HB.out _) _⟩ ?_
  clear HWH HKH HZ HB c0 c1 c2 c3 c4 c5 c6 c7
  rintro W1 ⟨k1, k2, k3, k4⟩
  have HWH := Lib.hid k1; have HKH := Lib.hid k2; have HZ := Lib.hid k3; have HB := Lib.hid k4
  clear k1 k2 k3 k4
  go_loopw [5, 6, 7, 8, 9, 10, 11, 12, 32] (fun va vb vc vd ve vf vg vh vi W' => RndRel W1 wd s va vb vc vd ve vf vg vh vi W') (fun _ _ _ _ _ _ _ _ vi _ => 64 - (intOf vi).toNat)
  case atStart => exact ⟨0, by omega, rfl, rfl, rfl, rfl, rfl, rfl, rfl, rfl, rfl, 0, rfl⟩
  case round =>
    obtain ⟨i, hi, rfl, rfl, rfl, rfl, rfl, rfl, rfl, rfl, rfl, n, rfl⟩ := hrel
    by_cases hlt : i < 64
    · have hlt2 : (i : Int) < 64 := by omega
      have k1 := HKH.out i hlt
      have k2 := HWH.out i (by rw [HL.out]; exact hlt)
      obtain ⟨S, hS⟩ : ∃ S, rnds wd s i = S := ⟨_, rfl⟩
      obtain ⟨wi, hwi⟩ : ∃ wi, wd.getD i 0 = wi := ⟨_, rfl⟩
      obtain ⟨ki, hki⟩ : ∃ ki, kw i = ki := ⟨_, rfl⟩
      rw [hS]; rw [hwi] at k2; rw [hki] at k1
      have HSS := Lib.hid hS; have HWI := Lib.hid hwi; have HKI := Lib.hid hki
      clear hS hwi hki
      go_wp2
      refine at_world (Φ := fun W2 => W2.cell? ⟨0, i, none⟩ = some (.int .u32 (vn ki)) ∧ W2.cell? ⟨w.heap.size + 1, i, none⟩ = some (.int .u32 (vn wi)) ∧ ∃ m, W2 = W1.drewN m) ⟨by simpa using k1, by simpa using k2, n, rfl⟩ ?_
      clear k1 k2
      rintro W2 ⟨k1, k2, hm⟩
      have HM := Lib.hid hm
      clear hm
      go_quiet ((go_at_call 85; exact Calls.quiet_of_same (right_q _ _ _ (by decide) (by decide))))
      go_wp2_with (go_at_call 85; refine (right_v _ _ _ (by decide) (by decide)).mono ?_; rintro e w' ⟨rfl, rfl⟩)
      go_roundw
      case rel =>
        obtain ⟨m, rfl⟩ := HM.out
        refine ⟨i + 1, by omega, ?_, ?_, ?_, ?_, ?_, ?_, ?_, ?_, by go_num, m + nq, World.drewN_drewN _ _ _⟩ <;> (rw [rnds, HSS.out, HKI.out, HWI.out]; rfl)
      case measure => simp [intOf]; omega
    · have hi64 : i = 64 := by omega
      subst hi64
      obtain ⟨S, hS⟩ : ∃ S, rnds wd s 64 = S := ⟨_, rfl⟩
      have HSS := Lib.hid hS
      rw [hS]
      clear hS hlt hi
      have HZ1 := Lib.hid (show (W1.drewN n).heap[w.heap.size + 1 + 1]? = some (.cells Z 35 (0, 0)) by simpa using HZ.out)
      have HB1 := Lib.hid (below_drewN HB.out n)
      generalize W1.drewN n = W2 at *
      go_wp2_with (first
        | (refine wpList_build_eq rfl 35 #[(0, .tmp 95), (1, .tmp 96), (2, .tmp 97), (3, .tmp 98), (4, .tmp 99), (5, .tmp 100), (6, .tmp 101), (7, .tmp 102)] rfl [(0, .int .u32 (vn S.a)), (1, .int .u32 (vn S.b)), (2, .int .u32 (vn S.c)), (3, .int .u32 (vn S.d)), (4, .int .u32 (vn S.e)), (5, .int .u32 (vn S.f)), (6, .int .u32 (vn S.g)), (7, .int .u32 (vn S.h))] (stA S) (by simp [Act.eval, Act.put]) (built41 S) ?_)
        | (refine wpList_store_row rfl 35 (.tmp 4) (.tmp 103) rfl (w.heap.size + 1 + 1) (stA S) rfl rfl 35 Z HZ1.out info41 (by rw [HZS.out]; rfl) (stA_one S) ?_))
      refine bodyPost_ret (v := .agg (stA S)) ?_ rfl ⟨by rw [HSS.out], ?_⟩
      · rw [results_cell rfl]
        exact results_run1 _ _ _ rfl (run_loadVar_row _ _ 35 35 (stA S) (0, 0) _ (setRow_heap _ _ Z (stA S) 35 (0, 0) HZ1.out) Tryd.underlying35 rfl info41)
      · exact below_row1 HB1.out (by omega)
end Go.Proofs.YtipaicfmodgcoaaDoor
