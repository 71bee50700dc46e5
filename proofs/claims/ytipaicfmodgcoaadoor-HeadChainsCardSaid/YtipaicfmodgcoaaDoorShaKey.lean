/- The constants in one row: the contract of MakeKey. -/
import Derived.Test.YtipaicfmodgcoaaDoorShaConsts
import Derived.Deep.Cut
namespace Go.Proofs.YtipaicfmodgcoaaDoor
open Go.RowKit

/-- The constants in one row: 64 of the rounds, 8 of the first state. -/
def keyCells : Array Value := (KL true ++ (KL false).take 8).toArray
theorem key_built : Tryd.prog.built 37 [(0, .agg (KL true).toArray), (1, .agg ((KL false).take 8).toArray)] = some keyCells := by kernel_rfl
theorem info33 : (Tryd.prog.info? 37).map (·.size) = some 72 := by kernel_rfl
theorem key_size : keyCells.size = 72 := by
  unfold keyCells
  rw [List.size_toArray, List.length_append, List.length_take, KL_len, KL_len]
  rfl
theorem key_one : keyCells.all (·.oneCell') = true := by
  rw [Array.all_eq_true_iff_forall_mem]
  intro v hv
  unfold keyCells at hv
  have h1 : v ∈ KL true ++ (KL false).take 8 := by simpa using hv
  rcases List.mem_append.1 h1 with h | h
  · unfold KL at h
    obtain ⟨q, _, rfl⟩ := List.mem_map.1 h
    rfl
  · have h := List.mem_of_mem_take h
    unfold KL at h
    obtain ⟨q, _, rfl⟩ := List.mem_map.1 h
    rfl

theorem results_cell {fn : Func} {p : Tmp} {ty : TypeId} (h : fn.results = #[.cell p ty]) (tmps : Array Value) (P : Program) (w : World) :
    (results fn tmps).run P w = ((asAddr (tmps.getD p undef)).run P w).andThen fun a w1 => (loadVar ty a).run P w1 := by
  simp only [results, h]
  simp [Sem.run_bind, Result.andThen]
theorem results_run1 {P : Program} (ty : TypeId) (a : Addr) (w : World) {x v : Value} (hx : x = .pointer (some a)) (h1 : (loadVar ty a).run P w = .ok v w) :
    (((asAddr x).run P w).andThen fun a w1 => (loadVar ty a).run P w1) = .ok v w := by
  subst hx
  simp [asAddr, Result.andThen, h1]

theorem one_alloc {w w1 : World} {A : Obj} (hb : Below (w.alloc A).heap.size (w.alloc A) w1) : w1.heap[w.heap.size]? = some A ∧ Below w.heap.size w w1 ∧ w.heap.size < w1.heap.size := by
  have e1 : (w.alloc A).heap.size = w.heap.size + 1 := by simp
  refine ⟨(hb.block _ (by omega)).trans (heap_alloc_new w A), ((Below.refl _ w).alloc (Nat.le_refl _) _).trans (hb.mono (by omega)), by have := hb.size; omega⟩
theorem second_alloc (w : World) (A B : Obj) : ((w.alloc A).alloc B).heap[w.heap.size + 1]? = some B := by
  have h := heap_alloc_new (w.alloc A) B
  simpa using h

theorem wpList_build_eq {P : Program} {ops : Array Oper} {rest : List Oper} {o : Oper} {a : Act} {w : World} {Q : Exit → Act → World → Prop} (hg : o.guard = none) (t : TypeId) (parts : Array (Nat × Operand)) (ho : o.op = .build t parts)
    (L : List (Nat × Value)) (cells : Array Value) (hp : (parts.map fun (i, x) => (i, a.eval x)).toList = L) (hb : P.built t L = some cells)
    (h : wpList P ops Q rest (a.put o.dst (.agg cells)) w) : wpList P ops Q (o :: rest) a w :=
  wpList_build hg t parts ho (by rw [hp, hb]; rfl) (by rw [hp, hb]; exact h)

theorem row_other {w : World} {g k : Nat} {cs : Array Value} {r : Option Obj} (h : k ≠ g) (hr : w.heap[k]? = r) : (w.setRow g cs).heap[k]? = r := (setRow_other w g k cs h).trans hr

theorem at_world {P : Program} {c : Code} {Q : Exit → Act → World → Prop} {a : Act} {W : World} (Φ : World → Prop) (hΦ : Φ W) (h : ∀ W', Φ W' → Code.wp P c Q a W') : Code.wp P c Q a W := h W hΦ
theorem below_rows2 {w w1 : World} {A B : Obj} {a b : Nat} {ks hs : Array Value} (h : Below w.heap.size w w1) (ha : w.heap.size ≤ a) (hb : w.heap.size ≤ b) : Below w.heap.size w ((((w1.alloc A).alloc B).setRow a ks).setRow b hs) := by
  have h2 := (h.alloc h.size A).alloc (by have := h.size; simp; omega) B
  exact ⟨h2.os, h2.tape, h2.output, by have := h2.size; simpa using this, fun k hk => by rw [setRow_other _ _ _ _ (by omega), setRow_other _ _ _ _ (by omega)]; exact h2.block k hk⟩

theorem below_row1 {w W : World} {a : Nat} {ks : Array Value} (h : Below w.heap.size w W) (ha : w.heap.size ≤ a) : Below w.heap.size w (W.setRow a ks) :=
  ⟨h.os, h.tape, h.output, by have := h.size; simpa using this, fun k hk => by rw [setRow_other _ _ _ _ (by omega)]; exact h.block k hk⟩

theorem zero33 (W : World) : (zeroValue 37).run Tryd.prog W = .ok (.agg (Array.replicate 72 (.int .u32 0))) W := by kernel_rfl

set_option maxRecDepth 100000 in
set_option maxHeartbeats 400000 in
/-- MakeKey: the constants. -/
theorem makeKey11 (w : World) : Calls Tryd.prog 13 #[] w fun e w' => e = .returned (.agg keyCells) ∧ Below w.heap.size w w' := by
  have w30 : (Tryd.prog.info? 34).map (·.size) = some (KL true).toArray.size := by rw [List.size_toArray, KL_len]; exact info30
  have w31 : (Tryd.prog.info? 35).map (·.size) = some ((KL false).take 8).toArray.size := by rw [List.size_toArray, List.length_take, KL_len]; exact info31
  have w33 : (Tryd.prog.info? 37).map (·.size) = some keyCells.size := by rw [key_size]; exact info33
  have s30 : (KL true).toArray.size = 64 := by rw [List.size_toArray, KL_len]
  have s31 : ((KL false).take 8).toArray.size = 8 := by rw [List.size_toArray, List.length_take, KL_len]; rfl
  have o30 := KL_one true (KL true).toArray (by simp)
  have o31 := KL_one8 ((KL false).take 8).toArray (by simp)
  generalize hk1 : (KL true).toArray = ks at *
  generalize hk2 : ((KL false).take 8).toArray = hs at *
  have HK1 := Lib.hid hk1; have HK2 := Lib.hid hk2
  have HB := Lib.hid key_built
  rw [hk1, hk2] at HB
  have HC := Lib.hid (fun W => consts14 W)
  rw [hk1, hk2] at HC
  clear hk1 hk2
  have H30 := Lib.hid w30; have H31 := Lib.hid w31; have H33 := Lib.hid w33; have S30 := Lib.hid s30; have S31 := Lib.hid s31
  clear w30 w31 w33 s30 s31
  have hz : ∃ Z : Array Value, Z.size = 72 ∧ ∀ W, (zeroValue 37).run Tryd.prog W = .ok (.agg Z) W := ⟨_, by rw [Array.size_replicate], zero33⟩
  obtain ⟨Z, hZs, hZ⟩ := hz
  have HZS := Lib.hid hZs; clear hZs
  go_enter Tryd.func13, Tryd.ntmps13
  go_upto_region 2 with (first
    | (go_at_call 28; refine (HC.out _).mono ?_; rintro e w1 ⟨rfl, hb⟩; obtain ⟨hZ1, hbw, hsz⟩ := one_alloc hb; clear hb; have HZ1 := Lib.hid hZ1; have HBW := Lib.hid hbw; clear hZ1 hbw)
    | (refine wpList_store_row rfl 34 (.tmp 1) (.tmp 5) rfl _ ks rfl rfl 34 _ ((Below.heap_alloc _ _ _ (by simp)).trans (heap_alloc_new _ _)) H30.out (by rw [S30.out]; rfl) o30 ?_)
    | (refine wpList_store_row rfl 35 (.tmp 2) (.tmp 6) rfl _ hs rfl rfl 35 _ (row_other (by omega) (second_alloc _ _ _)) H31.out (by rw [S31.out]; rfl) o31 ?_))
  refine at_world (Φ := fun W => W.heap[w1.heap.size]? = some (.cells ks 34 (0, 0)) ∧ W.heap[w1.heap.size + 1]? = some (.cells hs 35 (0, 0)) ∧ W.heap[w.heap.size]? = some (.cells Z 37 (0, 0)) ∧ Below w.heap.size w W) ⟨?_, ?_, ?_, ?_⟩ ?_
  · exact row_other (by omega) (setRow_heap _ _ _ ks 34 (0, 0) ((Below.heap_alloc _ _ _ (by simp)).trans (heap_alloc_new _ _)))
  · exact setRow_heap _ _ _ hs 35 (0, 0) (row_other (by omega) (second_alloc _ _ _))
  · exact row_other (by omega) (row_other (by omega) ((Below.heap_alloc _ _ _ (by simp; omega)).trans ((Below.heap_alloc _ _ _ (by omega)).trans HZ1.out)))
  · exact below_rows2 HBW.out (by omega) (by omega)
  · rintro W ⟨g1, g2, g3, g4⟩
    have G3 := Lib.hid g3; have G4 := Lib.hid g4
    clear g3 g4 HC
    go_wp2_with (first
      | (refine wpList_load_row rfl 34 (.tmp 1) rfl w1.heap.size rfl 34 ks (0, 0) _ g1 Tryd.underlying34 rfl H30.out ?_)
      | (refine wpList_load_row rfl 35 (.tmp 2) rfl (w1.heap.size + 1) rfl 35 hs (0, 0) _ g2 Tryd.underlying35 rfl H31.out ?_)
      | (refine wpList_build_eq rfl 37 #[(0, .tmp 7), (1, .tmp 8)] rfl [(0, .agg ks), (1, .agg hs)] keyCells (by simp [Act.eval, Act.put]) HB.out ?_)
      | (refine wpList_store_row rfl 37 (.tmp 0) (.tmp 9) rfl w.heap.size keyCells rfl rfl 37 Z G3.out H33.out (by rw [HZS.out, key_size]) key_one ?_))
    refine bodyPost_ret (v := .agg keyCells) ?_ rfl ⟨rfl, ?_⟩
    · rw [results_cell rfl]
      exact results_run1 _ _ _ rfl (run_loadVar_row _ _ 37 37 keyCells (0, 0) _ (setRow_heap _ _ Z keyCells 37 (0, 0) G3.out) Tryd.underlying37 rfl H33.out)
    · exact below_row1 G4.out (Nat.le_refl _)
end Go.Proofs.YtipaicfmodgcoaaDoor
