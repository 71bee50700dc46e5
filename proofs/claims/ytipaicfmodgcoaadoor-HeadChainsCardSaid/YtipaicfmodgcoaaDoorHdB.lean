/- The program's contracts of a header that is parted: whether a digest may be cut so, the parting and its way back, the pointers to its numbers and rows. The program's contract on whether a parted header may be. The program's contract on the bytes of a parted header. The program's contracts: digests, hashes, what a header behind one must be, the chain's rules. The program's contracts: what a header behind one must be; the chain's rules; the chain. The program's contract of the chain. The program's contract on what any bytes are as a header. The program's contract of Get; with it all six of package head are there. The laws' walks with the program's contracts in them. -/
import Derived.Test.YtipaicfmodgcoaaDoorNums
import Derived.Test.YtipaicfmodgcoaaDoorBase2
import Derived.Test.YtipaicfmodgcoaaDoorHdA
import Derived.Test.YtipaicfmodgcoaaDoorEvBuild
import Derived.Test.YtipaicfmodgcoaaDoorShelf
import Derived.Test.YtipaicfmodgcoaaDoorShaAlive
import Derived.Laws.EntriesVeiled
namespace Go.Proofs.YtipaicfmodgcoaaDoor
open Go.RowKit Base Base2

def hcellsL (ix fi co by' : Int) (pv rt : ByteArray) : Array Value := #[.int .i64 ix, .int .i64 fi, .int .i64 co, .int .i64 by', .string pv, .string rt]
def pcells (ix fi co by' : Int) (pv rt : ByteArray) : Array Value := #[.int .i64 ix, .int .i64 fi, .string pv, .int .i64 co, .int .i64 by', .string rt]
/-- The pointers to the numbers of a header that lies in block b, with what each may be. -/
def numC (b : Nat) : Array Value := #[.pointer (some ⟨b, 0, none⟩), .int .u64 0, .int .u64 1099511627776, .pointer (some ⟨b, 1, none⟩), .int .u64 0, .int .u64 1099511627776, .pointer (some ⟨b, 3, none⟩), .int .u64 1, .int .u64 64, .pointer (some ⟨b, 4, none⟩), .int .u64 0, .int .u64 1099511627776]
def rowC (b : Nat) : Array Value := #[.pointer (some ⟨b, 2, none⟩), .pointer (some ⟨b, 5, none⟩)]
theorem info51 : (Tryd.prog.info? 51).map (·.size) = some 6 := by kernel_rfl
theorem info23P : (Tryd.prog.info? 23).map (·.size) = some 6 := by kernel_rfl
theorem info82 : (Tryd.prog.info? 82).map (·.size) = some 12 := by kernel_rfl
theorem info89 : (Tryd.prog.info? 89).map (·.size) = some 2 := by kernel_rfl

set_option maxRecDepth 100000 in
theorem mayCut23 (n : Int) (w : World) : Calls Tryd.prog 23 #[.int .i64 n] w fun e w' => e = .returned (.bool (decide (1 ≤ n) && decide (n ≤ 32))) ∧ w' = w := by
  by_cases h1 : 1 ≤ n
  · by_cases h2 : n ≤ 32
    · rw [decide_eq_true h1, decide_eq_true h2]
      go_enter Tryd.func23, Tryd.ntmps23
      go_wp2
      go_ret
      exact ⟨rfl, rfl⟩
    · rw [decide_eq_true h1, decide_eq_false h2]
      go_enter Tryd.func23, Tryd.ntmps23
      go_wp2
      go_ret
      exact ⟨rfl, rfl⟩
  · rw [decide_eq_false h1]
    go_enter Tryd.func23, Tryd.ntmps23
    go_wp2
    go_ret
    exact ⟨rfl, rfl⟩

set_option maxRecDepth 100000 in
set_option maxHeartbeats 2000000 in
theorem parted21 (ix fi co by' : Int) (pv rt : ByteArray) (w : World) : Calls Tryd.prog 21 #[.agg (hcellsL ix fi co by' pv rt)] w fun e w' => e = .returned (.agg (pcells ix fi co by' pv rt)) ∧ Below w.heap.size w w' := by
  dsimp only [hcellsL, pcells]
  go_enter Tryd.func21, Tryd.ntmps21
  go_wp2
  refine ret_cell (cs := #[.int .i64 ix, .int .i64 fi, .string pv, .int .i64 co, .int .i64 by', .string rt]) rfl rfl rfl (by have h := heap_alloc_new (w.alloc (.cells #[.int .i64 ix, .int .i64 fi, .int .i64 co, .int .i64 by', .string pv, .string rt] 23)) (.cells #[.int .i64 ix, .int .i64 fi, .string pv, .int .i64 co, .int .i64 by', .string rt] 51); rw [World.size_alloc] at h; exact h) Tryd.underlying51 rfl info51 ?_
  exact ⟨rfl, ((Below.refl _ w).alloc (Nat.le_refl _) _).alloc (by simp) _⟩

set_option maxRecDepth 100000 in
set_option maxHeartbeats 2000000 in
theorem rows42 (b : Nat) (w : World) : Calls Tryd.prog 42 #[.pointer (some ⟨b, 0, none⟩)] w fun e w' => e = .returned (.agg (rowC b)) ∧ Below w.heap.size w w' := by
  have iT : (Tryd.prog.info? 89).map (·.size) = some (rowC b).size := info89
  have oT : (rowC b).all (·.oneCell') = true := by simp [rowC, Value.oneCell']
  obtain ⟨RC, hRC⟩ : ∃ R, rowC b = R := ⟨_, rfl⟩
  have HRC := Lib.hid hRC
  rw [hRC] at iT oT ⊢
  have zT : (#[.pointer none, .pointer none] : Array Value).size = RC.size := by rw [← hRC]; rfl
  have HZ := Lib.hid zT
  clear hRC zT
  go_enter Tryd.func42, Tryd.ntmps42
  go_upto_region 1 with (fail)
  have h0 := heap_alloc_new w (.cells #[.pointer none, .pointer none] 89)
  have HB := Lib.hid ((Below.refl w.heap.size w).alloc (Nat.le_refl _) (.cells #[.pointer none, .pointer none] 89))
  obtain ⟨W, hW⟩ : ∃ W, w.alloc (.cells #[.pointer none, .pointer none] 89) = W := ⟨_, rfl⟩
  rw [hW] at h0 HB ⊢
  clear hW
  refine wp_region_held_drew (S := fun W => Below w.heap.size w W) (by kernel_rfl) (HB.out.drew) (fun hS => ?_)
  refine wpAnyH_take (i := 0) (v := .pointer (some ⟨b, 0, none⟩)) rfl (by kernel_rfl) (by kernel_rfl) (by kernel_rfl) (fun _ _ _ h => h) (Or.inl ⟨by simp [Region.wanted], fun W _ => by go_simp⟩) hS ?_
  simp only [List.getElem_toArray, List.getElem_cons_zero, Act.put, List.setIfInBounds_toArray, List.set_cons_zero, List.set_cons_succ]
  refine wpAnyH_take (i := 1) (v := .pointer (some ⟨b, 0, none⟩)) rfl (by kernel_rfl) (by kernel_rfl) (by kernel_rfl) (fun _ _ _ h => h) (Or.inl ⟨by simp [Region.wanted], fun W _ => by go_simp⟩) hS ?_
  simp only [List.getElem_toArray, List.getElem_cons_zero, List.getElem_cons_succ, Act.put, List.setIfInBounds_toArray, List.set_cons_zero, List.set_cons_succ]
  refine wpAnyH_take (i := 2) (v := .pointer (some ⟨b, 0, none⟩)) rfl (by kernel_rfl) (by kernel_rfl) (by kernel_rfl) (fun _ _ _ h => h) (Or.inl ⟨by simp [Region.wanted], fun W _ => by go_simp⟩) hS ?_
  simp only [List.getElem_toArray, List.getElem_cons_zero, List.getElem_cons_succ, Act.put, List.setIfInBounds_toArray, List.set_cons_zero, List.set_cons_succ]
  refine wpAnyH_take (i := 3) (v := .pointer (some ⟨b, 2, none⟩)) rfl (by kernel_rfl) (by kernel_rfl) (by kernel_rfl) (fun _ _ _ h => h) (Or.inl ⟨by simp [Region.wanted], fun W _ => by go_simp⟩) hS ?_
  simp only [List.getElem_toArray, List.getElem_cons_zero, List.getElem_cons_succ, Act.put, List.setIfInBounds_toArray, List.set_cons_zero, List.set_cons_succ]
  refine wpAnyH_take (i := 4) (v := .pointer (some ⟨b, 0, none⟩)) rfl (by kernel_rfl) (by kernel_rfl) (by kernel_rfl) (fun _ _ _ h => h) (Or.inl ⟨by simp [Region.wanted], fun W _ => by go_simp⟩) hS ?_
  simp only [List.getElem_toArray, List.getElem_cons_zero, List.getElem_cons_succ, Act.put, List.setIfInBounds_toArray, List.set_cons_zero, List.set_cons_succ]
  refine wpAnyH_take (i := 5) (v := .pointer (some ⟨b, 0, none⟩)) rfl (by kernel_rfl) (by kernel_rfl) (by kernel_rfl) (fun _ _ _ h => h) (Or.inl ⟨by simp [Region.wanted], fun W _ => by go_simp⟩) hS ?_
  simp only [List.getElem_toArray, List.getElem_cons_zero, List.getElem_cons_succ, Act.put, List.setIfInBounds_toArray, List.set_cons_zero, List.set_cons_succ]
  refine wpAnyH_take (i := 6) (v := .pointer (some ⟨b, 5, none⟩)) rfl (by kernel_rfl) (by kernel_rfl) (by kernel_rfl) (fun _ _ _ h => h) (Or.inl ⟨by simp [Region.wanted], fun W _ => by go_simp⟩) hS ?_
  simp only [List.getElem_toArray, List.getElem_cons_zero, List.getElem_cons_succ, Act.put, List.setIfInBounds_toArray, List.set_cons_zero, List.set_cons_succ]
  refine wpAnyH_take (i := 7) (v := .agg RC) rfl (by kernel_rfl) (by kernel_rfl) (by kernel_rfl) (fun _ _ _ h => h) (Or.inl ⟨by simp [Region.wanted], fun W _ => by go_simp; rw [← HRC.out]; rfl⟩) hS ?_
  simp only [List.getElem_toArray, List.getElem_cons_zero, List.getElem_cons_succ, Act.put, List.setIfInBounds_toArray, List.set_cons_zero, List.set_cons_succ]
  refine wpAnyH_ready (rs := [8]) (by kernel_rfl) (by simp) ?_
  refine AllReadyH.cons rfl (fun K1 hK1 => ?_) AllReadyH.nil
  refine wanted_go rfl ?_
  simp only [List.getElem_toArray, List.getElem_cons_zero, List.getElem_cons_succ]
  refine wp_store_row 89 (.tmp 2) (.tmp 10) rfl w.heap.size RC rfl rfl 89 _ h0 iT HZ.out oT ?_
  refine hK1.out _ _ (below_row1 hS (Nat.le_refl _)) (fun hS1 => ?_)
  refine wpAnyH_done (by kernel_rfl) ?_ _
  go_wp2
  refine ret_cell rfl rfl rfl (setRow_heap _ _ _ _ _ _ h0) Tryd.underlying89 rfl iT ?_
  exact ⟨rfl, hS1⟩

set_option maxRecDepth 100000 in
set_option maxHeartbeats 2000000 in
theorem numbers39 (b : Nat) (w : World) : Calls Tryd.prog 39 #[.pointer (some ⟨b, 0, none⟩)] w fun e w' => e = .returned (.agg (numC b)) ∧ Below w.heap.size w w' := by
  have iT : (Tryd.prog.info? 82).map (·.size) = some (numC b).size := info82
  have oT : (numC b).all (·.oneCell') = true := by simp [numC, Value.oneCell']
  obtain ⟨RC, hRC⟩ : ∃ R, numC b = R := ⟨_, rfl⟩
  have HRC := Lib.hid hRC
  rw [hRC] at iT oT ⊢
  have zT : (#[.pointer none, .int .u64 0, .int .u64 0, .pointer none, .int .u64 0, .int .u64 0, .pointer none, .int .u64 0, .int .u64 0, .pointer none, .int .u64 0, .int .u64 0] : Array Value).size = RC.size := by rw [← hRC]; rfl
  have HZ := Lib.hid zT
  clear hRC zT
  go_enter Tryd.func39, Tryd.ntmps39
  go_upto_region 1 with (fail)
  have h0 := heap_alloc_new w (.cells #[.pointer none, .int .u64 0, .int .u64 0, .pointer none, .int .u64 0, .int .u64 0, .pointer none, .int .u64 0, .int .u64 0, .pointer none, .int .u64 0, .int .u64 0] 82)
  have HB := Lib.hid ((Below.refl w.heap.size w).alloc (Nat.le_refl _) (.cells #[.pointer none, .int .u64 0, .int .u64 0, .pointer none, .int .u64 0, .int .u64 0, .pointer none, .int .u64 0, .int .u64 0, .pointer none, .int .u64 0, .int .u64 0] 82))
  obtain ⟨W, hW⟩ : ∃ W, w.alloc (.cells #[.pointer none, .int .u64 0, .int .u64 0, .pointer none, .int .u64 0, .int .u64 0, .pointer none, .int .u64 0, .int .u64 0, .pointer none, .int .u64 0, .int .u64 0] 82) = W := ⟨_, rfl⟩
  rw [hW] at h0 HB ⊢
  clear hW
  refine wp_region_held_drew (S := fun W => Below w.heap.size w W) (by kernel_rfl) (HB.out.drew) (fun hS => ?_)
  refine wpAnyH_take (i := 0) (v := .pointer (some ⟨b, 0, none⟩)) rfl (by kernel_rfl) (by kernel_rfl) (by kernel_rfl) (fun _ _ _ h => h) (Or.inl ⟨by simp [Region.wanted], fun W _ => by go_simp⟩) hS ?_
  simp only [List.getElem_toArray, List.getElem_cons_zero, Act.put, List.setIfInBounds_toArray, List.set_cons_zero, List.set_cons_succ]
  refine wpAnyH_take (i := 1) (v := .pointer (some ⟨b, 0, none⟩)) rfl (by kernel_rfl) (by kernel_rfl) (by kernel_rfl) (fun _ _ _ h => h) (Or.inl ⟨by simp [Region.wanted], fun W _ => by go_simp⟩) hS ?_
  simp only [List.getElem_toArray, List.getElem_cons_zero, List.getElem_cons_succ, Act.put, List.setIfInBounds_toArray, List.set_cons_zero, List.set_cons_succ]
  refine wpAnyH_take (i := 2) (v := .pointer (some ⟨b, 0, none⟩)) rfl (by kernel_rfl) (by kernel_rfl) (by kernel_rfl) (fun _ _ _ h => h) (Or.inl ⟨by simp [Region.wanted], fun W _ => by go_simp⟩) hS ?_
  simp only [List.getElem_toArray, List.getElem_cons_zero, List.getElem_cons_succ, Act.put, List.setIfInBounds_toArray, List.set_cons_zero, List.set_cons_succ]
  refine wpAnyH_take (i := 3) (v := .pointer (some ⟨b, 0, none⟩)) rfl (by kernel_rfl) (by kernel_rfl) (by kernel_rfl) (fun _ _ _ h => h) (Or.inl ⟨by simp [Region.wanted], fun W _ => by go_simp⟩) hS ?_
  simp only [List.getElem_toArray, List.getElem_cons_zero, List.getElem_cons_succ, Act.put, List.setIfInBounds_toArray, List.set_cons_zero, List.set_cons_succ]
  refine wpAnyH_take (i := 4) (v := .agg #[.pointer (some ⟨b, 0, none⟩), .int .u64 0, .int .u64 1099511627776]) rfl (by kernel_rfl) (by kernel_rfl) (by kernel_rfl) (fun _ _ _ h => h) (Or.inl ⟨by simp [Region.wanted], fun W _ => by go_simp⟩) hS ?_
  simp only [List.getElem_toArray, List.getElem_cons_zero, List.getElem_cons_succ, Act.put, List.setIfInBounds_toArray, List.set_cons_zero, List.set_cons_succ]
  refine wpAnyH_take (i := 5) (v := .pointer (some ⟨b, 0, none⟩)) rfl (by kernel_rfl) (by kernel_rfl) (by kernel_rfl) (fun _ _ _ h => h) (Or.inl ⟨by simp [Region.wanted], fun W _ => by go_simp⟩) hS ?_
  simp only [List.getElem_toArray, List.getElem_cons_zero, List.getElem_cons_succ, Act.put, List.setIfInBounds_toArray, List.set_cons_zero, List.set_cons_succ]
  refine wpAnyH_take (i := 6) (v := .pointer (some ⟨b, 0, none⟩)) rfl (by kernel_rfl) (by kernel_rfl) (by kernel_rfl) (fun _ _ _ h => h) (Or.inl ⟨by simp [Region.wanted], fun W _ => by go_simp⟩) hS ?_
  simp only [List.getElem_toArray, List.getElem_cons_zero, List.getElem_cons_succ, Act.put, List.setIfInBounds_toArray, List.set_cons_zero, List.set_cons_succ]
  refine wpAnyH_take (i := 7) (v := .pointer (some ⟨b, 0, none⟩)) rfl (by kernel_rfl) (by kernel_rfl) (by kernel_rfl) (fun _ _ _ h => h) (Or.inl ⟨by simp [Region.wanted], fun W _ => by go_simp⟩) hS ?_
  simp only [List.getElem_toArray, List.getElem_cons_zero, List.getElem_cons_succ, Act.put, List.setIfInBounds_toArray, List.set_cons_zero, List.set_cons_succ]
  refine wpAnyH_take (i := 8) (v := .pointer (some ⟨b, 1, none⟩)) rfl (by kernel_rfl) (by kernel_rfl) (by kernel_rfl) (fun _ _ _ h => h) (Or.inl ⟨by simp [Region.wanted], fun W _ => by go_simp⟩) hS ?_
  simp only [List.getElem_toArray, List.getElem_cons_zero, List.getElem_cons_succ, Act.put, List.setIfInBounds_toArray, List.set_cons_zero, List.set_cons_succ]
  refine wpAnyH_take (i := 9) (v := .agg #[.pointer (some ⟨b, 1, none⟩), .int .u64 0, .int .u64 1099511627776]) rfl (by kernel_rfl) (by kernel_rfl) (by kernel_rfl) (fun _ _ _ h => h) (Or.inl ⟨by simp [Region.wanted], fun W _ => by go_simp⟩) hS ?_
  simp only [List.getElem_toArray, List.getElem_cons_zero, List.getElem_cons_succ, Act.put, List.setIfInBounds_toArray, List.set_cons_zero, List.set_cons_succ]
  refine wpAnyH_take (i := 10) (v := .pointer (some ⟨b, 0, none⟩)) rfl (by kernel_rfl) (by kernel_rfl) (by kernel_rfl) (fun _ _ _ h => h) (Or.inl ⟨by simp [Region.wanted], fun W _ => by go_simp⟩) hS ?_
  simp only [List.getElem_toArray, List.getElem_cons_zero, List.getElem_cons_succ, Act.put, List.setIfInBounds_toArray, List.set_cons_zero, List.set_cons_succ]
  refine wpAnyH_take (i := 11) (v := .pointer (some ⟨b, 0, none⟩)) rfl (by kernel_rfl) (by kernel_rfl) (by kernel_rfl) (fun _ _ _ h => h) (Or.inl ⟨by simp [Region.wanted], fun W _ => by go_simp⟩) hS ?_
  simp only [List.getElem_toArray, List.getElem_cons_zero, List.getElem_cons_succ, Act.put, List.setIfInBounds_toArray, List.set_cons_zero, List.set_cons_succ]
  refine wpAnyH_take (i := 12) (v := .pointer (some ⟨b, 3, none⟩)) rfl (by kernel_rfl) (by kernel_rfl) (by kernel_rfl) (fun _ _ _ h => h) (Or.inl ⟨by simp [Region.wanted], fun W _ => by go_simp⟩) hS ?_
  simp only [List.getElem_toArray, List.getElem_cons_zero, List.getElem_cons_succ, Act.put, List.setIfInBounds_toArray, List.set_cons_zero, List.set_cons_succ]
  refine wpAnyH_take (i := 13) (v := .agg #[.pointer (some ⟨b, 3, none⟩), .int .u64 1, .int .u64 64]) rfl (by kernel_rfl) (by kernel_rfl) (by kernel_rfl) (fun _ _ _ h => h) (Or.inl ⟨by simp [Region.wanted], fun W _ => by go_simp⟩) hS ?_
  simp only [List.getElem_toArray, List.getElem_cons_zero, List.getElem_cons_succ, Act.put, List.setIfInBounds_toArray, List.set_cons_zero, List.set_cons_succ]
  refine wpAnyH_take (i := 14) (v := .pointer (some ⟨b, 0, none⟩)) rfl (by kernel_rfl) (by kernel_rfl) (by kernel_rfl) (fun _ _ _ h => h) (Or.inl ⟨by simp [Region.wanted], fun W _ => by go_simp⟩) hS ?_
  simp only [List.getElem_toArray, List.getElem_cons_zero, List.getElem_cons_succ, Act.put, List.setIfInBounds_toArray, List.set_cons_zero, List.set_cons_succ]
  refine wpAnyH_take (i := 15) (v := .pointer (some ⟨b, 0, none⟩)) rfl (by kernel_rfl) (by kernel_rfl) (by kernel_rfl) (fun _ _ _ h => h) (Or.inl ⟨by simp [Region.wanted], fun W _ => by go_simp⟩) hS ?_
  simp only [List.getElem_toArray, List.getElem_cons_zero, List.getElem_cons_succ, Act.put, List.setIfInBounds_toArray, List.set_cons_zero, List.set_cons_succ]
  refine wpAnyH_take (i := 16) (v := .pointer (some ⟨b, 4, none⟩)) rfl (by kernel_rfl) (by kernel_rfl) (by kernel_rfl) (fun _ _ _ h => h) (Or.inl ⟨by simp [Region.wanted], fun W _ => by go_simp⟩) hS ?_
  simp only [List.getElem_toArray, List.getElem_cons_zero, List.getElem_cons_succ, Act.put, List.setIfInBounds_toArray, List.set_cons_zero, List.set_cons_succ]
  refine wpAnyH_take (i := 17) (v := .agg #[.pointer (some ⟨b, 4, none⟩), .int .u64 0, .int .u64 1099511627776]) rfl (by kernel_rfl) (by kernel_rfl) (by kernel_rfl) (fun _ _ _ h => h) (Or.inl ⟨by simp [Region.wanted], fun W _ => by go_simp⟩) hS ?_
  simp only [List.getElem_toArray, List.getElem_cons_zero, List.getElem_cons_succ, Act.put, List.setIfInBounds_toArray, List.set_cons_zero, List.set_cons_succ]
  refine wpAnyH_take (i := 18) (v := .agg RC) rfl (by kernel_rfl) (by kernel_rfl) (by kernel_rfl) (fun _ _ _ h => h) (Or.inl ⟨by simp [Region.wanted], fun W _ => by go_simp; rw [← HRC.out]; rfl⟩) hS ?_
  simp only [List.getElem_toArray, List.getElem_cons_zero, List.getElem_cons_succ, Act.put, List.setIfInBounds_toArray, List.set_cons_zero, List.set_cons_succ]
  refine wpAnyH_ready (rs := [19]) (by kernel_rfl) (by simp) ?_
  refine AllReadyH.cons rfl (fun K1 hK1 => ?_) AllReadyH.nil
  refine wanted_go rfl ?_
  simp only [List.getElem_toArray, List.getElem_cons_zero, List.getElem_cons_succ]
  refine wp_store_row 82 (.tmp 2) (.tmp 21) rfl w.heap.size RC rfl rfl 82 _ h0 iT HZ.out oT ?_
  refine hK1.out _ _ (below_row1 hS (Nat.le_refl _)) (fun hS1 => ?_)
  refine wpAnyH_done (by kernel_rfl) ?_ _
  go_wp2
  refine ret_cell rfl rfl rfl (setRow_heap _ _ _ _ _ _ h0) Tryd.underlying82 rfl iT ?_
  exact ⟨rfl, hS1⟩

theorem cellP {w : World} {b : Nat} {cs : Array Value} {T : TypeId} (h : w.heap[b]? = some (.cells cs T (0, 0))) (k : Nat) (v : Value) (hv : cs[k]? = some v) : w.cell? ⟨b, k, none⟩ = some v := by
  rw [cell_of_row w b k cs T (0, 0) h]; exact hv
set_option maxRecDepth 100000 in
set_option maxHeartbeats 2000000 in
theorem whole25 (ix fi co by' : Int) (pv rt : ByteArray) (b : Nat) (w : World) (h : w.heap[b]? = some (.cells (pcells ix fi co by' pv rt) 51 (0, 0))) : Calls Tryd.prog 25 #[.pointer (some ⟨b, 0, none⟩)] w fun e w' => e = .returned (.agg (hcellsL ix fi co by' pv rt)) ∧ Below w.heap.size w w' := by
  have iT : (Tryd.prog.info? 23).map (·.size) = some (hcellsL ix fi co by' pv rt).size := info23P
  have oT : (hcellsL ix fi co by' pv rt).all (·.oneCell') = true := by simp [hcellsL, Value.oneCell']
  obtain ⟨RC, hRC⟩ : ∃ R, hcellsL ix fi co by' pv rt = R := ⟨_, rfl⟩
  have HRC := Lib.hid hRC
  rw [hRC] at iT oT ⊢
  have zT : (#[.int .i64 0, .int .i64 0, .int .i64 0, .int .i64 0, .string ⟨#[]⟩, .string ⟨#[]⟩] : Array Value).size = RC.size := by rw [← hRC]; rfl
  have HZ := Lib.hid zT
  have HQ := Lib.hid h
  have hlt := lt_of_blk h
  clear hRC zT h
  go_enter Tryd.func25, Tryd.ntmps25
  go_upto_region 1 with (fail)
  have h0 := heap_alloc_new w (.cells #[.int .i64 0, .int .i64 0, .int .i64 0, .int .i64 0, .string ⟨#[]⟩, .string ⟨#[]⟩] 23)
  have HB := Lib.hid ((Below.refl w.heap.size w).alloc (Nat.le_refl _) (.cells #[.int .i64 0, .int .i64 0, .int .i64 0, .int .i64 0, .string ⟨#[]⟩, .string ⟨#[]⟩] 23))
  obtain ⟨W, hW⟩ : ∃ W, w.alloc (.cells #[.int .i64 0, .int .i64 0, .int .i64 0, .int .i64 0, .string ⟨#[]⟩, .string ⟨#[]⟩] 23) = W := ⟨_, rfl⟩
  rw [hW] at h0 HB ⊢
  clear hW
  refine wp_region_held_drew (S := fun W => Below w.heap.size w W) (by kernel_rfl) (HB.out.drew) (fun hS => ?_)
  refine wpAnyH_take (i := 0) (v := .pointer (some ⟨b, 0, none⟩)) rfl (by kernel_rfl) (by kernel_rfl) (by kernel_rfl) (fun _ _ _ h => h) (Or.inl ⟨by simp [Region.wanted], fun W _ => by go_simp⟩) hS ?_
  simp only [List.getElem_toArray, List.getElem_cons_zero, Act.put, List.setIfInBounds_toArray, List.set_cons_zero, List.set_cons_succ]
  refine wpAnyH_take (i := 1) (v := .pointer (some ⟨b, 0, none⟩)) rfl (by kernel_rfl) (by kernel_rfl) (by kernel_rfl) (fun _ _ _ h => h) (Or.inl ⟨by simp [Region.wanted], fun W _ => by go_simp⟩) hS ?_
  simp only [List.getElem_toArray, List.getElem_cons_zero, List.getElem_cons_succ, Act.put, List.setIfInBounds_toArray, List.set_cons_zero, List.set_cons_succ]
  refine wpAnyH_take (i := 2) (v := .pointer (some ⟨b, 0, none⟩)) rfl (by kernel_rfl) (by kernel_rfl) (by kernel_rfl) (fun _ _ _ h => h) (Or.inl ⟨by simp [Region.wanted], fun W _ => by go_simp⟩) hS ?_
  simp only [List.getElem_toArray, List.getElem_cons_zero, List.getElem_cons_succ, Act.put, List.setIfInBounds_toArray, List.set_cons_zero, List.set_cons_succ]
  refine wpAnyH_take (i := 3) (v := .pointer (some ⟨b, 0, none⟩)) rfl (by kernel_rfl) (by kernel_rfl) (by kernel_rfl) (fun _ _ _ h => h) (Or.inl ⟨by simp [Region.wanted], fun W _ => by go_simp⟩) hS ?_
  simp only [List.getElem_toArray, List.getElem_cons_zero, List.getElem_cons_succ, Act.put, List.setIfInBounds_toArray, List.set_cons_zero, List.set_cons_succ]
  refine wpAnyH_take (i := 4) (v := .int .i64 ix) rfl (by kernel_rfl) (by kernel_rfl) (by kernel_rfl) (fun _ _ _ h => h) (Or.inl ⟨by simp [Region.wanted], fun W hW => by have hq := cellP ((hW.block b hlt).trans HQ.out) 0 (.int .i64 ix) rfl; go_simp⟩) hS ?_
  simp only [List.getElem_toArray, List.getElem_cons_zero, List.getElem_cons_succ, Act.put, List.setIfInBounds_toArray, List.set_cons_zero, List.set_cons_succ]
  refine wpAnyH_take (i := 5) (v := .pointer (some ⟨b, 0, none⟩)) rfl (by kernel_rfl) (by kernel_rfl) (by kernel_rfl) (fun _ _ _ h => h) (Or.inl ⟨by simp [Region.wanted], fun W _ => by go_simp⟩) hS ?_
  simp only [List.getElem_toArray, List.getElem_cons_zero, List.getElem_cons_succ, Act.put, List.setIfInBounds_toArray, List.set_cons_zero, List.set_cons_succ]
  refine wpAnyH_take (i := 6) (v := .pointer (some ⟨b, 0, none⟩)) rfl (by kernel_rfl) (by kernel_rfl) (by kernel_rfl) (fun _ _ _ h => h) (Or.inl ⟨by simp [Region.wanted], fun W _ => by go_simp⟩) hS ?_
  simp only [List.getElem_toArray, List.getElem_cons_zero, List.getElem_cons_succ, Act.put, List.setIfInBounds_toArray, List.set_cons_zero, List.set_cons_succ]
  refine wpAnyH_take (i := 7) (v := .pointer (some ⟨b, 0, none⟩)) rfl (by kernel_rfl) (by kernel_rfl) (by kernel_rfl) (fun _ _ _ h => h) (Or.inl ⟨by simp [Region.wanted], fun W _ => by go_simp⟩) hS ?_
  simp only [List.getElem_toArray, List.getElem_cons_zero, List.getElem_cons_succ, Act.put, List.setIfInBounds_toArray, List.set_cons_zero, List.set_cons_succ]
  refine wpAnyH_take (i := 8) (v := .pointer (some ⟨b, 1, none⟩)) rfl (by kernel_rfl) (by kernel_rfl) (by kernel_rfl) (fun _ _ _ h => h) (Or.inl ⟨by simp [Region.wanted], fun W _ => by go_simp⟩) hS ?_
  simp only [List.getElem_toArray, List.getElem_cons_zero, List.getElem_cons_succ, Act.put, List.setIfInBounds_toArray, List.set_cons_zero, List.set_cons_succ]
  refine wpAnyH_take (i := 9) (v := .int .i64 fi) rfl (by kernel_rfl) (by kernel_rfl) (by kernel_rfl) (fun _ _ _ h => h) (Or.inl ⟨by simp [Region.wanted], fun W hW => by have hq := cellP ((hW.block b hlt).trans HQ.out) 1 (.int .i64 fi) rfl; go_simp⟩) hS ?_
  simp only [List.getElem_toArray, List.getElem_cons_zero, List.getElem_cons_succ, Act.put, List.setIfInBounds_toArray, List.set_cons_zero, List.set_cons_succ]
  refine wpAnyH_take (i := 10) (v := .pointer (some ⟨b, 0, none⟩)) rfl (by kernel_rfl) (by kernel_rfl) (by kernel_rfl) (fun _ _ _ h => h) (Or.inl ⟨by simp [Region.wanted], fun W _ => by go_simp⟩) hS ?_
  simp only [List.getElem_toArray, List.getElem_cons_zero, List.getElem_cons_succ, Act.put, List.setIfInBounds_toArray, List.set_cons_zero, List.set_cons_succ]
  refine wpAnyH_take (i := 11) (v := .pointer (some ⟨b, 0, none⟩)) rfl (by kernel_rfl) (by kernel_rfl) (by kernel_rfl) (fun _ _ _ h => h) (Or.inl ⟨by simp [Region.wanted], fun W _ => by go_simp⟩) hS ?_
  simp only [List.getElem_toArray, List.getElem_cons_zero, List.getElem_cons_succ, Act.put, List.setIfInBounds_toArray, List.set_cons_zero, List.set_cons_succ]
  refine wpAnyH_take (i := 12) (v := .pointer (some ⟨b, 3, none⟩)) rfl (by kernel_rfl) (by kernel_rfl) (by kernel_rfl) (fun _ _ _ h => h) (Or.inl ⟨by simp [Region.wanted], fun W _ => by go_simp⟩) hS ?_
  simp only [List.getElem_toArray, List.getElem_cons_zero, List.getElem_cons_succ, Act.put, List.setIfInBounds_toArray, List.set_cons_zero, List.set_cons_succ]
  refine wpAnyH_take (i := 13) (v := .int .i64 co) rfl (by kernel_rfl) (by kernel_rfl) (by kernel_rfl) (fun _ _ _ h => h) (Or.inl ⟨by simp [Region.wanted], fun W hW => by have hq := cellP ((hW.block b hlt).trans HQ.out) 3 (.int .i64 co) rfl; go_simp⟩) hS ?_
  simp only [List.getElem_toArray, List.getElem_cons_zero, List.getElem_cons_succ, Act.put, List.setIfInBounds_toArray, List.set_cons_zero, List.set_cons_succ]
  refine wpAnyH_take (i := 14) (v := .pointer (some ⟨b, 0, none⟩)) rfl (by kernel_rfl) (by kernel_rfl) (by kernel_rfl) (fun _ _ _ h => h) (Or.inl ⟨by simp [Region.wanted], fun W _ => by go_simp⟩) hS ?_
  simp only [List.getElem_toArray, List.getElem_cons_zero, List.getElem_cons_succ, Act.put, List.setIfInBounds_toArray, List.set_cons_zero, List.set_cons_succ]
  refine wpAnyH_take (i := 15) (v := .pointer (some ⟨b, 0, none⟩)) rfl (by kernel_rfl) (by kernel_rfl) (by kernel_rfl) (fun _ _ _ h => h) (Or.inl ⟨by simp [Region.wanted], fun W _ => by go_simp⟩) hS ?_
  simp only [List.getElem_toArray, List.getElem_cons_zero, List.getElem_cons_succ, Act.put, List.setIfInBounds_toArray, List.set_cons_zero, List.set_cons_succ]
  refine wpAnyH_take (i := 16) (v := .pointer (some ⟨b, 4, none⟩)) rfl (by kernel_rfl) (by kernel_rfl) (by kernel_rfl) (fun _ _ _ h => h) (Or.inl ⟨by simp [Region.wanted], fun W _ => by go_simp⟩) hS ?_
  simp only [List.getElem_toArray, List.getElem_cons_zero, List.getElem_cons_succ, Act.put, List.setIfInBounds_toArray, List.set_cons_zero, List.set_cons_succ]
  refine wpAnyH_take (i := 17) (v := .int .i64 by') rfl (by kernel_rfl) (by kernel_rfl) (by kernel_rfl) (fun _ _ _ h => h) (Or.inl ⟨by simp [Region.wanted], fun W hW => by have hq := cellP ((hW.block b hlt).trans HQ.out) 4 (.int .i64 by') rfl; go_simp⟩) hS ?_
  simp only [List.getElem_toArray, List.getElem_cons_zero, List.getElem_cons_succ, Act.put, List.setIfInBounds_toArray, List.set_cons_zero, List.set_cons_succ]
  refine wpAnyH_take (i := 18) (v := .pointer (some ⟨b, 0, none⟩)) rfl (by kernel_rfl) (by kernel_rfl) (by kernel_rfl) (fun _ _ _ h => h) (Or.inl ⟨by simp [Region.wanted], fun W _ => by go_simp⟩) hS ?_
  simp only [List.getElem_toArray, List.getElem_cons_zero, List.getElem_cons_succ, Act.put, List.setIfInBounds_toArray, List.set_cons_zero, List.set_cons_succ]
  refine wpAnyH_take (i := 19) (v := .pointer (some ⟨b, 0, none⟩)) rfl (by kernel_rfl) (by kernel_rfl) (by kernel_rfl) (fun _ _ _ h => h) (Or.inl ⟨by simp [Region.wanted], fun W _ => by go_simp⟩) hS ?_
  simp only [List.getElem_toArray, List.getElem_cons_zero, List.getElem_cons_succ, Act.put, List.setIfInBounds_toArray, List.set_cons_zero, List.set_cons_succ]
  refine wpAnyH_take (i := 20) (v := .pointer (some ⟨b, 0, none⟩)) rfl (by kernel_rfl) (by kernel_rfl) (by kernel_rfl) (fun _ _ _ h => h) (Or.inl ⟨by simp [Region.wanted], fun W _ => by go_simp⟩) hS ?_
  simp only [List.getElem_toArray, List.getElem_cons_zero, List.getElem_cons_succ, Act.put, List.setIfInBounds_toArray, List.set_cons_zero, List.set_cons_succ]
  refine wpAnyH_take (i := 21) (v := .pointer (some ⟨b, 2, none⟩)) rfl (by kernel_rfl) (by kernel_rfl) (by kernel_rfl) (fun _ _ _ h => h) (Or.inl ⟨by simp [Region.wanted], fun W _ => by go_simp⟩) hS ?_
  simp only [List.getElem_toArray, List.getElem_cons_zero, List.getElem_cons_succ, Act.put, List.setIfInBounds_toArray, List.set_cons_zero, List.set_cons_succ]
  refine wpAnyH_take (i := 22) (v := .string pv) rfl (by kernel_rfl) (by kernel_rfl) (by kernel_rfl) (fun _ _ _ h => h) (Or.inl ⟨by simp [Region.wanted], fun W hW => by have hq := cellP ((hW.block b hlt).trans HQ.out) 2 (.string pv) rfl; go_simp⟩) hS ?_
  simp only [List.getElem_toArray, List.getElem_cons_zero, List.getElem_cons_succ, Act.put, List.setIfInBounds_toArray, List.set_cons_zero, List.set_cons_succ]
  refine wpAnyH_take (i := 23) (v := .pointer (some ⟨b, 0, none⟩)) rfl (by kernel_rfl) (by kernel_rfl) (by kernel_rfl) (fun _ _ _ h => h) (Or.inl ⟨by simp [Region.wanted], fun W _ => by go_simp⟩) hS ?_
  simp only [List.getElem_toArray, List.getElem_cons_zero, List.getElem_cons_succ, Act.put, List.setIfInBounds_toArray, List.set_cons_zero, List.set_cons_succ]
  refine wpAnyH_take (i := 24) (v := .pointer (some ⟨b, 0, none⟩)) rfl (by kernel_rfl) (by kernel_rfl) (by kernel_rfl) (fun _ _ _ h => h) (Or.inl ⟨by simp [Region.wanted], fun W _ => by go_simp⟩) hS ?_
  simp only [List.getElem_toArray, List.getElem_cons_zero, List.getElem_cons_succ, Act.put, List.setIfInBounds_toArray, List.set_cons_zero, List.set_cons_succ]
  refine wpAnyH_take (i := 25) (v := .pointer (some ⟨b, 5, none⟩)) rfl (by kernel_rfl) (by kernel_rfl) (by kernel_rfl) (fun _ _ _ h => h) (Or.inl ⟨by simp [Region.wanted], fun W _ => by go_simp⟩) hS ?_
  simp only [List.getElem_toArray, List.getElem_cons_zero, List.getElem_cons_succ, Act.put, List.setIfInBounds_toArray, List.set_cons_zero, List.set_cons_succ]
  refine wpAnyH_take (i := 26) (v := .string rt) rfl (by kernel_rfl) (by kernel_rfl) (by kernel_rfl) (fun _ _ _ h => h) (Or.inl ⟨by simp [Region.wanted], fun W hW => by have hq := cellP ((hW.block b hlt).trans HQ.out) 5 (.string rt) rfl; go_simp⟩) hS ?_
  simp only [List.getElem_toArray, List.getElem_cons_zero, List.getElem_cons_succ, Act.put, List.setIfInBounds_toArray, List.set_cons_zero, List.set_cons_succ]
  refine wpAnyH_take (i := 27) (v := .agg RC) rfl (by kernel_rfl) (by kernel_rfl) (by kernel_rfl) (fun _ _ _ h => h) (Or.inl ⟨by simp [Region.wanted], fun W _ => by go_simp; rw [← HRC.out]; rfl⟩) hS ?_
  simp only [List.getElem_toArray, List.getElem_cons_zero, List.getElem_cons_succ, Act.put, List.setIfInBounds_toArray, List.set_cons_zero, List.set_cons_succ]
  refine wpAnyH_ready (rs := [28]) (by kernel_rfl) (by simp) ?_
  refine AllReadyH.cons rfl (fun K1 hK1 => ?_) AllReadyH.nil
  refine wanted_go rfl ?_
  simp only [List.getElem_toArray, List.getElem_cons_zero, List.getElem_cons_succ]
  refine wp_store_row 23 (.tmp 2) (.tmp 30) rfl w.heap.size RC rfl rfl 23 _ h0 iT HZ.out oT ?_
  refine hK1.out _ _ (below_row1 hS (Nat.le_refl _)) (fun hS1 => ?_)
  refine wpAnyH_done (by kernel_rfl) ?_ _
  go_wp2
  refine ret_cell rfl rfl rfl (setRow_heap _ _ _ _ _ _ h0) Tryd.underlying23 rfl iT ?_
  exact ⟨rfl, hS1⟩
end Go.Proofs.YtipaicfmodgcoaaDoor

namespace Go.Proofs.YtipaicfmodgcoaaDoor
open Go.RowKit Base Base2

/-- A number lies between two. -/
def okN (l z m : Int) : Prop := l ≤ z ∧ z ≤ m
/-- Behind k numbers: each of them is as it may be. -/
def MayRel (w : World) (ix fi co by' : Int) (vi : Value) (W : World) : Prop :=
  ∃ k : Nat, k ≤ 4 ∧ vi = .int .i64 (k : Int) ∧ Below w.heap.size w W ∧ (1 ≤ k → okN 0 ix 1099511627776) ∧ (2 ≤ k → okN 0 fi 1099511627776) ∧ (3 ≤ k → okN 1 co 64) ∧ (4 ≤ k → okN 0 by' 1099511627776)
/-- Behind k rows. -/
def MayRel2 (w : World) (pv rt : ByteArray) (n : Nat) (vi : Value) (W : World) : Prop :=
  ∃ k : Nat, k ≤ 2 ∧ vi = .int .i64 (k : Int) ∧ Below w.heap.size w W ∧ (1 ≤ k → pv.size = n) ∧ (2 ≤ k → rt.size = n)
theorem wrapU_ok {z l m : Int} (h : okN l z m) (_h0 : 0 ≤ l) (h1 : m ≤ 1099511627776) : IntKind.u64.wrap z = z := by
  rw [IntKind.wrap_u64]; have := h.1; have := h.2; omega
theorem wrapU_no {z l m : Int} (h : ¬ okN l z m) (hz : In64H z) (_h0 : 0 ≤ l) (h1 : m ≤ 1099511627776) : IntKind.u64.wrap z < l ∨ m < IntKind.u64.wrap z := by
  unfold okN at h; unfold In64H at hz; rw [IntKind.wrap_u64]; omega
theorem idxN0 (b : Nat) (W : World) : (Instr.index 82 (.agg (numC b)) (.int .i64 0)).run Tryd.prog W = .ok (.agg #[.pointer (some ⟨b, 0, none⟩), .int .u64 0, .int .u64 1099511627776]) W := by kernel_rfl
theorem idxN1 (b : Nat) (W : World) : (Instr.index 82 (.agg (numC b)) (.int .i64 1)).run Tryd.prog W = .ok (.agg #[.pointer (some ⟨b, 1, none⟩), .int .u64 0, .int .u64 1099511627776]) W := by kernel_rfl
theorem idxN2 (b : Nat) (W : World) : (Instr.index 82 (.agg (numC b)) (.int .i64 2)).run Tryd.prog W = .ok (.agg #[.pointer (some ⟨b, 3, none⟩), .int .u64 1, .int .u64 64]) W := by kernel_rfl
theorem idxN3 (b : Nat) (W : World) : (Instr.index 82 (.agg (numC b)) (.int .i64 3)).run Tryd.prog W = .ok (.agg #[.pointer (some ⟨b, 4, none⟩), .int .u64 0, .int .u64 1099511627776]) W := by kernel_rfl
theorem idxR0 (b : Nat) (W : World) : (Instr.index 89 (.agg (rowC b)) (.int .i64 0)).run Tryd.prog W = .ok (.pointer (some ⟨b, 2, none⟩)) W := by kernel_rfl
theorem idxR1 (b : Nat) (W : World) : (Instr.index 89 (.agg (rowC b)) (.int .i64 1)).run Tryd.prog W = .ok (.pointer (some ⟨b, 5, none⟩)) W := by kernel_rfl

set_option maxRecDepth 100000 in
set_option maxHeartbeats 4000000 in
theorem may26 (ix fi co by' : Int) (pv rt : ByteArray) (b n : Nat) (w : World) (h : w.heap[b]? = some (.cells (pcells ix fi co by' pv rt) 51 (0, 0))) (hi1 : In64H ix) (hi2 : In64H fi) (hi3 : In64H co) (hi4 : In64H by') :
    Calls Tryd.prog 26 #[.pointer (some ⟨b, 0, none⟩), .int .i64 (n : Int)] w fun e w' => e = .returned (.bool (mayH ⟨ix, fi, co, by', pv, rt⟩ n)) ∧ Below w.heap.size w w' := by
  have HN := Lib.hid (fun W => numbers39 b W)
  have HR := Lib.hid (fun W => rows42 b W)
  have hlt := lt_of_blk h
  have HC := Lib.hid (fun (k : Nat) (v : Value) (hv : (pcells ix fi co by' pv rt)[k]? = some v) (W : World) (hb : Below w.heap.size w W) => cellP ((hb.block b hlt).trans h) k v hv)
  have HNO := Lib.hid (fun hk => mayH_no (h := ⟨ix, fi, co, by', pv, rt⟩) (n := n) hk)
  have HYES := Lib.hid (mayH_iff ⟨ix, fi, co, by', pv, rt⟩ n)
  obtain ⟨RES, hRES⟩ : ∃ R, mayH ⟨ix, fi, co, by', pv, rt⟩ n = R := ⟨_, rfl⟩
  rw [hRES] at HNO HYES ⊢
  clear hRES
  have HI0 := Lib.hid (fun W => idxN0 b W)
  have HI1 := Lib.hid (fun W => idxN1 b W)
  have HI2 := Lib.hid (fun W => idxN2 b W)
  have HI3 := Lib.hid (fun W => idxN3 b W)
  have HJ0 := Lib.hid (fun W => idxR0 b W)
  have HJ1 := Lib.hid (fun W => idxR1 b W)
  generalize numC b = NC at *
  generalize rowC b = RW at *
  clear h
  go_enter Tryd.func26, Tryd.ntmps26
  go_wp2_with (go_at_call 39; refine (HN.out _).mono ?_; rintro e w1 ⟨rfl, hb1⟩; have HB1 := Lib.hid hb1; clear hb1)
  go_loopw [12] (fun i W => MayRel w ix fi co by' i W) (fun i _ => 4 - (intOf i).toNat)
  case atStart => exact ⟨0, by omega, rfl, HB1.out, by omega, by omega, by omega, by omega⟩
  case round =>
    clear HB1 HN
    obtain ⟨k, hk, rfl, hbl, r1, r2, r3, r4⟩ := hrel
    have HBL := Lib.hid hbl
    clear hbl
    have hk5 : k = 0 ∨ k = 1 ∨ k = 2 ∨ k = 3 ∨ k = 4 := by omega
    have HBA := Lib.hid (fun (o : Obj) => HBL.out.alloc HBL.out.size o)
    rcases hk5 with rfl | rfl | rfl | rfl | rfl
    · have HX := Lib.hid (show okN 0 ix 1099511627776 ∨ ¬ okN 0 ix 1099511627776 from Classical.em _)
      have hcl := HC.out 0 (.int .i64 ix) rfl wr HBL.out
      have hI := HI0.out
      have hwl : b < wr.heap.size := Nat.lt_of_lt_of_le hlt HBL.out.size
      have R1 := Lib.hid r1; have R2 := Lib.hid r2; have R3 := Lib.hid r3; have R4 := Lib.hid r4
      clear r1 r2 r3 r4 HI0 HI1 HI2 HI3
      have HW := Lib.hid (@wrapU_ok ix 0 1099511627776)
      have HWN := Lib.hid (fun q => @wrapU_no ix 0 1099511627776 q hi1)
      clear hi1 hi2 hi3 hi4
      obtain ⟨u, hu⟩ : ∃ u, IntKind.u64.wrap ix = u := ⟨_, rfl⟩
      rw [hu] at HW HWN
      rcases HX.out with hok | hno
      · have hu2 := HW.out hok (by omega) (by omega)
        have g1 : ¬ u < 0 := by rw [hu2]; have := hok.1; omega
        have g2 : ¬ 1099511627776 < u := by rw [hu2]; have := hok.2; omega
        have HOK := Lib.hid hok
        clear hu2 hok HW HWN HX HNO HYES HJ0 HJ1 HR
        go_wp2
        go_roundw
        case rel => exact ⟨1, by omega, by go_num, HBA.out _, fun _ => HOK.out, by omega, by omega, by omega⟩
        case measure => simp [intOf]
      · have hq := HWN.out hno (by omega) (by omega)
        have hRES := HNO.out (fun hall => hno hall.1)
        subst hRES
        clear hno HW HWN HX HNO HYES HJ0 HJ1 HR
        by_cases g1 : u < 0
        · clear hq
          go_wp2
          go_ret
          exact ⟨rfl, HBA.out _⟩
        · have g2 : 1099511627776 < u := hq.resolve_left g1
          clear hq
          go_wp2
          go_ret
          exact ⟨rfl, HBA.out _⟩
    · have HX := Lib.hid (show okN 0 fi 1099511627776 ∨ ¬ okN 0 fi 1099511627776 from Classical.em _)
      have hcl := HC.out 1 (.int .i64 fi) rfl wr HBL.out
      have hI := HI1.out
      have hwl : b < wr.heap.size := Nat.lt_of_lt_of_le hlt HBL.out.size
      have R1 := Lib.hid r1; have R2 := Lib.hid r2; have R3 := Lib.hid r3; have R4 := Lib.hid r4
      clear r1 r2 r3 r4 HI0 HI1 HI2 HI3
      have HW := Lib.hid (@wrapU_ok fi 0 1099511627776)
      have HWN := Lib.hid (fun q => @wrapU_no fi 0 1099511627776 q hi2)
      clear hi1 hi2 hi3 hi4
      obtain ⟨u, hu⟩ : ∃ u, IntKind.u64.wrap fi = u := ⟨_, rfl⟩
      rw [hu] at HW HWN
      rcases HX.out with hok | hno
      · have hu2 := HW.out hok (by omega) (by omega)
        have g1 : ¬ u < 0 := by rw [hu2]; have := hok.1; omega
        have g2 : ¬ 1099511627776 < u := by rw [hu2]; have := hok.2; omega
        have HOK := Lib.hid hok
        clear hu2 hok HW HWN HX HNO HYES HJ0 HJ1 HR
        go_wp2
        go_roundw
        case rel => exact ⟨2, by omega, by go_num, HBA.out _, fun _ => R1.out (by omega), fun _ => HOK.out, by omega, by omega⟩
        case measure => simp [intOf]
      · have hq := HWN.out hno (by omega) (by omega)
        have hRES := HNO.out (fun hall => hno hall.2.1)
        subst hRES
        clear hno HW HWN HX HNO HYES HJ0 HJ1 HR
        by_cases g1 : u < 0
        · clear hq
          go_wp2
          go_ret
          exact ⟨rfl, HBA.out _⟩
        · have g2 : 1099511627776 < u := hq.resolve_left g1
          clear hq
          go_wp2
          go_ret
          exact ⟨rfl, HBA.out _⟩
    · have HX := Lib.hid (show okN 1 co 64 ∨ ¬ okN 1 co 64 from Classical.em _)
      have hcl := HC.out 3 (.int .i64 co) rfl wr HBL.out
      have hI := HI2.out
      have hwl : b < wr.heap.size := Nat.lt_of_lt_of_le hlt HBL.out.size
      have R1 := Lib.hid r1; have R2 := Lib.hid r2; have R3 := Lib.hid r3; have R4 := Lib.hid r4
      clear r1 r2 r3 r4 HI0 HI1 HI2 HI3
      have HW := Lib.hid (@wrapU_ok co 1 64)
      have HWN := Lib.hid (fun q => @wrapU_no co 1 64 q hi3)
      clear hi1 hi2 hi3 hi4
      obtain ⟨u, hu⟩ : ∃ u, IntKind.u64.wrap co = u := ⟨_, rfl⟩
      rw [hu] at HW HWN
      rcases HX.out with hok | hno
      · have hu2 := HW.out hok (by omega) (by omega)
        have g1 : ¬ u < 1 := by rw [hu2]; have := hok.1; omega
        have g2 : ¬ 64 < u := by rw [hu2]; have := hok.2; omega
        have HOK := Lib.hid hok
        clear hu2 hok HW HWN HX HNO HYES HJ0 HJ1 HR
        go_wp2
        go_roundw
        case rel => exact ⟨3, by omega, by go_num, HBA.out _, fun _ => R1.out (by omega), fun _ => R2.out (by omega), fun _ => HOK.out, by omega⟩
        case measure => simp [intOf]
      · have hq := HWN.out hno (by omega) (by omega)
        have hRES := HNO.out (fun hall => hno hall.2.2.1)
        subst hRES
        clear hno HW HWN HX HNO HYES HJ0 HJ1 HR
        by_cases g1 : u < 1
        · clear hq
          go_wp2
          go_ret
          exact ⟨rfl, HBA.out _⟩
        · have g2 : 64 < u := hq.resolve_left g1
          clear hq
          go_wp2
          go_ret
          exact ⟨rfl, HBA.out _⟩
    · have HX := Lib.hid (show okN 0 by' 1099511627776 ∨ ¬ okN 0 by' 1099511627776 from Classical.em _)
      have hcl := HC.out 4 (.int .i64 by') rfl wr HBL.out
      have hI := HI3.out
      have hwl : b < wr.heap.size := Nat.lt_of_lt_of_le hlt HBL.out.size
      have R1 := Lib.hid r1; have R2 := Lib.hid r2; have R3 := Lib.hid r3; have R4 := Lib.hid r4
      clear r1 r2 r3 r4 HI0 HI1 HI2 HI3
      have HW := Lib.hid (@wrapU_ok by' 0 1099511627776)
      have HWN := Lib.hid (fun q => @wrapU_no by' 0 1099511627776 q hi4)
      clear hi1 hi2 hi3 hi4
      obtain ⟨u, hu⟩ : ∃ u, IntKind.u64.wrap by' = u := ⟨_, rfl⟩
      rw [hu] at HW HWN
      rcases HX.out with hok | hno
      · have hu2 := HW.out hok (by omega) (by omega)
        have g1 : ¬ u < 0 := by rw [hu2]; have := hok.1; omega
        have g2 : ¬ 1099511627776 < u := by rw [hu2]; have := hok.2; omega
        have HOK := Lib.hid hok
        clear hu2 hok HW HWN HX HNO HYES HJ0 HJ1 HR
        go_wp2
        go_roundw
        case rel => exact ⟨4, by omega, by go_num, HBA.out _, fun _ => R1.out (by omega), fun _ => R2.out (by omega), fun _ => R3.out (by omega), fun _ => HOK.out⟩
        case measure => simp [intOf]
      · have hq := HWN.out hno (by omega) (by omega)
        have hRES := HNO.out (fun hall => hno hall.2.2.2.1)
        subst hRES
        clear hno HW HWN HX HNO HYES HJ0 HJ1 HR
        by_cases g1 : u < 0
        · clear hq
          go_wp2
          go_ret
          exact ⟨rfl, HBA.out _⟩
        · have g2 : 1099511627776 < u := hq.resolve_left g1
          clear hq
          go_wp2
          go_ret
          exact ⟨rfl, HBA.out _⟩
    · have o1 := r1 (by omega); have o2 := r2 (by omega); have o3 := r3 (by omega); have o4 := r4 (by omega)
      have HO := Lib.hid (And.intro o1 (And.intro o2 (And.intro o3 o4)))
      clear r1 r2 r3 r4 o1 o2 o3 o4 hi1 hi2 hi3 hi4 HI0 HI1 HI2 HI3 HBA
      go_wp2_with (go_at_call 42; refine (HR.out _).mono ?_; rintro e w2 ⟨rfl, hb2⟩; have HB2 := Lib.hid (HBL.out.trans (hb2.mono HBL.out.size)); clear hb2)
      go_loopw [33] (fun i W => MayRel2 w pv rt n i W) (fun i _ => 2 - (intOf i).toNat)
      case atStart => exact ⟨0, by omega, rfl, HB2.out, by omega, by omega⟩
      case round =>
        clear HB2 HR HBL
        obtain ⟨k, hk, rfl, hbl, r1, r2⟩ := hrel
        have HBL := Lib.hid hbl
        clear hbl
        have hk3 : k = 0 ∨ k = 1 ∨ k = 2 := by omega
        rcases hk3 with rfl | rfl | rfl
        · have hcl := HC.out 2 (.string pv) rfl _ HBL.out
          have hJ := HJ0.out
          have R1 := Lib.hid r1; have R2 := Lib.hid r2
          clear r1 r2 HJ0 HJ1
          have HX := Lib.hid (show pv.size = n ∨ ¬ pv.size = n from Classical.em _)
          rcases HX.out with hok | hno
          · have g1 : ((pv.size : Int) == (n : Int)) = true := beq_iff_eq.2 (by omega)
            have HOK := Lib.hid hok
            clear hok HX HNO HYES HO
            go_wp2
            go_roundw
            case rel => exact ⟨1, by omega, by go_num, HBL.out, fun _ => HOK.out, by omega⟩
            case measure => simp [intOf]
          · have hRES := HNO.out (fun hall => hno hall.2.2.2.2.1)
            subst hRES
            have g1 : ((pv.size : Int) == (n : Int)) = false := beq_eq_false_iff_ne.2 (by omega)
            clear hno HX HNO HYES HO
            go_wp2
            go_ret
            exact ⟨rfl, HBL.out⟩
        · have hcl := HC.out 5 (.string rt) rfl _ HBL.out
          have hJ := HJ1.out
          have R1 := Lib.hid r1; have R2 := Lib.hid r2
          clear r1 r2 HJ0 HJ1
          have HX := Lib.hid (show rt.size = n ∨ ¬ rt.size = n from Classical.em _)
          rcases HX.out with hok | hno
          · have g1 : ((rt.size : Int) == (n : Int)) = true := beq_iff_eq.2 (by omega)
            have HOK := Lib.hid hok
            clear hok HX HNO HYES HO
            go_wp2
            go_roundw
            case rel => exact ⟨2, by omega, by go_num, HBL.out, fun _ => R1.out (by omega), fun _ => HOK.out⟩
            case measure => simp [intOf]
          · have hRES := HNO.out (fun hall => hno hall.2.2.2.2.2)
            subst hRES
            have g1 : ((rt.size : Int) == (n : Int)) = false := beq_eq_false_iff_ne.2 (by omega)
            clear hno HX HNO HYES HO
            go_wp2
            go_ret
            exact ⟨rfl, HBL.out⟩
        · have hRES := HYES.out.2 ⟨HO.out.1, HO.out.2.1, HO.out.2.2.1, HO.out.2.2.2, r1 (by omega), r2 (by omega)⟩
          subst hRES
          clear r1 r2 HJ0 HJ1 HYES HNO HO
          go_wp2
          go_ret
          exact ⟨rfl, HBL.out⟩
end Go.Proofs.YtipaicfmodgcoaaDoor

namespace Go.Proofs.YtipaicfmodgcoaaDoor
open Go.RowKit Base Base2

/-- Texts, one behind the other. -/
def catL (L : List ByteArray) : List UInt8 := (L.map (·.data.toList)).flatten
theorem catL_snoc (L : List ByteArray) (s : ByteArray) : Lib.byteCells (catL L) ++ Lib.strCells s = Lib.byteCells (catL (L ++ [s])) := by
  unfold catL; rw [List.map_append, List.flatten_append, Lib.byteCells_append]; simp only [List.map_cons, List.map_nil, List.flatten_cons, List.flatten_nil, List.append_nil]; rfl
theorem catL_len (L : List ByteArray) (h : ∀ x ∈ L, x.size ≤ 2000) : (catL L).length ≤ 2000 * L.length := by
  induction L with
  | nil => simp [catL]
  | cons a L ih =>
    have h1 := h a (by simp)
    have h2 := ih (fun x hx => h x (by simp [hx]))
    unfold catL at h2 ⊢
    rw [List.map_cons, List.flatten_cons, List.length_append, List.length_cons]
    have := Lib.size_eq a; omega
theorem isB_new (w : World) : Lib.IsBuilder 78 5 w.heap.size w.heap.size [] (w.alloc (.cells #[.pointer none, .slice none 0 0] 78)) :=
  .inl ⟨Nat.le_refl _, .slice none 0 0, heap_alloc_new w _, ⟨rfl, .inl ⟨rfl, rfl⟩⟩, by simp [Value.ownBlock]⟩
theorem isB_below {B b : Nat} {bs : List Value} {W W' : World} (h : Lib.IsBuilder 78 5 B b bs W) (hb : Below W.heap.size W W') : Lib.IsBuilder 78 5 B b bs W' := by
  rcases h with ⟨h1, v, h2, h3, h4⟩ | ⟨h1, v, h2, h3, h4⟩
  · exact .inl ⟨h1, v, (hb.block b (lt_of_blk h2)).trans h2, own_below' h3 hb, h4⟩
  · exact .inr ⟨h1, v, (hb.block b (lt_of_blk h2)).trans h2, own_below' h3 hb, h4⟩
theorem writeL (B b : Nat) (L : List ByteArray) (s : ByteArray) (w : World) (h : Lib.IsBuilder 78 5 B b (Lib.byteCells (catL L)) w) (hL : L.length ≤ 100) (hs : ∀ x ∈ L, x.size ≤ 2000) (hz : s.size ≤ 2000) (hBw : B ≤ w.heap.size) :
    Calls Tryd.prog 40 #[.pointer (some ⟨b, 0, none⟩), .string s] w fun e w' => e = .returned (.tuple #[.int .i64 s.size, .nilIface]) ∧ Lib.IsBuilder 78 5 B b (Lib.byteCells (catL (L ++ [s]))) w' ∧ Below B w w' := by
  refine (write33 B b _ s w h (by rw [Lib.byteCells_length]; have := catL_len L hs; omega) hBw).mono ?_
  rintro e w1 ⟨rfl, h1, h2⟩
  refine ⟨rfl, ?_, h2⟩
  rw [← catL_snoc]; exact .inr h1

/-- What stands in the builder behind k of some texts that follow others. -/
def WroteRel (w : World) (L M : List ByteArray) (m : Nat) (vi : Value) (W : World) : Prop :=
  ∃ k : Nat, k ≤ m ∧ vi = .int .i64 (k : Int) ∧ Lib.IsBuilder 78 5 w.heap.size w.heap.size (Lib.byteCells (catL (L ++ M.take k))) W ∧ Below w.heap.size w W
theorem encU_size (z : Int) : (encU z).size ≤ 2000 := by unfold encU; have := encB_size (IntKind.u64.wrap z).toNat; omega
theorem rowB_size (s : ByteArray) (h : s.size ≤ 1000) : (rowB s).size ≤ 2000 := by unfold rowB; rw [ByteArray.size_append]; have := encB_size s.size; omega
theorem putL (h : HeadT) : (⟨(catL [encU h.ix, encU h.fi, encU h.co, encU h.by', rowB h.pv, rowB h.rt]).toArray⟩ : ByteArray) = putH h := by
  unfold putH catL
  apply ByteArray.ext; apply Array.toList_inj.1
  simp

set_option maxRecDepth 100000 in
set_option maxHeartbeats 4000000 in
theorem written22 (ix fi co by' : Int) (pv rt : ByteArray) (b : Nat) (w : World) (h : w.heap[b]? = some (.cells (pcells ix fi co by' pv rt) 51 (0, 0))) (hp : pv.size ≤ 1000) (hr : rt.size ≤ 1000) :
    Calls Tryd.prog 22 #[.pointer (some ⟨b, 0, none⟩)] w fun e w' => e = .returned (.string (putH ⟨ix, fi, co, by', pv, rt⟩)) ∧ Below w.heap.size w w' := by
  have HN := Lib.hid (fun W => numbers39 b W)
  have HR := Lib.hid (fun W => rows42 b W)
  have hlt := lt_of_blk h
  have HC := Lib.hid (fun (k : Nat) (v : Value) (hv : (pcells ix fi co by' pv rt)[k]? = some v) (W : World) (hb : Below w.heap.size w W) => cellP ((hb.block b hlt).trans h) k v hv)
  have HP := Lib.hid (putL ⟨ix, fi, co, by', pv, rt⟩)
  rw [← HP.out]
  dsimp only
  clear HP
  have S0 := encU_size ix
  have HE0 := Lib.hid (fun W => num8 (IntKind.u64.wrap ix) W (wrap_u64_in ix).1 (wrap_u64_in ix).2)
  have e0 : M.encB (IntKind.u64.wrap ix).toNat = encU ix := rfl
  rw [e0] at HE0
  clear e0
  generalize encU ix = E0 at *
  have S1 := encU_size fi
  have HE1 := Lib.hid (fun W => num8 (IntKind.u64.wrap fi) W (wrap_u64_in fi).1 (wrap_u64_in fi).2)
  have e1 : M.encB (IntKind.u64.wrap fi).toNat = encU fi := rfl
  rw [e1] at HE1
  clear e1
  generalize encU fi = E1 at *
  have S2 := encU_size co
  have HE2 := Lib.hid (fun W => num8 (IntKind.u64.wrap co) W (wrap_u64_in co).1 (wrap_u64_in co).2)
  have e2 : M.encB (IntKind.u64.wrap co).toNat = encU co := rfl
  rw [e2] at HE2
  clear e2
  generalize encU co = E2 at *
  have S3 := encU_size by'
  have HE3 := Lib.hid (fun W => num8 (IntKind.u64.wrap by') W (wrap_u64_in by').1 (wrap_u64_in by').2)
  have e3 : M.encB (IntKind.u64.wrap by').toNat = encU by' := rfl
  rw [e3] at HE3
  clear e3
  generalize encU by' = E3 at *
  have S4 := rowB_size pv hp
  have HE4 := Lib.hid (fun W => row12 pv W (by omega))
  generalize rowB pv = E4 at *
  have S5 := rowB_size rt hr
  have HE5 := Lib.hid (fun W => row12 rt W (by omega))
  generalize rowB rt = E5 at *
  have HS := Lib.hid (show ∀ x ∈ [E0, E1, E2, E3, E4, E5], x.size ≤ 2000 by intro x hx; simp at hx; rcases hx with rfl | rfl | rfl | rfl | rfl | rfl <;> assumption)
  clear S0 S1 S2 S3 S4 S5 hp hr
  have HW0 := Lib.hid (fun (W : World) (hB : Lib.IsBuilder 78 5 w.heap.size w.heap.size (Lib.byteCells (catL [])) W) (hb : w.heap.size ≤ W.heap.size) => writeL w.heap.size w.heap.size [] E0 W hB (by simp) (fun x hx => absurd hx (by simp)) (HS.out _ (by simp)) hb)
  have HW1 := Lib.hid (fun (W : World) (hB : Lib.IsBuilder 78 5 w.heap.size w.heap.size (Lib.byteCells (catL [E0])) W) (hb : w.heap.size ≤ W.heap.size) => writeL w.heap.size w.heap.size [E0] E1 W hB (by simp) (fun x hx => HS.out x (by simp only [List.mem_cons, List.not_mem_nil, or_false] at hx ⊢; subst hx; simp)) (HS.out _ (by simp)) hb)
  have HW2 := Lib.hid (fun (W : World) (hB : Lib.IsBuilder 78 5 w.heap.size w.heap.size (Lib.byteCells (catL [E0, E1])) W) (hb : w.heap.size ≤ W.heap.size) => writeL w.heap.size w.heap.size [E0, E1] E2 W hB (by simp) (fun x hx => HS.out x (by simp only [List.mem_cons, List.not_mem_nil, or_false] at hx ⊢; rcases hx with rfl | rfl <;> simp)) (HS.out _ (by simp)) hb)
  have HW3 := Lib.hid (fun (W : World) (hB : Lib.IsBuilder 78 5 w.heap.size w.heap.size (Lib.byteCells (catL [E0, E1, E2])) W) (hb : w.heap.size ≤ W.heap.size) => writeL w.heap.size w.heap.size [E0, E1, E2] E3 W hB (by simp) (fun x hx => HS.out x (by simp only [List.mem_cons, List.not_mem_nil, or_false] at hx ⊢; rcases hx with rfl | rfl | rfl <;> simp)) (HS.out _ (by simp)) hb)
  have HW4 := Lib.hid (fun (W : World) (hB : Lib.IsBuilder 78 5 w.heap.size w.heap.size (Lib.byteCells (catL [E0, E1, E2, E3])) W) (hb : w.heap.size ≤ W.heap.size) => writeL w.heap.size w.heap.size [E0, E1, E2, E3] E4 W hB (by simp) (fun x hx => HS.out x (by simp only [List.mem_cons, List.not_mem_nil, or_false] at hx ⊢; rcases hx with rfl | rfl | rfl | rfl <;> simp)) (HS.out _ (by simp)) hb)
  have HW5 := Lib.hid (fun (W : World) (hB : Lib.IsBuilder 78 5 w.heap.size w.heap.size (Lib.byteCells (catL [E0, E1, E2, E3, E4])) W) (hb : w.heap.size ≤ W.heap.size) => writeL w.heap.size w.heap.size [E0, E1, E2, E3, E4] E5 W hB (by simp) (fun x hx => HS.out x (by simp only [List.mem_cons, List.not_mem_nil, or_false] at hx ⊢; rcases hx with rfl | rfl | rfl | rfl | rfl <;> simp)) (HS.out _ (by simp)) hb)
  have HI0 := Lib.hid (fun W => idxN0 b W)
  have HI1 := Lib.hid (fun W => idxN1 b W)
  have HI2 := Lib.hid (fun W => idxN2 b W)
  have HI3 := Lib.hid (fun W => idxN3 b W)
  have HJ0 := Lib.hid (fun W => idxR0 b W)
  have HJ1 := Lib.hid (fun W => idxR1 b W)
  have HG := Lib.hid (fun (W : World) (hB : Lib.IsBuilder 78 5 w.heap.size w.heap.size (Lib.byteCells (catL [E0, E1, E2, E3, E4, E5])) W) (hb : w.heap.size ≤ W.heap.size) => shBuilder_String_any w.heap.size w.heap.size _ W hB hb)
  generalize numC b = NC at *
  generalize rowC b = RW at *
  clear h HS
  have HBN := Lib.hid (show WroteRel w [] [E0, E1, E2, E3] 4 (.int .i64 0) (w.alloc (.cells #[.pointer none, .slice none 0 0] 78)) from ⟨0, by omega, rfl, isB_new w, (Below.refl _ w).alloc (Nat.le_refl _) _⟩)
  have HBS : Hid (∀ k W W', WroteRel w [] [E0, E1, E2, E3] 4 (.int .i64 k) W → Below W.heap.size W W' → WroteRel w [] [E0, E1, E2, E3] 4 (.int .i64 k) W') := Lib.hid (fun k W W' ⟨j, h1, h2, h3, h4⟩ hb => ⟨j, h1, h2, isB_below h3 hb, h4.trans (hb.mono h4.size)⟩)
  go_enter Tryd.func22, Tryd.ntmps22
  go_wp2_with (go_at_call 39; refine (HN.out _).mono ?_; rintro e w1 ⟨rfl, hb1⟩; have HB1 := Lib.hid (HBS.out _ _ _ HBN.out hb1); clear hb1 HBN HBS)
  go_loopw [10] (fun i W => WroteRel w [] [E0, E1, E2, E3] 4 i W) (fun i _ => 4 - (intOf i).toNat)
  case atStart => exact HB1.out
  case round =>
    clear HB1 HN
    obtain ⟨k, hk, rfl, hB, hbl⟩ := hrel
    have HB := Lib.hid hB
    have HBL := Lib.hid hbl
    clear hB hbl
    have hk5 : k = 0 ∨ k = 1 ∨ k = 2 ∨ k = 3 ∨ k = 4 := by omega
    rcases hk5 with rfl | rfl | rfl | rfl | rfl
    · have hcl := HC.out 0 (.int .i64 ix) rfl wr HBL.out
      have hI := HI0.out
      have hwl : b < wr.heap.size := Nat.lt_of_lt_of_le hlt HBL.out.size
      have HBA := Lib.hid (fun (o : Obj) => (⟨isB_below HB.out ((Below.refl _ wr).alloc (Nat.le_refl _) o), HBL.out.alloc HBL.out.size o⟩ : _ ∧ Below w.heap.size w (wr.alloc o)))
      obtain ⟨u, hu⟩ : ∃ u, IntKind.u64.wrap ix = u := ⟨_, rfl⟩
      have HE := Lib.hid HE0.out
      rw [hu] at HE
      clear HI0 HI1 HI2 HI3 HE0 HE1 HE2 HE3 HE4 HE5 HG HJ0 HJ1 HR
      go_wp2_with (first
        | (go_at_call 41; refine (HE.out _).mono ?_; rintro e w1 ⟨rfl, hb1⟩; have HB1 := Lib.hid (isB_below (HBA.out _).1 hb1); have HL1 := Lib.hid ((HBA.out _).2.trans (hb1.mono (HBA.out _).2.size)); clear hb1)
        | (go_at_call 40; refine (HW0.out _ HB1.out HL1.out.size).mono ?_; rintro e w2 ⟨rfl, hb2, hl2⟩; have HB2 := Lib.hid hb2; have HL2 := Lib.hid (HL1.out.trans hl2); clear hb2 hl2))
      go_roundw
      case rel => exact ⟨1, by omega, by go_num, HB2.out, HL2.out⟩
      case measure => simp [intOf]
    · have hcl := HC.out 1 (.int .i64 fi) rfl wr HBL.out
      have hI := HI1.out
      have hwl : b < wr.heap.size := Nat.lt_of_lt_of_le hlt HBL.out.size
      have HBA := Lib.hid (fun (o : Obj) => (⟨isB_below HB.out ((Below.refl _ wr).alloc (Nat.le_refl _) o), HBL.out.alloc HBL.out.size o⟩ : _ ∧ Below w.heap.size w (wr.alloc o)))
      obtain ⟨u, hu⟩ : ∃ u, IntKind.u64.wrap fi = u := ⟨_, rfl⟩
      have HE := Lib.hid HE1.out
      rw [hu] at HE
      clear HI0 HI1 HI2 HI3 HE0 HE1 HE2 HE3 HE4 HE5 HG HJ0 HJ1 HR
      go_wp2_with (first
        | (go_at_call 41; refine (HE.out _).mono ?_; rintro e w1 ⟨rfl, hb1⟩; have HB1 := Lib.hid (isB_below (HBA.out _).1 hb1); have HL1 := Lib.hid ((HBA.out _).2.trans (hb1.mono (HBA.out _).2.size)); clear hb1)
        | (go_at_call 40; refine (HW1.out _ HB1.out HL1.out.size).mono ?_; rintro e w2 ⟨rfl, hb2, hl2⟩; have HB2 := Lib.hid hb2; have HL2 := Lib.hid (HL1.out.trans hl2); clear hb2 hl2))
      go_roundw
      case rel => exact ⟨2, by omega, by go_num, HB2.out, HL2.out⟩
      case measure => simp [intOf]
    · have hcl := HC.out 3 (.int .i64 co) rfl wr HBL.out
      have hI := HI2.out
      have hwl : b < wr.heap.size := Nat.lt_of_lt_of_le hlt HBL.out.size
      have HBA := Lib.hid (fun (o : Obj) => (⟨isB_below HB.out ((Below.refl _ wr).alloc (Nat.le_refl _) o), HBL.out.alloc HBL.out.size o⟩ : _ ∧ Below w.heap.size w (wr.alloc o)))
      obtain ⟨u, hu⟩ : ∃ u, IntKind.u64.wrap co = u := ⟨_, rfl⟩
      have HE := Lib.hid HE2.out
      rw [hu] at HE
      clear HI0 HI1 HI2 HI3 HE0 HE1 HE2 HE3 HE4 HE5 HG HJ0 HJ1 HR
      go_wp2_with (first
        | (go_at_call 41; refine (HE.out _).mono ?_; rintro e w1 ⟨rfl, hb1⟩; have HB1 := Lib.hid (isB_below (HBA.out _).1 hb1); have HL1 := Lib.hid ((HBA.out _).2.trans (hb1.mono (HBA.out _).2.size)); clear hb1)
        | (go_at_call 40; refine (HW2.out _ HB1.out HL1.out.size).mono ?_; rintro e w2 ⟨rfl, hb2, hl2⟩; have HB2 := Lib.hid hb2; have HL2 := Lib.hid (HL1.out.trans hl2); clear hb2 hl2))
      go_roundw
      case rel => exact ⟨3, by omega, by go_num, HB2.out, HL2.out⟩
      case measure => simp [intOf]
    · have hcl := HC.out 4 (.int .i64 by') rfl wr HBL.out
      have hI := HI3.out
      have hwl : b < wr.heap.size := Nat.lt_of_lt_of_le hlt HBL.out.size
      have HBA := Lib.hid (fun (o : Obj) => (⟨isB_below HB.out ((Below.refl _ wr).alloc (Nat.le_refl _) o), HBL.out.alloc HBL.out.size o⟩ : _ ∧ Below w.heap.size w (wr.alloc o)))
      obtain ⟨u, hu⟩ : ∃ u, IntKind.u64.wrap by' = u := ⟨_, rfl⟩
      have HE := Lib.hid HE3.out
      rw [hu] at HE
      clear HI0 HI1 HI2 HI3 HE0 HE1 HE2 HE3 HE4 HE5 HG HJ0 HJ1 HR
      go_wp2_with (first
        | (go_at_call 41; refine (HE.out _).mono ?_; rintro e w1 ⟨rfl, hb1⟩; have HB1 := Lib.hid (isB_below (HBA.out _).1 hb1); have HL1 := Lib.hid ((HBA.out _).2.trans (hb1.mono (HBA.out _).2.size)); clear hb1)
        | (go_at_call 40; refine (HW3.out _ HB1.out HL1.out.size).mono ?_; rintro e w2 ⟨rfl, hb2, hl2⟩; have HB2 := Lib.hid hb2; have HL2 := Lib.hid (HL1.out.trans hl2); clear hb2 hl2))
      go_roundw
      case rel => exact ⟨4, by omega, by go_num, HB2.out, HL2.out⟩
      case measure => simp [intOf]
    · have HB0 : Hid (Lib.IsBuilder 78 5 w.heap.size w.heap.size (Lib.byteCells (catL [E0, E1, E2, E3])) wr) := HB
      clear HI0 HI1 HI2 HI3 HE0 HE1 HE2 HE3 HB
      go_wp2_with (go_at_call 42; refine (HR.out _).mono ?_; rintro e w2 ⟨rfl, hb2⟩; have HB2 := Lib.hid (⟨0, by omega, rfl, isB_below HB0.out hb2, HBL.out.trans (hb2.mono HBL.out.size)⟩ : WroteRel w [E0, E1, E2, E3] [E4, E5] 2 (.int .i64 0) w2); clear hb2)
      go_loopw [23] (fun i W => WroteRel w [E0, E1, E2, E3] [E4, E5] 2 i W) (fun i _ => 2 - (intOf i).toNat)
      case atStart => exact HB2.out
      case round =>
        clear HB2 HR HBL HB0
        obtain ⟨k, hk, rfl, hB, hbl⟩ := hrel
        have HB := Lib.hid hB
        have HBL := Lib.hid hbl
        clear hB hbl
        have hk3 : k = 0 ∨ k = 1 ∨ k = 2 := by omega
        rcases hk3 with rfl | rfl | rfl
        · have hcl := HC.out 2 (.string pv) rfl _ HBL.out
          have hJ := HJ0.out
          have HE := Lib.hid HE4.out
          clear HE4 HE5 HJ0 HJ1 HG
          go_wp2_with (first
            | (go_at_call 43; refine (HE.out _).mono ?_; rintro e w3 ⟨rfl, hb1⟩; have HB1 := Lib.hid (isB_below HB.out hb1); have HL1 := Lib.hid (HBL.out.trans (hb1.mono HBL.out.size)); clear hb1)
            | (go_at_call 40; refine (HW4.out _ HB1.out HL1.out.size).mono ?_; rintro e w4 ⟨rfl, hb2, hl2⟩; have HB2 := Lib.hid hb2; have HL2 := Lib.hid (HL1.out.trans hl2); clear hb2 hl2))
          go_roundw
          case rel => exact ⟨1, by omega, by go_num, HB2.out, HL2.out⟩
          case measure => simp [intOf]
        · have hcl := HC.out 5 (.string rt) rfl _ HBL.out
          have hJ := HJ1.out
          have HE := Lib.hid HE5.out
          clear HE4 HE5 HJ0 HJ1 HG
          go_wp2_with (first
            | (go_at_call 43; refine (HE.out _).mono ?_; rintro e w3 ⟨rfl, hb1⟩; have HB1 := Lib.hid (isB_below HB.out hb1); have HL1 := Lib.hid (HBL.out.trans (hb1.mono HBL.out.size)); clear hb1)
            | (go_at_call 40; refine (HW5.out _ HB1.out HL1.out.size).mono ?_; rintro e w4 ⟨rfl, hb2, hl2⟩; have HB2 := Lib.hid hb2; have HL2 := Lib.hid (HL1.out.trans hl2); clear hb2 hl2))
          go_roundw
          case rel => exact ⟨2, by omega, by go_num, HB2.out, HL2.out⟩
          case measure => simp [intOf]
        · clear HE4 HE5 HJ0 HJ1
          have HBG := Lib.hid (HG.out _ HB.out HBL.out.size)
          clear HG
          go_wp2_with (go_at_call 44; refine HBG.out.mono ?_; rintro e w3 ⟨rfl, hb1⟩; have HL1 := Lib.hid (HBL.out.trans hb1); clear hb1)
          go_ret
          exact ⟨rfl, HL1.out⟩
end Go.Proofs.YtipaicfmodgcoaaDoor

namespace Go.Proofs.YtipaicfmodgcoaaDoor
open Go.RowKit Base Base2

def digP (n : Int) (s : ByteArray) : ByteArray := if 1 ≤ n ∧ n ≤ 32 then cutH n.toNat s else ⟨#[]⟩
theorem hashP_eq (n : Int) (h : HeadT) : hashP n h = digP n (putH h) := rfl
theorem firstP_eq (n : Int) : firstP n = digP n ⟨#[]⟩ := rfl

set_option maxRecDepth 100000 in
theorem digest27 (s : ByteArray) (n : Int) (w : World) (hs : s.size ≤ 800000) (hK : KHeld w) : Calls Tryd.prog 27 #[.string s, .int .i64 n] w fun e w' => e = .returned (.string (digP n s)) ∧ Below w.heap.size w w' := by
  by_cases hn : 1 ≤ n ∧ n ≤ 32
  · obtain ⟨k, rfl⟩ := Int.eq_ofNat_of_zero_le (show 0 ≤ n by omega)
    have HC := Lib.hid (cut_yes s k w (by omega) (by omega) hs hK)
    have hd : digP (k : Int) s = (digS s).extract 0 k := by unfold digP; rw [if_pos hn]; rfl
    rw [hd]
    generalize (digS s).extract 0 k = D at *
    clear hd hn hs hK
    go_enter Tryd.func27, Tryd.ntmps27
    go_wp2_with (go_at_call 51; refine HC.out.mono ?_; rintro e w1 ⟨rfl, hb⟩; have HB := Lib.hid hb; clear hb)
    go_ret
    exact ⟨rfl, HB.out⟩
  · have HC := Lib.hid (cut_no s n w (by omega))
    have hd : digP n s = ⟨#[]⟩ := by unfold digP; rw [if_neg hn]
    rw [hd]
    clear hd hn hs hK
    go_enter Tryd.func27, Tryd.ntmps27
    go_wp2_with (go_at_call 51; refine HC.out.mono ?_; rintro e w1 ⟨rfl, rfl⟩)
    go_ret
    exact ⟨rfl, Below.refl _ _⟩

theorem pfirst12 (n : Int) (w : World) (hK : KHeld w) : Calls Tryd.prog 12 #[.int .i64 n] w fun e w' => e = .returned (.string (firstP n)) ∧ Below w.heap.size w w' := by
  have HC := Lib.hid (digest27 ⟨#[]⟩ n w (by decide) hK)
  rw [firstP_eq]
  generalize digP n ⟨#[]⟩ = D at *
  clear hK
  go_enter Tryd.func12, Tryd.ntmps12
  go_wp2_with (go_at_call 27; refine HC.out.mono ?_; rintro e w1 ⟨rfl, hb⟩; have HB := Lib.hid hb; clear hb)
  go_ret
  exact ⟨rfl, HB.out⟩

theorem hv_eq (h : HeadT) : hv h = .agg (hcellsL h.ix h.fi h.co h.by' h.pv h.rt) := rfl
def pcH (h : HeadT) : Array Value := pcells h.ix h.fi h.co h.by' h.pv h.rt
theorem partedH (h : HeadT) (w : World) : Calls Tryd.prog 21 #[hv h] w fun e w' => e = .returned (.agg (pcH h)) ∧ Below w.heap.size w w' := parted21 h.ix h.fi h.co h.by' h.pv h.rt w
theorem writtenH (h : HeadT) (b : Nat) (w : World) (hb : w.heap[b]? = some (.cells (pcH h) 51 (0, 0))) (hs : shortH h) : Calls Tryd.prog 22 #[.pointer (some ⟨b, 0, none⟩)] w fun e w' => e = .returned (.string (putH h)) ∧ Below w.heap.size w w' :=
  written22 h.ix h.fi h.co h.by' h.pv h.rt b w hb (by have := hs.1; omega) (by have := hs.2; omega)
theorem mayHP (h : HeadT) (b n : Nat) (w : World) (hb : w.heap[b]? = some (.cells (pcH h) 51 (0, 0))) (hi : h.In) : Calls Tryd.prog 26 #[.pointer (some ⟨b, 0, none⟩), .int .i64 (n : Int)] w fun e w' => e = .returned (.bool (mayH h n)) ∧ Below w.heap.size w w' :=
  may26 h.ix h.fi h.co h.by' h.pv h.rt b n w hb hi.1 hi.2.1 hi.2.2.1 hi.2.2.2
def Z51 : Array Value := #[.int .i64 0, .int .i64 0, .string ⟨#[]⟩, .int .i64 0, .int .i64 0, .string ⟨#[]⟩]
theorem pcH_size (h : HeadT) : (pcH h).size = 6 := rfl
theorem pcH_one (h : HeadT) : (pcH h).all (·.oneCell') = true := by simp [pcH, pcells, Value.oneCell']
theorem boxed (w W : World) (pc Z : Array Value) (hb : Below w.heap.size w W) : Below w.heap.size w ((W.alloc (.cells Z 51)).setRow W.heap.size pc) ∧ ((W.alloc (.cells Z 51)).setRow W.heap.size pc).heap[W.heap.size]? = some (.cells pc 51 (0, 0)) :=
  ⟨below_rowB (hb.alloc hb.size _) hb.size, setRow_heap _ _ _ _ _ _ (heap_alloc_new W _)⟩

set_option maxRecDepth 100000 in
set_option maxHeartbeats 2000000 in
theorem pput8 (h : HeadT) (hs : shortH h) (w : World) : Calls Tryd.prog 8 #[hv h] w fun e w' => e = .returned (.string (putH h)) ∧ Below w.heap.size w w' := by
  have HP := Lib.hid (fun W => partedH h W)
  have HW := Lib.hid (fun b W hb => writtenH h b W hb hs)
  have i6 : (Tryd.prog.info? 51).map (·.size) = some (pcH h).size := info51
  have o6 := pcH_one h
  have hh : (hcells h).size = 6 := rfl
  have i23 : (Tryd.prog.info? 23).map (·.size) = some (hcells h).size := info23P
  have HBX := Lib.hid (HeadS.box w (hcells h))
  have z6 := pcH_size h
  generalize putH h = E at *
  generalize pcH h = PC at *
  unfold hv at *
  generalize hcells h = hc at *
  clear hs hh
  go_enter Tryd.func8, Tryd.ntmps8
  go_wp2_with (first
    | ((with_reducible refine atLoad (ty := 23) (x := .tmp 1) rfl ?_); refine wpList_load_rowG (by rfl) 23 (.tmp 1) rfl w.heap.size rfl 23 hc (0, 0) _ HBX.out.1 Tryd.underlying23 rfl i23 ?_)
    | (go_at_call 21; refine (HP.out _).mono ?_; rintro e w1 ⟨rfl, hb1⟩; have HB1 := Lib.hid (HBX.out.below hb1); have HZ := Lib.hid (boxed w w1 PC Z51 HB1.out.2.1); clear hb1)
    | ((with_reducible refine atStore (ty := 51) (x := .tmp 3) (y := .tmp 5) rfl ?_); refine wpList_store_row rfl 51 (.tmp 3) (.tmp 5) rfl w1.heap.size PC rfl rfl 51 _ (heap_alloc_new w1 _) i6 (by rw [z6]; rfl) o6 ?_)
    | (go_at_call 22; refine (HW.out _ _ HZ.out.2).mono ?_; rintro e w2 ⟨rfl, hb2⟩; have HB2 := Lib.hid (HZ.out.1.trans (hb2.mono HZ.out.1.size)); clear hb2))
  go_ret
  exact ⟨rfl, HB2.out⟩

theorem phash11 (h : HeadT) (n : Int) (hs : shortH h) (w : World) (hK : KHeld w) : Calls Tryd.prog 11 #[hv h, .int .i64 n] w fun e w' => e = .returned (.string (hashP n h)) ∧ Below w.heap.size w w' := by
  have HP := Lib.hid (fun W => pput8 h hs W)
  have hz := putH_size h (by have := hs.1; omega) (by have := hs.2; omega)
  have HD := Lib.hid (fun W (hb : Below w.heap.size w W) => digest27 (putH h) n W (by omega) (KHeld_of hK hb))
  rw [hashP_eq]
  generalize digP n (putH h) = D at *
  generalize putH h = E at *
  have i23 : (Tryd.prog.info? 23).map (·.size) = some (hcells h).size := info23P
  have HBX := Lib.hid (HeadS.box w (hcells h))
  unfold hv at *
  generalize hcells h = hc at *
  clear hs hz hK
  go_enter Tryd.func11, Tryd.ntmps11
  go_wp2_with (first
    | ((with_reducible refine atLoad (ty := 23) (x := .tmp 2) rfl ?_); refine wpList_load_rowG (by rfl) 23 (.tmp 2) rfl w.heap.size rfl 23 hc (0, 0) _ HBX.out.1 Tryd.underlying23 rfl i23 ?_)
    | (go_at_call 8; refine (HP.out _).mono ?_; rintro e w1 ⟨rfl, hb1⟩; have HB1 := Lib.hid (HBX.out.below hb1); clear hb1)
    | (go_at_call 27; refine (HD.out _ HB1.out.2.1).mono ?_; rintro e w2 ⟨rfl, hb2⟩; have HB2 := Lib.hid (HB1.out.2.1.trans (hb2.mono HB1.out.2.1.size)); clear hb2))
  go_ret
  exact ⟨rfl, HB2.out⟩

set_option maxRecDepth 100000 in
set_option maxHeartbeats 2000000 in
theorem pmay10 (h : HeadT) (hi : h.In) (n : Int) (w : World) : Calls Tryd.prog 10 #[hv h, .int .i64 n] w fun e w' => e = .returned (.bool (mayP h n)) ∧ Below w.heap.size w w' := by
  have HP := Lib.hid (fun W => partedH h W)
  have HC := Lib.hid (fun W => mayCut23 n W)
  have hMP : mayP h n = (decide (1 ≤ n) && decide (n ≤ 32) && mayH h n.toNat) := rfl
  rw [hMP]
  have HM := Lib.hid (fun b W hb => mayHP h b n.toNat W hb hi)
  obtain ⟨mb, hmb⟩ : ∃ z, mayH h n.toNat = z := ⟨_, rfl⟩
  rw [hmb] at HM ⊢
  have i6 : (Tryd.prog.info? 51).map (·.size) = some (pcH h).size := info51
  have o6 := pcH_one h
  have i23 : (Tryd.prog.info? 23).map (·.size) = some (hcells h).size := info23P
  have HBX := Lib.hid (HeadS.box w (hcells h))
  have z6 := pcH_size h
  generalize pcH h = PC at *
  unfold hv at *
  generalize hcells h = hc at *
  clear hi hMP hmb
  by_cases hn : 1 ≤ n ∧ n ≤ 32
  · have hc1 : (decide (1 ≤ n) && decide (n ≤ 32)) = true := by rw [decide_eq_true hn.1, decide_eq_true hn.2]; rfl
    rw [hc1] at HC ⊢
    rw [Bool.true_and]
    obtain ⟨k, rfl⟩ := Int.eq_ofNat_of_zero_le (show 0 ≤ n by omega)
    rw [Int.toNat_natCast] at HM
    clear hn hc1
    go_enter Tryd.func10, Tryd.ntmps10
    go_wp2_with (first
      | ((with_reducible refine atLoad (ty := 23) (x := .tmp 2) rfl ?_); refine wpList_load_rowG (by rfl) 23 (.tmp 2) rfl w.heap.size rfl 23 hc (0, 0) _ HBX.out.1 Tryd.underlying23 rfl i23 ?_)
      | (go_at_call 21; refine (HP.out _).mono ?_; rintro e w1 ⟨rfl, hb1⟩; have HB1 := Lib.hid (HBX.out.below hb1); have HZ := Lib.hid (boxed w w1 PC Z51 HB1.out.2.1); clear hb1)
      | ((with_reducible refine atStore (ty := 51) (x := .tmp 5) (y := .tmp 7) rfl ?_); refine wpList_store_row rfl 51 (.tmp 5) (.tmp 7) rfl w1.heap.size PC rfl rfl 51 _ (heap_alloc_new w1 _) i6 (by rw [z6]; rfl) o6 ?_)
      | (go_at_call 23; refine (HC.out _).mono ?_; rintro e w2 ⟨rfl, rfl⟩)
      | (go_at_call 26; refine (HM.out _ _ HZ.out.2).mono ?_; rintro e w3 ⟨rfl, hb2⟩; have HB2 := Lib.hid (HZ.out.1.trans (hb2.mono HZ.out.1.size)); clear hb2))
    go_ret
    exact ⟨rfl, HB2.out⟩
  · have hc1 : (decide (1 ≤ n) && decide (n ≤ 32)) = false := by
      by_cases h1 : 1 ≤ n
      · rw [decide_eq_true h1, decide_eq_false (by omega)]; rfl
      · rw [decide_eq_false h1]; rfl
    rw [hc1] at HC ⊢
    rw [Bool.false_and]
    clear hn hc1 HM
    go_enter Tryd.func10, Tryd.ntmps10
    go_wp2_with (first
      | ((with_reducible refine atLoad (ty := 23) (x := .tmp 2) rfl ?_); refine wpList_load_rowG (by rfl) 23 (.tmp 2) rfl w.heap.size rfl 23 hc (0, 0) _ HBX.out.1 Tryd.underlying23 rfl i23 ?_)
      | (go_at_call 21; refine (HP.out _).mono ?_; rintro e w1 ⟨rfl, hb1⟩; have HB1 := Lib.hid (HBX.out.below hb1); have HZ := Lib.hid (boxed w w1 PC Z51 HB1.out.2.1); clear hb1)
      | ((with_reducible refine atStore (ty := 51) (x := .tmp 5) (y := .tmp 7) rfl ?_); refine wpList_store_row rfl 51 (.tmp 5) (.tmp 7) rfl w1.heap.size PC rfl rfl 51 _ (heap_alloc_new w1 _) i6 (by rw [z6]; rfl) o6 ?_)
      | (go_at_call 23; refine (HC.out _).mono ?_; rintro e w2 ⟨rfl, rfl⟩))
    go_ret
    exact ⟨rfl, HZ.out.1⟩
end Go.Proofs.YtipaicfmodgcoaaDoor

namespace Go.Proofs.YtipaicfmodgcoaaDoor
open Go.RowKit Base Base2

theorem info49 : (Tryd.prog.info? 49).map (·.size) = some 3 := by kernel_rfl
def plC (ix fi : Int) (pv : ByteArray) : Array Value := #[.int .i64 ix, .int .i64 fi, .string pv]
/-- While the result lies in a box. -/
def ResS (w : World) (W : World) : Prop := Below w.heap.size w W ∧ ∃ cs, W.heap[w.heap.size]? = some (.cells cs 49 (0, 0)) ∧ cs.size = 3
theorem ResS.below {w W W' : World} (h : ResS w W) (hb : Below W.heap.size W W') : ResS w W' := by
  obtain ⟨h1, cs, h2, h3⟩ := h
  exact ⟨h1.trans (hb.mono h1.size), cs, (hb.block _ (lt_of_blk h2)).trans h2, h3⟩
theorem ResS.put {w W : World} (h : ResS w W) (ks : Array Value) (hk : ks.size = 3) : ResS w (W.setRow w.heap.size ks) := by
  obtain ⟨h1, cs, h2, h3⟩ := h
  exact ⟨below_rowB h1 (Nat.le_refl _), ks, setRow_heap _ _ _ _ _ _ h2, hk⟩
theorem ResS.drew {w W : World} (h : ResS w W) : ResS w W.drew := ⟨h.1.drew, h.2⟩

set_option maxRecDepth 100000 in
set_option maxHeartbeats 2000000 in
theorem behind38 (h : HeadT) (b n : Nat) (w : World) (hb : w.heap[b]? = some (.cells (pcH h) 51 (0, 0))) (hs : shortH h) (hm : mayH h n = true) (hK : KHeld w) :
    Calls Tryd.prog 38 #[.pointer (some ⟨b, 0, none⟩), .int .i64 (n : Int)] w fun e w' => e = .returned (.agg (plC (h.ix + 1) (h.fi + h.co) (hashP (n : Int) h))) ∧ Below w.heap.size w w' := by
  have hlt := lt_of_blk hb
  have HB0 := Lib.hid (fun (W : World) (hW : Below w.heap.size w W) => (hW.block b hlt).trans hb)
  have HW := Lib.hid (fun (W : World) (hW : Below w.heap.size w W) => writtenH h b W (HB0.out W hW) hs)
  have hz := putH_size h (by have := hs.1; omega) (by have := hs.2; omega)
  have HD := Lib.hid (fun W (hb : Below w.heap.size w W) => digest27 (putH h) (n : Int) W (by omega) (KHeld_of hK hb))
  rw [hashP_eq]
  generalize digP (n : Int) (putH h) = D at *
  generalize putH h = E at *
  obtain ⟨⟨m1, m2⟩, ⟨m3, m4⟩, ⟨m5, m6⟩, _⟩ := (mayH_iff h n).1 hm
  have HC : Hid (∀ (k : Nat) (v : Value), (pcH h)[k]? = some v → ∀ W, Below w.heap.size w W → W.cell? ⟨b, k, none⟩ = some v) := Lib.hid (fun k v hv W hW => cellP (HB0.out W hW) k v hv)
  have e1 : IntKind.i64.wrap (h.ix + 1) = h.ix + 1 := IntWalk.i64_in _ (by omega)
  have e2 : IntKind.i64.wrap (h.fi + h.co) = h.fi + h.co := IntWalk.i64_in _ (by omega)
  obtain ⟨ix, fi, co, by', pv, rt⟩ := h
  dsimp only at *
  have HI := Lib.hid (HC.out 0 (.int .i64 ix) rfl)
  have HF := Lib.hid (HC.out 1 (.int .i64 fi) rfl)
  have HO := Lib.hid (HC.out 3 (.int .i64 co) rfl)
  obtain ⟨x1, hx1⟩ : ∃ x, ix + 1 = x := ⟨_, rfl⟩
  obtain ⟨x2, hx2⟩ : ∃ x, fi + co = x := ⟨_, rfl⟩
  rw [hx1] at e1; rw [hx2] at e2
  have oT : (plC x1 x2 D).all (·.oneCell') = true := by simp [plC, Value.oneCell']
  have iT : (Tryd.prog.info? 49).map (·.size) = some (plC x1 x2 D).size := info49
  rw [hx1, hx2]
  obtain ⟨RC, hRC⟩ : ∃ R, plC x1 x2 D = R := ⟨_, rfl⟩
  have HRC := Lib.hid hRC
  have HR3 := Lib.hid (show RC.size = 3 by rw [← hRC]; rfl)
  rw [hRC] at iT oT ⊢
  clear hRC hb HB0 HC hs hz hm hK m1 m2 m3 m4 m5 m6
  go_enter Tryd.func38, Tryd.ntmps38
  go_upto_region 1 with (fail)
  have HB := Lib.hid (show ResS w (w.alloc (.cells #[.int .i64 0, .int .i64 0, .string ⟨#[]⟩] 49)) from ⟨(Below.refl _ w).alloc (Nat.le_refl _) _, _, heap_alloc_new w _, rfl⟩)
  obtain ⟨W, hW⟩ : ∃ W, w.alloc (.cells #[.int .i64 0, .int .i64 0, .string ⟨#[]⟩] 49) = W := ⟨_, rfl⟩
  rw [hW] at HB ⊢
  clear hW
  refine wp_region_held_drew (S := fun W => ResS w W) (by kernel_rfl) (HB.out.drew) (fun hS => ?_)
  refine wpAnyH_take (i := 0) (v := .pointer (some ⟨b, 0, none⟩)) rfl (by kernel_rfl) (by kernel_rfl) (by kernel_rfl) (fun _ _ _ h => h) (Or.inl ⟨by simp [Region.wanted], fun W _ => by go_simp⟩) hS ?_
  simp only [List.getElem_toArray, List.getElem_cons_zero, Act.put, List.setIfInBounds_toArray, List.set_cons_zero, List.set_cons_succ]
  refine wpAnyH_take (i := 1) (v := .pointer (some ⟨b, 0, none⟩)) rfl (by kernel_rfl) (by kernel_rfl) (by kernel_rfl) (fun _ _ _ h => h) (Or.inl ⟨by simp [Region.wanted], fun W _ => by go_simp⟩) hS ?_
  simp only [List.getElem_toArray, List.getElem_cons_zero, List.getElem_cons_succ, Act.put, List.setIfInBounds_toArray, List.set_cons_zero, List.set_cons_succ]
  refine wpAnyH_take (i := 2) (v := .pointer (some ⟨b, 0, none⟩)) rfl (by kernel_rfl) (by kernel_rfl) (by kernel_rfl) (fun _ _ _ h => h) (Or.inl ⟨by simp [Region.wanted], fun W _ => by go_simp⟩) hS ?_
  simp only [List.getElem_toArray, List.getElem_cons_zero, List.getElem_cons_succ, Act.put, List.setIfInBounds_toArray, List.set_cons_zero, List.set_cons_succ]
  refine wpAnyH_take (i := 3) (v := .pointer (some ⟨b, 0, none⟩)) rfl (by kernel_rfl) (by kernel_rfl) (by kernel_rfl) (fun _ _ _ h => h) (Or.inl ⟨by simp [Region.wanted], fun W _ => by go_simp⟩) hS ?_
  simp only [List.getElem_toArray, List.getElem_cons_zero, List.getElem_cons_succ, Act.put, List.setIfInBounds_toArray, List.set_cons_zero, List.set_cons_succ]
  refine wpAnyH_take (i := 4) (v := .int .i64 ix) rfl (by kernel_rfl) (by kernel_rfl) (by kernel_rfl) (fun _ _ _ h => h) (Or.inl ⟨by simp [Region.wanted], fun W hW => by have hq := HI.out W hW.1; go_simp⟩) hS ?_
  simp only [List.getElem_toArray, List.getElem_cons_zero, List.getElem_cons_succ, Act.put, List.setIfInBounds_toArray, List.set_cons_zero, List.set_cons_succ]
  refine wpAnyH_take (i := 5) (v := .int .i64 x1) rfl (by kernel_rfl) (by kernel_rfl) (by kernel_rfl) (fun _ _ _ h => h) (Or.inl ⟨by simp [Region.wanted], fun W _ => by go_simp⟩) hS ?_
  simp only [List.getElem_toArray, List.getElem_cons_zero, List.getElem_cons_succ, Act.put, List.setIfInBounds_toArray, List.set_cons_zero, List.set_cons_succ]
  refine wpAnyH_take (i := 6) (v := .pointer (some ⟨b, 0, none⟩)) rfl (by kernel_rfl) (by kernel_rfl) (by kernel_rfl) (fun _ _ _ h => h) (Or.inl ⟨by simp [Region.wanted], fun W _ => by go_simp⟩) hS ?_
  simp only [List.getElem_toArray, List.getElem_cons_zero, List.getElem_cons_succ, Act.put, List.setIfInBounds_toArray, List.set_cons_zero, List.set_cons_succ]
  refine wpAnyH_take (i := 7) (v := .pointer (some ⟨b, 0, none⟩)) rfl (by kernel_rfl) (by kernel_rfl) (by kernel_rfl) (fun _ _ _ h => h) (Or.inl ⟨by simp [Region.wanted], fun W _ => by go_simp⟩) hS ?_
  simp only [List.getElem_toArray, List.getElem_cons_zero, List.getElem_cons_succ, Act.put, List.setIfInBounds_toArray, List.set_cons_zero, List.set_cons_succ]
  refine wpAnyH_take (i := 8) (v := .pointer (some ⟨b, 0, none⟩)) rfl (by kernel_rfl) (by kernel_rfl) (by kernel_rfl) (fun _ _ _ h => h) (Or.inl ⟨by simp [Region.wanted], fun W _ => by go_simp⟩) hS ?_
  simp only [List.getElem_toArray, List.getElem_cons_zero, List.getElem_cons_succ, Act.put, List.setIfInBounds_toArray, List.set_cons_zero, List.set_cons_succ]
  refine wpAnyH_take (i := 9) (v := .pointer (some ⟨b, 1, none⟩)) rfl (by kernel_rfl) (by kernel_rfl) (by kernel_rfl) (fun _ _ _ h => h) (Or.inl ⟨by simp [Region.wanted], fun W _ => by go_simp⟩) hS ?_
  simp only [List.getElem_toArray, List.getElem_cons_zero, List.getElem_cons_succ, Act.put, List.setIfInBounds_toArray, List.set_cons_zero, List.set_cons_succ]
  refine wpAnyH_take (i := 10) (v := .int .i64 fi) rfl (by kernel_rfl) (by kernel_rfl) (by kernel_rfl) (fun _ _ _ h => h) (Or.inl ⟨by simp [Region.wanted], fun W hW => by have hq := HF.out W hW.1; go_simp⟩) hS ?_
  simp only [List.getElem_toArray, List.getElem_cons_zero, List.getElem_cons_succ, Act.put, List.setIfInBounds_toArray, List.set_cons_zero, List.set_cons_succ]
  refine wpAnyH_take (i := 11) (v := .pointer (some ⟨b, 0, none⟩)) rfl (by kernel_rfl) (by kernel_rfl) (by kernel_rfl) (fun _ _ _ h => h) (Or.inl ⟨by simp [Region.wanted], fun W _ => by go_simp⟩) hS ?_
  simp only [List.getElem_toArray, List.getElem_cons_zero, List.getElem_cons_succ, Act.put, List.setIfInBounds_toArray, List.set_cons_zero, List.set_cons_succ]
  refine wpAnyH_take (i := 12) (v := .pointer (some ⟨b, 0, none⟩)) rfl (by kernel_rfl) (by kernel_rfl) (by kernel_rfl) (fun _ _ _ h => h) (Or.inl ⟨by simp [Region.wanted], fun W _ => by go_simp⟩) hS ?_
  simp only [List.getElem_toArray, List.getElem_cons_zero, List.getElem_cons_succ, Act.put, List.setIfInBounds_toArray, List.set_cons_zero, List.set_cons_succ]
  refine wpAnyH_take (i := 13) (v := .pointer (some ⟨b, 3, none⟩)) rfl (by kernel_rfl) (by kernel_rfl) (by kernel_rfl) (fun _ _ _ h => h) (Or.inl ⟨by simp [Region.wanted], fun W _ => by go_simp⟩) hS ?_
  simp only [List.getElem_toArray, List.getElem_cons_zero, List.getElem_cons_succ, Act.put, List.setIfInBounds_toArray, List.set_cons_zero, List.set_cons_succ]
  refine wpAnyH_take (i := 14) (v := .int .i64 co) rfl (by kernel_rfl) (by kernel_rfl) (by kernel_rfl) (fun _ _ _ h => h) (Or.inl ⟨by simp [Region.wanted], fun W hW => by have hq := HO.out W hW.1; go_simp⟩) hS ?_
  simp only [List.getElem_toArray, List.getElem_cons_zero, List.getElem_cons_succ, Act.put, List.setIfInBounds_toArray, List.set_cons_zero, List.set_cons_succ]
  refine wpAnyH_take (i := 15) (v := .int .i64 x2) rfl (by kernel_rfl) (by kernel_rfl) (by kernel_rfl) (fun _ _ _ h => h) (Or.inl ⟨by simp [Region.wanted], fun W _ => by go_simp⟩) hS ?_
  simp only [List.getElem_toArray, List.getElem_cons_zero, List.getElem_cons_succ, Act.put, List.setIfInBounds_toArray, List.set_cons_zero, List.set_cons_succ]
  refine wpAnyH_take (i := 16) (v := .pointer (some ⟨b, 0, none⟩)) rfl (by kernel_rfl) (by kernel_rfl) (by kernel_rfl) (fun _ _ _ h => h) (Or.inl ⟨by simp [Region.wanted], fun W _ => by go_simp⟩) hS ?_
  simp only [List.getElem_toArray, List.getElem_cons_zero, List.getElem_cons_succ, Act.put, List.setIfInBounds_toArray, List.set_cons_zero, List.set_cons_succ]
  refine wpAnyH_take (i := 18) (v := .int .i64 (n : Int)) rfl (by kernel_rfl) (by kernel_rfl) (by kernel_rfl) (fun _ _ _ h => h) (Or.inl ⟨by simp [Region.wanted], fun W _ => by go_simp⟩) hS ?_
  simp only [List.getElem_toArray, List.getElem_cons_zero, List.getElem_cons_succ, Act.put, List.setIfInBounds_toArray, List.set_cons_zero, List.set_cons_succ]
  refine wpAnyH_ready (rs := [17]) (by kernel_rfl) (by simp) ?_
  refine AllReadyH.cons rfl (fun K1 hK1 => ?_) AllReadyH.nil
  refine wanted_go rfl ?_
  simp only [List.getElem_toArray, List.getElem_cons_zero, List.getElem_cons_succ]
  go_wp2_with (go_at_call 22; refine (HW.out _ hS.1).mono ?_; rintro e w1 ⟨rfl, hb1⟩; have HB1 := Lib.hid hb1; clear hb1)
  refine hK1.out _ _ (hS.below HB1.out) (fun hS1 => ?_)
  refine wpAnyH_ready (rs := [19]) (by kernel_rfl) (by simp) ?_
  refine AllReadyH.cons rfl (fun K2 hK2 => ?_) AllReadyH.nil
  refine wanted_go rfl ?_
  simp only [List.getElem_toArray, List.getElem_cons_zero, List.getElem_cons_succ]
  go_wp2_with (go_at_call 27; refine (HD.out _ hS1.1).mono ?_; rintro e w2 ⟨rfl, hb2⟩; have HB2 := Lib.hid hb2; clear hb2)
  refine hK2.out _ _ (hS1.below HB2.out) (fun hS2 => ?_)
  refine wpAnyH_take (i := 20) (v := .agg RC) rfl (by kernel_rfl) (by kernel_rfl) (by kernel_rfl) (fun _ _ _ h => h) (Or.inl ⟨by simp [Region.wanted], fun W _ => by go_simp; rw [← HRC.out]; rfl⟩) hS2 ?_
  simp only [List.getElem_toArray, List.getElem_cons_zero, List.getElem_cons_succ, Act.put, List.setIfInBounds_toArray, List.set_cons_zero, List.set_cons_succ]
  refine wpAnyH_ready (rs := [21]) (by kernel_rfl) (by simp) ?_
  refine AllReadyH.cons rfl (fun K3 hK3 => ?_) AllReadyH.nil
  refine wanted_go rfl ?_
  simp only [List.getElem_toArray, List.getElem_cons_zero, List.getElem_cons_succ]
  obtain ⟨hSl, cs, hSc, hSz⟩ := hS2
  refine wp_store_row 49 (.tmp 4) (.tmp 25) rfl w.heap.size RC rfl rfl 49 _ hSc iT (by rw [hSz, HR3.out]) oT ?_
  refine hK3.out _ _ ((show ResS w w2 from ⟨hSl, cs, hSc, hSz⟩).put RC HR3.out) (fun hS3 => ?_)
  refine wpAnyH_done (by kernel_rfl) ?_ _
  go_wp2
  refine ret_cell rfl rfl rfl (setRow_heap _ _ _ _ _ _ hSc) Tryd.underlying49 rfl iT ?_
  exact ⟨rfl, hS3.1⟩

set_option maxRecDepth 100000 in
theorem rule36 (h : HeadT) (b nb n : Nat) (w : World) (hb : w.heap[b]? = some (.cells (pcH h) 51 (0, 0))) (hn : w.cell? ⟨nb, 0, none⟩ = some (.int .i64 (n : Int))) (hi : h.In) :
    Calls Tryd.prog 36 #[.pointer (some ⟨b, 0, none⟩), .pointer (some ⟨nb, 0, none⟩)] w fun e w' => e = .returned (.bool (mayH h n)) ∧ Below w.heap.size w w' := by
  have HM := Lib.hid (mayHP h b n w hb hi)
  generalize mayH h n = mb at *
  clear hb hi
  go_enter Tryd.func36, Tryd.ntmps36
  go_wp2_with (go_at_call 26; refine HM.out.mono ?_; rintro e w1 ⟨rfl, hb1⟩; have HB1 := Lib.hid hb1; clear hb1)
  go_ret
  exact ⟨rfl, HB1.out⟩

theorem yPl {ops : Array Oper} {S : World → Prop} {op : Oper} {A : Act} (hgd : op.guard = none) (u v : Operand) (ho : op.op = .binOp .eql 49 u v 49) (a c : Int) (p : ByteArray) (x y : Int) (q : ByteArray) (hx : A.eval u = .agg (plC a c p)) (hy : A.eval v = .agg (plC x y q)) :
    YieldsIf Tryd.prog ops S op (.bool (decide (a = x) && decide (c = y) && decide (p = q))) A :=
  .inl ⟨by simp [Region.wanted, hgd], fun w _ => by
    unfold execOp
    simp only [ho, hx, hy]
    unfold plC
    by_cases h1 : a = x
    · subst h1
      by_cases h2 : c = y
      · subst h2
        by_cases h3 : p = q
        · subst h3; rw [decide_eq_true rfl, decide_eq_true rfl, decide_eq_true rfl]; go_simp
        · rw [decide_eq_true rfl, decide_eq_true rfl, decide_eq_false h3]
          have := str_ne h3
          go_simp
      · rw [decide_eq_true rfl, decide_eq_false h2]
        have : (c == y) = false := by simpa using h2
        go_simp
    · rw [decide_eq_false h1]
      have : (a == x) = false := by simpa using h1
      go_simp⟩

theorem load_pl {W : World} {b : Nat} {h : HeadT} (hb : W.heap[b]? = some (.cells (pcH h) 51 (0, 0))) : (Instr.loadAt 49 (.pointer (some ⟨b, 0, none⟩))).run Tryd.prog W = .ok (.agg (plC h.ix h.fi h.pv)) W := by
  have hr := World.rangeAt_of_block hb 0 3
  have e : ((pcH h).extract 0 (0 + 3)).toList = (plC h.ix h.fi h.pv).toList := rfl
  rw [e] at hr
  have := load_at (P := Tryd.prog) W b 0 49 (plC h.ix h.fi h.pv).toList _ hr Tryd.underlying49 rfl (by rw [info49]; rfl)
  simpa using this
theorem load_nx {W : World} {b : Nat} {x y : Int} {q : ByteArray} (hb : W.heap[b]? = some (.cells (plC x y q) 49 (0, 0))) : (Instr.loadAt 49 (.pointer (some ⟨b, 0, none⟩))).run Tryd.prog W = .ok (.agg (plC x y q)) W := by
  have hr := World.rangeAt_of_block hb 0 3
  have e : ((plC x y q).extract 0 (0 + 3)).toList = (plC x y q).toList := rfl
  rw [e] at hr
  have := load_at (P := Tryd.prog) W b 0 49 (plC x y q).toList _ hr Tryd.underlying49 rfl (by rw [info49]; rfl)
  simpa using this
set_option maxRecDepth 100000 in
theorem rule37 (h : HeadT) (b nb : Nat) (x y : Int) (q : ByteArray) (w : World) (hb : w.heap[b]? = some (.cells (pcH h) 51 (0, 0))) (hn : w.heap[nb]? = some (.cells (plC x y q) 49 (0, 0))) :
    Calls Tryd.prog 37 #[.pointer (some ⟨b, 0, none⟩), .pointer (some ⟨nb, 0, none⟩)] w fun e w' => e = .returned (.bool (decide (h.ix = x) && decide (h.fi = y) && decide (h.pv = q))) ∧ Below w.heap.size w w' := by
  have HL := Lib.hid (fun (W : World) (hW : W.heap = w.heap) => (load_pl (W := W) (by rw [hW]; exact hb) : (Instr.loadAt 49 (.pointer (some ⟨b, 0, none⟩))).run Tryd.prog W = .ok (.agg (plC h.ix h.fi h.pv)) W))
  have HX := Lib.hid (fun (W : World) (hW : W.heap = w.heap) => (load_nx (W := W) (by rw [hW]; exact hn) : (Instr.loadAt 49 (.pointer (some ⟨nb, 0, none⟩))).run Tryd.prog W = .ok (.agg (plC x y q)) W))
  have HS := Lib.hid (show (fun W : World => W.heap = w.heap ∧ Below w.heap.size w W) w.drew from ⟨rfl, (Below.refl _ w).drew⟩)
  clear hb hn
  go_enter Tryd.func37, Tryd.ntmps37
  go_upto_region 1 with (fail)
  refine wp_region_held_drew (S := fun W => W.heap = w.heap ∧ Below w.heap.size w W) (by kernel_rfl) (HS.out) (fun hS => ?_)
  refine wpAnyH_take (i := 0) (v := .pointer (some ⟨b, 0, none⟩)) rfl (by kernel_rfl) (by kernel_rfl) (by kernel_rfl) (fun _ _ _ h => h) (Or.inl ⟨by simp [Region.wanted], fun W _ => by go_simp⟩) hS ?_
  simp only [List.getElem_toArray, List.getElem_cons_zero, Act.put, List.setIfInBounds_toArray, List.set_cons_zero, List.set_cons_succ]
  refine wpAnyH_take (i := 1) (v := .pointer (some ⟨b, 0, none⟩)) rfl (by kernel_rfl) (by kernel_rfl) (by kernel_rfl) (fun _ _ _ h => h) (Or.inl ⟨by simp [Region.wanted], fun W _ => by go_simp⟩) hS ?_
  simp only [List.getElem_toArray, List.getElem_cons_zero, List.getElem_cons_succ, Act.put, List.setIfInBounds_toArray, List.set_cons_zero, List.set_cons_succ]
  refine wpAnyH_take (i := 2) (v := .pointer (some ⟨b, 0, none⟩)) rfl (by kernel_rfl) (by kernel_rfl) (by kernel_rfl) (fun _ _ _ h => h) (Or.inl ⟨by simp [Region.wanted], fun W _ => by go_simp⟩) hS ?_
  simp only [List.getElem_toArray, List.getElem_cons_zero, List.getElem_cons_succ, Act.put, List.setIfInBounds_toArray, List.set_cons_zero, List.set_cons_succ]
  refine wpAnyH_take (i := 3) (v := .agg (plC h.ix h.fi h.pv)) rfl (by kernel_rfl) (by kernel_rfl) (by kernel_rfl) (fun _ _ _ h => h) (yieldsIf_load rfl 49 (.tmp 6) rfl _ _ rfl (fun W hW => HL.out W hW.1)) hS ?_
  simp only [List.getElem_toArray, List.getElem_cons_zero, List.getElem_cons_succ, Act.put, List.setIfInBounds_toArray, List.set_cons_zero, List.set_cons_succ]
  refine wpAnyH_take (i := 4) (v := .agg (plC x y q)) rfl (by kernel_rfl) (by kernel_rfl) (by kernel_rfl) (fun _ _ _ h => h) (yieldsIf_load rfl 49 (.tmp 1) rfl _ _ rfl (fun W hW => HX.out W hW.1)) hS ?_
  simp only [List.getElem_toArray, List.getElem_cons_zero, List.getElem_cons_succ, Act.put, List.setIfInBounds_toArray, List.set_cons_zero, List.set_cons_succ]
  refine wpAnyH_take (i := 5) (v := .bool (decide (h.ix = x) && decide (h.fi = y) && decide (h.pv = q))) rfl (by kernel_rfl) (by kernel_rfl) (by kernel_rfl) (fun _ _ _ h => h) (yPl rfl (.tmp 7) (.tmp 8) rfl _ _ _ _ _ _ rfl rfl) hS ?_
  simp only [List.getElem_toArray, List.getElem_cons_zero, List.getElem_cons_succ, Act.put, List.setIfInBounds_toArray, List.set_cons_zero, List.set_cons_succ]
  refine wpAnyH_take (i := 6) (v := .bool (decide (h.ix = x) && decide (h.fi = y) && decide (h.pv = q))) rfl (by kernel_rfl) (by kernel_rfl) (by kernel_rfl) (fun _ _ _ h => h) (Or.inl ⟨by simp [Region.wanted], fun W _ => by go_simp⟩) hS ?_
  simp only [List.getElem_toArray, List.getElem_cons_zero, List.getElem_cons_succ, Act.put, List.setIfInBounds_toArray, List.set_cons_zero, List.set_cons_succ]
  refine wpAnyH_done (by kernel_rfl) ?_ _
  go_wp2
  go_ret
  exact ⟨rfl, hS.2⟩
end Go.Proofs.YtipaicfmodgcoaaDoor

namespace Go.Proofs.YtipaicfmodgcoaaDoor
open Go.RowKit Base Base2

theorem wp_loadG {P : Program} {o : Oper} {a : Act} {w : World} {K : Act → World → Prop} {Q : Exit → Act → World → Prop} (ty : TypeId) (x : Operand) (ho : o.op = .load ty x)
    (p v : Value) (hx : a.eval x = p) (hr : (Instr.loadAt ty p).run P w = .ok v w) (h : K (a.put o.dst v) w) : o.wp P a w K Q := by
  unfold Oper.wp execOp
  simp only [ho, hx, Sem.run_bind, Sem.run_pure, hr, Result.andThen_ok]
  exact h
theorem wpList_loadG {P : Program} {ops : Array Oper} {rest : List Oper} {o : Oper} {a : Act} {w : World} {Q : Exit → Act → World → Prop} (hw : Region.wanted o (yielded ops a.tmps) = true) (ty : TypeId) (x : Operand) (ho : o.op = .load ty x)
    (p v : Value) (hx : a.eval x = p) (hr : (Instr.loadAt ty p).run P w = .ok v w) (h : wpList P ops Q rest (a.put o.dst v) w) : wpList P ops Q (o :: rest) a w :=
  BigFrame.wpList_want hw fun _ hK => wp_loadG ty x ho p v hx hr (hK _ _ h)
def Z23 : Array Value := #[.int .i64 0, .int .i64 0, .int .i64 0, .int .i64 0, .string ⟨#[]⟩, .string ⟨#[]⟩]
/-- What stays while the chain is looked at: how many bytes a digest has, the rules, what the next header must be. -/
structure ChS (w : World) (m q : Nat) (x y : Int) (s : ByteArray) (W : World) : Prop where
  lo : Below w.heap.size w W
  qq : w.heap.size < q
  nb : W.heap[w.heap.size]? = some (.cells #[.int .i64 (m : Int)] 3 (0, 0))
  nx : W.heap[q]? = some (.cells (plC x y s) 49 (0, 0))
  fn : W.heap[q + 1]? = some (.cells #[.func (.func 36) #[] #[.pointer (some ⟨w.heap.size, 0, none⟩)], .func (.func 37) #[] #[.pointer (some ⟨q, 0, none⟩)]] 72 (0, 0))
theorem ChS.below {w W W' : World} {m q : Nat} {x y : Int} {s : ByteArray} (h : ChS w m q x y s W) (hb : Below W.heap.size W W') : ChS w m q x y s W' :=
  ⟨h.lo.trans (hb.mono h.lo.size), h.qq, (hb.block _ (lt_of_blk h.nb)).trans h.nb, (hb.block _ (lt_of_blk h.nx)).trans h.nx, (hb.block _ (lt_of_blk h.fn)).trans h.fn⟩
theorem ChS.next {w W : World} {m q : Nat} {x y : Int} {s : ByteArray} (h : ChS w m q x y s W) (x' y' : Int) (s' : ByteArray) : ChS w m q x' y' s' (W.setRow q (plC x' y' s')) :=
  ⟨below_rowB h.lo (by have := h.qq; omega), h.qq, (setRow_ne _ (by have := h.qq; omega)).trans h.nb, setRow_heap _ _ _ _ _ _ h.nx, (setRow_ne _ (by omega)).trans h.fn⟩
theorem ChS.cn {w W : World} {m q : Nat} {x y : Int} {s : ByteArray} (h : ChS w m q x y s W) : W.cell? ⟨w.heap.size, 0, none⟩ = some (.int .i64 (m : Int)) := cell_of_one h.nb
theorem boxT (T : TypeId) (W : World) (ks Z : Array Value) : Below W.heap.size W ((W.alloc (.cells Z T)).setRow W.heap.size ks) ∧ ((W.alloc (.cells Z T)).setRow W.heap.size ks).heap[W.heap.size]? = some (.cells ks T (0, 0)) :=
  ⟨below_rowB ((Below.refl _ W).alloc (Nat.le_refl _) _) (Nat.le_refl _), setRow_heap _ _ _ _ _ _ (heap_alloc_new W _)⟩
def ChRel (w : World) (l : List HeadT) (m q : Nat) (RES : Option ByteArray) (vi : Value) (W : World) : Prop :=
  ∃ (k : Nat) (fi : Int) (pv : ByteArray), k ≤ l.length ∧ vi = .int .i64 (k : Int) ∧ ChS w m q (k : Int) fi pv W ∧ chainG m (l.drop k) k fi pv = RES ∧ 0 ≤ fi ∧ fi ≤ 64 * k
def ChRel2 (w : World) (m q g : Nat) (PC : Array Value) (x y : Int) (s : ByteArray) (A B : Prop) (vi : Value) (W : World) : Prop :=
  ∃ j : Nat, j ≤ 2 ∧ vi = .int .i64 (j : Int) ∧ ChS w m q x y s W ∧ W.heap[g]? = some (.cells PC 51 (0, 0)) ∧ (1 ≤ j → A) ∧ (2 ≤ j → B)
theorem decide3 {a x c y : Int} {p q : ByteArray} (h : (decide (a = x) && decide (c = y) && decide (p = q)) = true) : a = x ∧ c = y ∧ p = q := by
  simp only [Bool.and_eq_true, decide_eq_true_eq] at h; exact ⟨h.1.1, h.1.2, h.2⟩
theorem decide3_no {a x c y : Int} {p q : ByteArray} (h : (decide (a = x) && decide (c = y) && decide (p = q)) = false) : ¬ (a = x ∧ c = y ∧ p = q) := by
  rintro ⟨rfl, rfl, rfl⟩; simp at h

set_option maxRecDepth 100000 in
set_option maxHeartbeats 8000000 in
theorem pchain19 (l : List HeadT) (a : Option Addr) (cap : Nat) (n : Int) (w : World) (hK : KHeld w) (hr : HeadsAt w a l) (hl : l.length ≤ 40) (hs : ∀ h ∈ l, h.In ∧ shortH h) (_hc : l.length ≤ cap) : Calls Tryd.prog 19 #[.slice a l.length cap, .int .i64 n] w fun e w' => e = .returned (.tuple #[.string (chainP n l).1, .int .i64 (chainP n l).2]) ∧ Below w.heap.size w w' := by
  have HC := Lib.hid (fun W => mayCut23 n W)
  by_cases hn : 1 ≤ n ∧ n ≤ 32
  · have hc1 : (decide (1 ≤ n) && decide (n ≤ 32)) = true := by rw [decide_eq_true hn.1, decide_eq_true hn.2]; rfl
    rw [hc1] at HC
    have hp : chainP n l = (match chainH n.toNat l with | Option.some s => (s, 0) | none => (⟨#[]⟩, 10)) := if_pos hn
    rw [hp]
    have hfi : firstP n = cutH n.toNat ⟨#[]⟩ := if_pos hn
    have HF := Lib.hid (fun W (hb : Below w.heap.size w W) => pfirst12 n W (KHeld_of hK hb))
    rw [hfi] at HF
    obtain ⟨m, rfl⟩ := Int.eq_ofNat_of_zero_le (show 0 ≤ n by omega)
    rw [Int.toNat_natCast] at HF ⊢
    have hhp : ∀ h, hashP (m : Int) h = hashH m h := fun h => by unfold hashP; rw [if_pos hn, Int.toNat_natCast]
    have HHP := Lib.hid hhp
    obtain ⟨RES, hRES⟩ : ∃ R, chainH m l = R := ⟨_, rfl⟩
    have hR0 : chainG m (l.drop 0) 0 0 (cutH m ⟨#[]⟩) = RES := by rw [List.drop_zero]; exact hRES
    have HR0 := Lib.hid hR0
    rw [hRES]
    generalize cutH m ⟨#[]⟩ = D at *
    clear hp hfi hc1 hR0 hRES hhp
    have HNB := Lib.hid (heap_alloc_new w (.cells #[.int .i64 (m : Int)] 3))
    have HB0 := Lib.hid ((Below.refl _ w).alloc (Nat.le_refl _) (.cells #[.int .i64 (m : Int)] 3))
    have HHS := Lib.hid hs
    have HKK := Lib.hid (fun W (hb : Below w.heap.size w W) => KHeld_of hK hb)
    clear hs hK
    go_enter Tryd.func19, Tryd.ntmps19
    go_wp2_with (first
      | (go_at_call 23; refine (HC.out _).mono ?_; rintro e w1 ⟨rfl, rfl⟩)
      | (go_at_call 12; refine (HF.out _ HB0.out).mono ?_; rintro e w2 ⟨rfl, hb⟩; have HB2 := Lib.hid (HB0.out.trans (hb.mono HB0.out.size)); have HN2 := Lib.hid ((hb.block _ (by simp)).trans HNB.out); clear hb))
    have hq2 := lt_of_blk HN2.out
    have HST := Lib.hid (show ChS w m w2.heap.size ((0 : Nat) : Int) 0 D ((w2.alloc (.cells (plC 0 0 D) 49)).alloc (.cells #[.func (.func 36) #[] #[.pointer (Option.some ⟨w.heap.size, 0, none⟩)], .func (.func 37) #[] #[.pointer (Option.some ⟨w2.heap.size, 0, none⟩)]] 72)) from
      ⟨(HB2.out.alloc HB2.out.size _).alloc (by have := HB2.out.size; simp; omega) _, hq2, (Below.heap_alloc _ _ _ (by simp; omega)).trans ((Below.heap_alloc _ _ _ hq2).trans HN2.out), (Below.heap_alloc _ _ _ (by simp)).trans (heap_alloc_new w2 _), by have h := heap_alloc_new (w2.alloc (.cells (plC 0 0 D) 49)) (.cells #[.func (.func 36) #[] #[.pointer (Option.some ⟨w.heap.size, 0, none⟩)], .func (.func 37) #[] #[.pointer (Option.some ⟨w2.heap.size, 0, none⟩)]] 72); rw [World.size_alloc] at h; exact h⟩)
    obtain ⟨q, hq⟩ : ∃ q, w2.heap.size = q := ⟨_, rfl⟩
    rw [hq] at HST hq2 ⊢
    unfold plC at HST
    obtain ⟨WS, hWS⟩ : ∃ W, ((w2.alloc (.cells #[.int .i64 0, .int .i64 0, .string D] 49)).alloc (.cells #[.func (.func 36) #[] #[.pointer (Option.some ⟨w.heap.size, 0, none⟩)], .func (.func 37) #[] #[.pointer (Option.some ⟨q, 0, none⟩)]] 72)) = W := ⟨_, rfl⟩
    rw [hWS] at HST ⊢
    clear HNB HB0 HN2 HB2 HF HC hq hWS
    go_loopw [24] (fun vi W => ChRel w l m q RES vi W) (fun vi _ => l.length - (intOf vi).toNat)
    case atStart => exact ⟨0, 0, D, by omega, rfl, HST.out, HR0.out, by omega, by omega⟩
    case round =>
      clear HR0 HST
      obtain ⟨k, fi, pv, hk, rfl, hch, hres, hf1, hf2⟩ := hrel
      by_cases hlt : k < l.length
      · obtain ⟨b, off, rfl, hbw, hcl⟩ := hr.some (by omega)
        obtain ⟨h, hh⟩ : ∃ h, l[k]? = Option.some h := ⟨l[k], by simp [hlt]⟩
        have hr0 := hcl k h hh
        have hsh := HHS.out h (List.mem_of_getElem? hh)
        have HL := Lib.hid (fun (W : World) (hb : Below w.heap.size w W) => load_headAt (rangeAt_below hr0 hb hbw))
        have HNO := Lib.hid (chainG_no m l k fi pv h hh)
        have HYES := Lib.hid (chainG_yes m l k fi pv h hh)
        have HPT := Lib.hid (fun W => partedH h W)
        have HR36 := Lib.hid (fun g W hb hc => rule36 h g w.heap.size m W hb hc hsh.1)
        have HR37 := Lib.hid (fun g (W : World) hb hc => rule37 h g q (k : Int) fi pv W hb hc)
        have HBH := Lib.hid (fun g (W : World) hb hm (hlo : Below w.heap.size w W) => behind38 h g m W hb hsh.2 hm (HKK.out W hlo))
        rw [HHP.out] at HBH
        have HMI := Lib.hid (mayH_iff h m)
        have i51 : (Tryd.prog.info? 51).map (·.size) = Option.some (pcH h).size := info51
        have o51 := pcH_one h
        have z51 := pcH_size h
        have i23 : (Tryd.prog.info? 23).map (·.size) = Option.some (hcells h).size := info23P
        have o23 : (hcells h).all (·.oneCell') = true := by simp [hcells, Value.oneCell']
        have z23 : (hcells h).size = 6 := rfl
        have HK := Lib.hid hch
        have HX1 := Lib.hid (boxT 23 wr (hcells h) Z23)
        have HS1 := Lib.hid (HK.out.below HX1.out.1)
        unfold hv at HPT
        generalize pcH h = PC at *
        generalize hcells h = hc0 at *
        clear hr0 hcl hh hsh hch hr HHS HKK HHP
        obtain ⟨mb, hmb⟩ : ∃ z, mayH h m = z := ⟨_, rfl⟩
        obtain ⟨eb, heb⟩ : ∃ z, (decide (h.ix = (k : Int)) && decide (h.fi = fi) && decide (h.pv = pv)) = z := ⟨_, rfl⟩
        rw [hmb] at HR36
        rw [heb] at HR37
        have HMB := Lib.hid hmb
        have HEB := Lib.hid heb
        have HRES := Lib.hid hres
        clear hmb heb hres
        go_wp2_with (first
          | ((with_reducible refine atLoad (ty := 23) (x := .tmp 26) rfl ?_); refine wpList_loadG rfl 23 (.tmp 26) rfl (.pointer (Option.some ⟨b, off + k * 6, none⟩)) (.agg hc0) rfl (HL.out _ HK.out.lo) ?_)
          | ((with_reducible refine atStore (ty := 23) (x := .tmp 9) (y := .tmp 27) rfl ?_); refine wpList_store_row rfl 23 (.tmp 9) (.tmp 27) rfl wr.heap.size hc0 rfl rfl 23 _ (heap_alloc_new wr _) i23 (by rw [z23]; rfl) o23 ?_)
          | ((with_reducible refine atLoad (ty := 23) (x := .tmp 9) rfl ?_); refine wpList_load_rowG rfl 23 (.tmp 9) rfl wr.heap.size rfl 23 hc0 (0, 0) _ HX1.out.2 Tryd.underlying23 rfl i23 ?_)
          | (go_at_call 21; refine (HPT.out _).mono ?_; rintro e w3 ⟨rfl, hb3⟩; have HS3 := Lib.hid (HS1.out.below hb3); have HX3 := Lib.hid (boxT 51 w3 PC Z51); have HS4 := Lib.hid (HS3.out.below HX3.out.1); clear hb3)
          | ((with_reducible refine atStore (ty := 51) (x := .tmp 10) (y := .tmp 29) rfl ?_); refine wpList_store_row rfl 51 (.tmp 10) (.tmp 29) rfl w3.heap.size PC rfl rfl 51 _ (heap_alloc_new w3 _) i51 (by rw [z51]; rfl) o51 ?_))
        obtain ⟨g, hg⟩ : ∃ g, w3.heap.size = g := ⟨_, rfl⟩
        have HI0 := Lib.hid (show ChRel2 w m q w3.heap.size PC (k : Int) fi pv (mayH h m = true) (h.ix = (k : Int) ∧ h.fi = fi ∧ h.pv = pv) (.int .i64 0) _ from ⟨0, by omega, rfl, HS4.out, HX3.out.2, by omega, by omega⟩)
        rw [hg] at HI0 ⊢
        obtain ⟨W4, hW4⟩ : ∃ W, (w3.alloc (.cells Z51 51)).setRow g PC = W := ⟨_, rfl⟩
        unfold Z51 at HI0 hW4
        rw [hW4] at HI0 ⊢
        clear HX1 HS1 HS3 HX3 HS4 HL HPT hW4 hg i23 o23 z23 i51 o51 z51
        go_loopw [32] (fun vi W => ChRel2 w m q g PC (k : Int) fi pv (mayH h m = true) (h.ix = (k : Int) ∧ h.fi = fi ∧ h.pv = pv) vi W) (fun vi _ => 2 - (intOf vi).toNat)
        case atStart => exact HI0.out
        case round =>
          clear HI0 HK
          obtain ⟨j, hj, rfl, hch, hpc, r1, r2⟩ := hrel
          have HK := Lib.hid hch
          have HP := Lib.hid hpc
          have R1 := Lib.hid r1
          have R2 := Lib.hid r2
          clear r1 r2
          have hj3 : j = 0 ∨ j = 1 ∨ j = 2 := by omega
          rcases hj3 with rfl | rfl | rfl
          · have hf := cellP hch.fn 0 _ rfl
            have HCL := Lib.hid (HR36.out g wr hpc hch.cn)
            clear HR36 HR37 HBH HYES HMI hch hpc R1 R2
            cases mb with
            | true =>
              clear HNO
              go_wp2_with (go_at_call 36; refine HCL.out.mono ?_; rintro e w5 ⟨rfl, hb5⟩; have HK5 := Lib.hid (HK.out.below hb5); have HP5 := Lib.hid ((hb5.block _ (lt_of_blk HP.out)).trans HP.out); clear hb5)
              go_roundw
              case rel => exact ⟨1, by omega, by go_num, HK5.out, HP5.out, fun _ => HMB.out, by omega⟩
              case measure => simp [intOf]
            | false =>
              have hno := HNO.out (fun hx => by rw [HMB.out] at hx; exact absurd hx.1 (by simp))
              have hres := HRES.out
              rw [hno] at hres
              subst hres
              clear hno HNO HRES
              go_wp2_with (go_at_call 36; refine HCL.out.mono ?_; rintro e w5 ⟨rfl, hb5⟩; have HK5 := Lib.hid (HK.out.below hb5); clear hb5)
              go_ret2
              exact ⟨rfl, HK5.out.lo⟩
          · have hf := cellP hch.fn 1 _ rfl
            have HCL := Lib.hid (HR37.out g wr hpc hch.nx)
            clear HR36 HR37 HBH HYES HMI hch hpc R2
            cases eb with
            | true =>
              clear HNO
              go_wp2_with (go_at_call 37; refine HCL.out.mono ?_; rintro e w5 ⟨rfl, hb5⟩; have HK5 := Lib.hid (HK.out.below hb5); have HP5 := Lib.hid ((hb5.block _ (lt_of_blk HP.out)).trans HP.out); clear hb5)
              go_roundw
              case rel => exact ⟨2, by omega, by go_num, HK5.out, HP5.out, fun _ => R1.out (by omega), fun _ => decide3 HEB.out⟩
              case measure => simp [intOf]
            | false =>
              have hno := HNO.out (fun hx => decide3_no HEB.out hx.2)
              have hres := HRES.out
              rw [hno] at hres
              subst hres
              clear hno HNO HRES
              go_wp2_with (go_at_call 37; refine HCL.out.mono ?_; rintro e w5 ⟨rfl, hb5⟩; have HK5 := Lib.hid (HK.out.below hb5); clear hb5)
              go_ret2
              exact ⟨rfl, HK5.out.lo⟩
          · have hm := R1.out (by omega)
            have he := R2.out (by omega)
            have hyes := HYES.out ⟨hm, he.1, he.2.1, he.2.2⟩
            have hco := (HMI.out.1 hm).2.2.1
            have hcn := hch.cn
            have HBW := Lib.hid (HBH.out g wr hpc hm hch.lo)
            have hx1 : h.ix + 1 = ((k + 1 : Nat) : Int) := by have := he.1; omega
            have hx2 : h.fi + h.co = fi + h.co := by rw [he.2.1]
            rw [hx1, hx2] at HBW
            have hres := HRES.out
            rw [hyes] at hres
            have HRES2 := Lib.hid hres
            obtain ⟨co, hco2⟩ : ∃ z, h.co = z := ⟨_, rfl⟩
            rw [hco2] at HBW HRES2 hco
            generalize hashH m h = HH at *
            have i49 : (Tryd.prog.info? 49).map (·.size) = Option.some (plC ((k + 1 : Nat) : Int) (fi + co) HH).size := info49
            have o49 : (plC ((k + 1 : Nat) : Int) (fi + co) HH).all (·.oneCell') = true := by simp [plC, Value.oneCell']
            have z49 : (plC (k : Int) fi pv).size = (plC ((k + 1 : Nat) : Int) (fi + co) HH).size := rfl
            have HNX := Lib.hid (fun (W : World) (hS : ChS w m q (k : Int) fi pv W) => hS.next ((k + 1 : Nat) : Int) (fi + co) HH)
            generalize plC ((k + 1 : Nat) : Int) (fi + co) HH = NX at *
            clear HR36 HR37 HBH HYES HMI HNO hm he hyes hch hpc R1 R2 HMB HEB HRES hres hx1 hx2 hco2
            go_wp2_with (first
              | (go_at_call 38; refine HBW.out.mono ?_; rintro e w5 ⟨rfl, hb5⟩; have HK5 := Lib.hid (HK.out.below hb5); have HK6 := Lib.hid (HNX.out _ HK5.out); clear hb5)
              | ((with_reducible refine atStore (ty := 49) (x := .tmp 6) (y := .tmp 41) rfl ?_); refine wpList_store_row rfl 49 (.tmp 6) (.tmp 41) rfl q NX rfl rfl 49 _ HK5.out.nx i49 z49 o49 ?_))
            go_roundw
            case rel => exact ⟨k + 1, fi + co, HH, by omega, by go_num, HK6.out, HRES2.out, by omega, by omega⟩
            case measure => simp [intOf]; omega
      · have hk2 : k = l.length := by omega
        have he := chainG_end m l k fi pv (by omega)
        rw [he] at hres
        subst hres
        have HK := Lib.hid hch
        have hn2 := cellP hch.nx 2 (.string pv) rfl
        clear hch he
        go_wp2
        go_ret2
        exact ⟨rfl, HK.out.lo⟩
  · have hc1 : (decide (1 ≤ n) && decide (n ≤ 32)) = false := by
      by_cases h1 : 1 ≤ n
      · rw [decide_eq_true h1, decide_eq_false (by omega)]; rfl
      · rw [decide_eq_false h1]; rfl
    rw [hc1] at HC
    have hp : chainP n l = (⟨#[]⟩, 1) := if_neg hn
    rw [hp]
    clear hp hc1 hn hK hr hl hs
    have HB := Lib.hid ((Below.refl _ w).alloc (Nat.le_refl _) (.cells #[.int .i64 n] 3))
    go_enter Tryd.func19, Tryd.ntmps19
    go_wp2_with (first
      | (go_at_call 23; refine (HC.out _).mono ?_; rintro e w1 ⟨rfl, rfl⟩))
    go_ret2
    exact ⟨rfl, HB.out⟩
end Go.Proofs.YtipaicfmodgcoaaDoor

namespace Go.Proofs.YtipaicfmodgcoaaDoor
open Go.RowKit Base Base2

/-- While bytes are read: the result, a header and a reader lie in boxes. -/
structure PrS (w : World) (q p : Nat) (hc : Array Value) (st : StR) (W : World) : Prop where
  lo : Below w.heap.size w W
  res : W.heap[w.heap.size]? = some (.cells (pcH zeroH) 51 (0, 0))
  hd : W.heap[q]? = some (.cells hc 51 (0, 0))
  rd : RdX W p st.1 st.2
  q1 : w.heap.size < q
  p1 : q < p
theorem PrS.below {w W W' : World} {q p : Nat} {hc : Array Value} {st : StR} (h : PrS w q p hc st W) (hb : Below W.heap.size W W') : PrS w q p hc st W' :=
  ⟨h.lo.trans (hb.mono h.lo.size), (hb.block _ (lt_of_blk h.res)).trans h.res, (hb.block _ (lt_of_blk h.hd)).trans h.hd, h.rd.below hb h.rd.lt, h.q1, h.p1⟩
theorem PrS.drew {w W : World} {q p : Nat} {hc : Array Value} {st : StR} (h : PrS w q p hc st W) : PrS w q p hc st W.drew := ⟨h.lo.drew, h.res, h.hd, h.rd, h.q1, h.p1⟩
theorem PrS.step {w W W' : World} {q p : Nat} {hc : Array Value} {st st' : StR} (h : PrS w q p hc st W) (hr : RdX W' p st'.1 st'.2) (hg : W.grownBy W' (some p)) : PrS w q p hc st' W' :=
  ⟨h.lo.grown hg h.lo.size (fun k hk => by simp at hk; have := h.q1; have := h.p1; omega), (hg.block _ (lt_of_blk h.res) (by have := h.q1; have := h.p1; simp; omega)).trans h.res, (hg.block _ (lt_of_blk h.hd) (by have := h.p1; simp; omega)).trans h.hd, hr, h.q1, h.p1⟩
theorem PrS.set {w W : World} {q p : Nat} {hc : Array Value} {st : StR} (h : PrS w q p hc st W) (i : Nat) (v : Value) : PrS w q p (hc.setIfInBounds i v) st (W.setCell ⟨q, i, none⟩ v) :=
  ⟨h.lo.setCell (p := ⟨q, i, none⟩) (by have := h.q1; show w.heap.size ≤ q; omega) v, (heap_setCell_ne v (by have := h.q1; omega)).trans h.res, set_blkN h.hd i v, (heap_setCell_ne v (by have := h.p1; omega)).trans h.rd, h.q1, h.p1⟩
theorem PrS.cell {w W : World} {q p : Nat} {hc : Array Value} {st : StR} (h : PrS w q p hc st W) (i : Nat) (v : Value) (hv : hc[i]? = some v) : W.cell? ⟨q, i, none⟩ = some v := cellP h.hd i v hv
theorem PrS.free {w W : World} {q p : Nat} {hc : Array Value} {st : StR} (h : PrS w q p hc st W) (i : Nat) : W.frozen? ⟨q, i, none⟩ = false := free_of_blkN h.hd i

theorem numP (p : Nat) (st : StR) (most : Int) (w : World) (hs : st.1.size ≤ 1000000) (h : RdX w p st.1 st.2) :
    Calls Tryd.prog 46 #[.pointer (some ⟨p, 0, none⟩), .int .u64 most] w fun x w' => x = .returned (.int .u64 ((stepNum most st).1 : Int)) ∧ RdX w' p (stepNum most st).2.1 (stepNum most st).2.2 ∧ w.grownBy w' (some p) := by
  refine (num19 p st.1 st.2 most w hs h).mono ?_
  rintro e w1 ⟨rfl, h1, h2⟩
  refine ⟨?_, h1, h2⟩
  unfold stepNum
  rw [← orZ_cast]
theorem rowP (p : Nat) (st : StR) (most : Int) (w : World) (hs : st.1.size ≤ 1000000) (hm : most ≤ 9223372036854775807) (h : RdX w p st.1 st.2) :
    Calls Tryd.prog 47 #[.pointer (some ⟨p, 0, none⟩), .int .i64 most] w fun x w' => x = .returned (.string (stepRow most st).1) ∧ RdX w' p (stepRow most st).2.1 (stepRow most st).2.2 ∧ w.grownBy w' (some p) :=
  row21 p st.1 st.2 most w hs hm h
/-- The fault behind all that was read. -/
def faultH (H : HeadT) (n : Nat) (r : ByteArray) (e : Int) : Int := if 0 < r.size ∨ mayH H n = false then orZ e 3 e else e
theorem faultH_yes {H : HeadT} {n : Nat} {r : ByteArray} {e : Int} (h : 0 < r.size ∨ mayH H n = false) : faultH H n r e = orZ e 3 e := if_pos h
theorem faultH_no {H : HeadT} {n : Nat} {r : ByteArray} {e : Int} (h : ¬ (0 < r.size ∨ mayH H n = false)) : faultH H n r e = e := if_neg h

theorem pcZ_size : (pcH zeroH).size = 6 := rfl
theorem load_pc {W : World} {b : Nat} {PC : Array Value} (hz : PC.size = 6) (hb : W.heap[b]? = some (.cells PC 51 (0, 0))) : (Instr.loadAt 51 (.pointer (some ⟨b, 0, none⟩))).run Tryd.prog W = .ok (.agg PC) W := by
  have hr := World.rangeAt_of_block hb 0 6
  have e : (PC.extract 0 (0 + 6)).toList = PC.toList := by rw [show 0 + 6 = PC.size by omega, Array.extract_size]
  rw [e] at hr
  have := load_at (P := Tryd.prog) W b 0 51 PC.toList _ hr Tryd.underlying51 rfl (by rw [info51]; simp [hz])
  simpa using this
def LoopN (w : World) (q p : Nat) (c0 c1 c2 c3 c4 : Array Value) (s0 s1 s2 s3 s4 : StR) (vi : Value) (W : World) : Prop :=
  (vi = .int .i64 0 ∧ PrS w q p c0 s0 W) ∨ (vi = .int .i64 1 ∧ PrS w q p c1 s1 W) ∨ (vi = .int .i64 2 ∧ PrS w q p c2 s2 W) ∨ (vi = .int .i64 3 ∧ PrS w q p c3 s3 W) ∨ (vi = .int .i64 4 ∧ PrS w q p c4 s4 W)
def LoopR (w : World) (q p : Nat) (c0 c1 c2 : Array Value) (s0 s1 s2 : StR) (vi : Value) (W : World) : Prop :=
  (vi = .int .i64 0 ∧ PrS w q p c0 s0 W) ∨ (vi = .int .i64 1 ∧ PrS w q p c1 s1 W) ∨ (vi = .int .i64 2 ∧ PrS w q p c2 s2 W)

set_option maxRecDepth 100000 in
set_option maxHeartbeats 8000000 in
theorem read24 (S : ByteArray) (n : Nat) (w : World) (hs : S.size ≤ 100000) (hn : n ≤ 32) (H : HeadT) (r : ByteArray) (er : Int) (hread : readH S n = (H, r, er)) :
    Calls Tryd.prog 24 #[.string S, .int .i64 (n : Int)] w fun e w' => e = .returned (.tuple #[.agg (pcH H), .int .i64 (faultH H n r er)]) ∧ Below w.heap.size w w' := by
  unfold readH at hread
  simp only at hread
  have z0 : ((S, (0 : Int)) : StR).1.size ≤ 100000 := hs
  have HN0 := Lib.hid (fun (p : Nat) (W : World) h => numP p (S, (0 : Int)) 1099511627776 W (by omega) h)
  have b0 := stepNum_le 1099511627776 (by decide) (S, (0 : Int))
  have y0 := stepNum_size 1099511627776 (S, (0 : Int))
  obtain ⟨⟨a0, t0⟩, hq0⟩ : ∃ z, stepNum 1099511627776 (S, (0 : Int)) = z := ⟨_, rfl⟩
  rw [hq0] at HN0 hread b0 y0
  simp only at hread b0 y0
  have z1 : t0.1.size ≤ 100000 := by omega
  have HN1 := Lib.hid (fun (p : Nat) (W : World) h => numP p t0 1099511627776 W (by omega) h)
  have b1 := stepNum_le 1099511627776 (by decide) t0
  have y1 := stepNum_size 1099511627776 t0
  obtain ⟨⟨a1, t1⟩, hq1⟩ : ∃ z, stepNum 1099511627776 t0 = z := ⟨_, rfl⟩
  rw [hq1] at HN1 hread b1 y1
  simp only at hread b1 y1
  have z2 : t1.1.size ≤ 100000 := by omega
  have HN2 := Lib.hid (fun (p : Nat) (W : World) h => numP p t1 64 W (by omega) h)
  have b2 := stepNum_le 64 (by decide) t1
  have y2 := stepNum_size 64 t1
  obtain ⟨⟨a2, t2⟩, hq2⟩ : ∃ z, stepNum 64 t1 = z := ⟨_, rfl⟩
  rw [hq2] at HN2 hread b2 y2
  simp only at hread b2 y2
  have z3 : t2.1.size ≤ 100000 := by omega
  have HN3 := Lib.hid (fun (p : Nat) (W : World) h => numP p t2 1099511627776 W (by omega) h)
  have b3 := stepNum_le 1099511627776 (by decide) t2
  have y3 := stepNum_size 1099511627776 t2
  obtain ⟨⟨a3, t3⟩, hq3⟩ : ∃ z, stepNum 1099511627776 t2 = z := ⟨_, rfl⟩
  rw [hq3] at HN3 hread b3 y3
  simp only at hread b3 y3
  have z4 : t3.1.size ≤ 100000 := by omega
  have HN4 := Lib.hid (fun (p : Nat) (W : World) h => rowP p t3 (n : Int) W (by omega) (by omega) h)
  have y4 := stepRow_size (n : Int) t3
  obtain ⟨⟨p4, t4⟩, hq4⟩ : ∃ z, stepRow (n : Int) t3 = z := ⟨_, rfl⟩
  rw [hq4] at HN4 hread y4
  simp only at hread y4
  have z5 : t4.1.size ≤ 100000 := by omega
  have HN5 := Lib.hid (fun (p : Nat) (W : World) h => rowP p t4 (n : Int) W (by omega) (by omega) h)
  have y5 := stepRow_size (n : Int) t4
  obtain ⟨⟨p5, t5⟩, hq5⟩ : ∃ z, stepRow (n : Int) t4 = z := ⟨_, rfl⟩
  rw [hq5] at HN5 hread y5
  simp only at hread y5
  have z6 : t5.1.size ≤ 100000 := by omega
  obtain ⟨rfl, rfl, rfl⟩ : (⟨a0, a1, a2, a3, p4, p5⟩ : HeadT) = H ∧ t5.1 = r ∧ t5.2 = er := by
    have h1 := congrArg Prod.fst hread; have h2 := congrArg Prod.snd hread
    exact ⟨h1, congrArg Prod.fst h2, congrArg Prod.snd h2⟩
  obtain ⟨r, er⟩ := t5
  dsimp only at *
  have HIN : Hid (HeadT.In ⟨a0, a1, a2, a3, p4, p5⟩) := Lib.hid ⟨⟨by dsimp only; omega, by dsimp only; omega⟩, ⟨by dsimp only; omega, by dsimp only; omega⟩, ⟨by dsimp only; omega, by dsimp only; omega⟩, ⟨by dsimp only; omega, by dsimp only; omega⟩⟩
  have hw0 : IntKind.i64.wrap (a0 : Int) = a0 := IntWalk.i64_in _ (by omega)
  have HJ0 := Lib.hid (fun W => idxN0 w.heap.size.succ W)
  have hw1 : IntKind.i64.wrap (a1 : Int) = a1 := IntWalk.i64_in _ (by omega)
  have HJ1 := Lib.hid (fun W => idxN1 w.heap.size.succ W)
  have hw2 : IntKind.i64.wrap (a2 : Int) = a2 := IntWalk.i64_in _ (by omega)
  have HJ2 := Lib.hid (fun W => idxN2 w.heap.size.succ W)
  have hw3 : IntKind.i64.wrap (a3 : Int) = a3 := IntWalk.i64_in _ (by omega)
  have HJ3 := Lib.hid (fun W => idxN3 w.heap.size.succ W)
  have HR0 := Lib.hid (fun W => idxR0 w.heap.size.succ W)
  have HR1 := Lib.hid (fun W => idxR1 w.heap.size.succ W)
  have HPC : Hid ((((((((pcH zeroH).setIfInBounds 0 (.int .i64 (a0 : Int))).setIfInBounds 1 (.int .i64 (a1 : Int))).setIfInBounds 3 (.int .i64 (a2 : Int))).setIfInBounds 4 (.int .i64 (a3 : Int))).setIfInBounds 2 (.string p4)).setIfInBounds 5 (.string p5)) = pcH ⟨a0, a1, a2, a3, p4, p5⟩) := Lib.hid rfl
  obtain ⟨H, hH⟩ : ∃ H : HeadT, (⟨a0, a1, a2, a3, p4, p5⟩ : HeadT) = H := ⟨_, rfl⟩
  rw [hH] at HPC HIN ⊢
  have HLF := Lib.hid (fun p W h => left23 p r er W h)
  have HM := Lib.hid (fun q W hb => mayHP H q n W hb HIN.out)
  have HFL := Lib.hid (fun p W h => fail30 p r er 3 W h)
  have HFT := Lib.hid (fun p e W h => fault22 p r e W h)
  have HFY := Lib.hid (@faultH_yes H n r er)
  have HFN := Lib.hid (@faultH_no H n r er)
  obtain ⟨RES, hRES⟩ : ∃ R, faultH H n r er = R := ⟨_, rfl⟩
  rw [hRES] at HFY HFN ⊢
  have i51 : Hid ((Tryd.prog.info? 51).map (·.size) = some (pcH H).size) := Lib.hid info51
  have o51 := Lib.hid (pcH_one H)
  have z51 := Lib.hid (pcH_size H)
  generalize pcH H = PC at *
  clear hRES HIN
  have HNB := Lib.hid (fun W => numbers39 w.heap.size.succ W)
  have HRW := Lib.hid (fun W => rows42 w.heap.size.succ W)
  have HRD := Lib.hid (fun W => read18 S W)
  clear hq0 hq1 hq2 hq3 hq4 hq5 hread hH b0 b1 b2 b3 y0 y1 y2 y3 y4 y5 z0 z1 z2 z3 z4 z5 z6
  have hsuc : w.heap.size.succ = w.heap.size + 1 := rfl
  rw [hsuc] at HNB HRW HJ0 HJ1 HJ2 HJ3 HR0 HR1
  obtain ⟨q, hq⟩ : ∃ q, w.heap.size + 1 = q := ⟨_, rfl⟩
  rw [hq] at HNB HRW HJ0 HJ1 HJ2 HJ3 HR0 HR1
  generalize numC q = NC at *
  generalize rowC q = RW at *
  clear hsuc
  have hq1 : w.heap.size < q := by omega
  have HB0 := Lib.hid (show (((w.alloc (.cells (pcH zeroH) 51)).alloc (.cells (pcH zeroH) 51)).heap[w.heap.size]? = some (.cells (pcH zeroH) 51 (0, 0)) ∧ ((w.alloc (.cells (pcH zeroH) 51)).alloc (.cells (pcH zeroH) 51)).heap[q]? = some (.cells (pcH zeroH) 51 (0, 0))) ∧ Below w.heap.size w ((w.alloc (.cells (pcH zeroH) 51)).alloc (.cells (pcH zeroH) 51)) ∧ ((w.alloc (.cells (pcH zeroH) 51)).alloc (.cells (pcH zeroH) 51)).heap.size = q + 1 from
    ⟨⟨(Below.heap_alloc _ _ _ (by simp)).trans (heap_alloc_new w _), by have h := heap_alloc_new (w.alloc (.cells (pcH zeroH) 51)) (.cells (pcH zeroH) 51); rw [World.size_alloc, hq] at h; exact h⟩, ((Below.refl _ w).alloc (Nat.le_refl _) _).alloc (by simp) _, by simp; omega⟩)
  dsimp only [pcH, pcells, zeroH] at HB0
  go_enter Tryd.func24, Tryd.ntmps24
  go_wp2_with (first
    | (go_at_call 45; refine (HRD.out _).mono ?_; rintro e w1 ⟨rfl, hx, hb⟩; rw [HB0.out.2.2] at hx; have HP1 := Lib.hid (show PrS w q (q + 1) (pcH zeroH) (S, 0) w1 from ⟨HB0.out.2.1.trans (hb.mono HB0.out.2.1.size), (hb.block _ (by have := HB0.out.2.2; omega)).trans HB0.out.1.1, (hb.block _ (by have := HB0.out.2.2; omega)).trans HB0.out.1.2, hx, hq1, by omega⟩); clear hx hb)
    | (go_at_call 39; refine (HNB.out _).mono ?_; rintro e w2 ⟨rfl, hb⟩; have HP2 := Lib.hid (HP1.out.below hb); clear hb))
  obtain ⟨p, hp⟩ : ∃ p, q + 1 = p := ⟨_, rfl⟩
  rw [hp] at HP2 ⊢
  have hqp : q < p := by omega
  clear HP1 HB0 HRD HNB hp hq
  go_loopw [15] (fun vi W => LoopN w q p (pcells 0 0 0 0 ⟨#[]⟩ ⟨#[]⟩) (pcells (a0 : Int) 0 0 0 ⟨#[]⟩ ⟨#[]⟩) (pcells (a0 : Int) (a1 : Int) 0 0 ⟨#[]⟩ ⟨#[]⟩) (pcells (a0 : Int) (a1 : Int) (a2 : Int) 0 ⟨#[]⟩ ⟨#[]⟩) (pcells (a0 : Int) (a1 : Int) (a2 : Int) (a3 : Int) ⟨#[]⟩ ⟨#[]⟩) (S, (0 : Int)) t0 t1 t2 t3 vi W) (fun vi _ => 4 - (intOf vi).toNat)
  case atStart => exact .inl ⟨rfl, HP2.out⟩
  case round =>
    clear HP2
    rcases hrel with ⟨rfl, hP⟩ | ⟨rfl, hP⟩ | ⟨rfl, hP⟩ | ⟨rfl, hP⟩ | ⟨rfl, hP⟩
    · have HP := Lib.hid hP
      have hJ := HJ0.out
      have HCN := Lib.hid (HN0.out p)
      clear hP HJ0 HJ1 HJ2 HJ3 HR0 HR1 HRW HN0 HN1 HN2 HN3 HN4 HN5 HPC HLF HM HFL HFT HFY HFN
      go_wp2
      have hpg := HP.out.rd.lt
      have HA := Lib.hid (HP.out.below ((Below.refl _ wr).alloc (Nat.le_refl _) (.cells #[.pointer (some ⟨q, 0, none⟩), .int .u64 0, .int .u64 1099511627776] 81)))
      have hbx := heap_alloc_new wr (.cells #[.pointer (some ⟨q, 0, none⟩), .int .u64 0, .int .u64 1099511627776] 81)
      obtain ⟨g, hg⟩ : ∃ g, wr.heap.size = g := ⟨_, rfl⟩
      obtain ⟨WA, hWA⟩ : ∃ W, wr.alloc (.cells #[.pointer (some ⟨q, 0, none⟩), .int .u64 0, .int .u64 1099511627776] 81) = W := ⟨_, rfl⟩
      rw [hWA] at HA hbx
      rw [hg] at hbx hpg
      rw [hWA, hg]
      clear hWA
      refine wp_region_held_drew (S := fun W => Below w.heap.size w W ∧ W.heap[g]? = some (.cells #[.pointer (some ⟨q, 0, none⟩), .int .u64 0, .int .u64 1099511627776] 81 (0, 0))) (by kernel_rfl) (⟨HA.out.lo.drew, hbx⟩) (fun hS => ?_)
      refine wpAnyH_take (i := 0) (v := .pointer (some ⟨g, 0, none⟩)) rfl (by kernel_rfl) (by kernel_rfl) (by kernel_rfl) (fun _ _ _ h => h) (Or.inl ⟨by simp [Region.wanted], fun W _ => by go_simp⟩) hS ?_
      simp only [List.getElem_toArray, List.getElem_cons_zero, Act.put, List.setIfInBounds_toArray, List.set_cons_zero, List.set_cons_succ]
      refine wpAnyH_take (i := 1) (v := .pointer (some ⟨q, 0, none⟩)) rfl (by kernel_rfl) (by kernel_rfl) (by kernel_rfl) (fun _ _ _ h => h) (Or.inl ⟨by simp [Region.wanted], fun W hW => by have hq := cellP hW.2 0 (.pointer (some ⟨q, 0, none⟩)) rfl; go_simp⟩) hS ?_
      simp only [List.getElem_toArray, List.getElem_cons_zero, List.getElem_cons_succ, Act.put, List.setIfInBounds_toArray, List.set_cons_zero, List.set_cons_succ]
      refine wpAnyH_take (i := 2) (v := .pointer (some ⟨p, 0, none⟩)) rfl (by kernel_rfl) (by kernel_rfl) (by kernel_rfl) (fun _ _ _ h => h) (Or.inl ⟨by simp [Region.wanted], fun W _ => by go_simp⟩) hS ?_
      simp only [List.getElem_toArray, List.getElem_cons_zero, List.getElem_cons_succ, Act.put, List.setIfInBounds_toArray, List.set_cons_zero, List.set_cons_succ]
      refine wpAnyH_take (i := 3) (v := .pointer (some ⟨g, 2, none⟩)) rfl (by kernel_rfl) (by kernel_rfl) (by kernel_rfl) (fun _ _ _ h => h) (Or.inl ⟨by simp [Region.wanted], fun W _ => by go_simp⟩) hS ?_
      simp only [List.getElem_toArray, List.getElem_cons_zero, List.getElem_cons_succ, Act.put, List.setIfInBounds_toArray, List.set_cons_zero, List.set_cons_succ]
      refine wpAnyH_take (i := 4) (v := .int .u64 1099511627776) rfl (by kernel_rfl) (by kernel_rfl) (by kernel_rfl) (fun _ _ _ h => h) (Or.inl ⟨by simp [Region.wanted], fun W hW => by have hq := cellP hW.2 2 (.int .u64 1099511627776) rfl; go_simp⟩) hS ?_
      simp only [List.getElem_toArray, List.getElem_cons_zero, List.getElem_cons_succ, Act.put, List.setIfInBounds_toArray, List.set_cons_zero, List.set_cons_succ]
      refine wpAnyH_ready (rs := [5]) (by kernel_rfl) (by simp) ?_
      refine AllReadyH.cons rfl (fun K1 hK1 => ?_) AllReadyH.nil
      refine wanted_go rfl ?_
      simp only [List.getElem_toArray, List.getElem_cons_zero, List.getElem_cons_succ]
      have HD := Lib.hid HA.out.drew
      go_wp2_with (go_at_call 46; refine (HCN.out _ HD.out.rd).mono ?_; rintro e w5 ⟨rfl, hx, hg5⟩; have HX5 := Lib.hid (HD.out.step (st' := t0) hx hg5); have hb5 := (hg5.block g (lt_of_blk hS.2) (by simp; omega)).trans hS.2; have HB5 := Lib.hid hb5; clear hx hg5 hb5)
      refine hK1.out _ _ (⟨HX5.out.lo, HB5.out⟩) (fun hS1 => ?_)
      refine wpAnyH_take (i := 6) (v := .int .i64 (a0 : Int)) rfl (by kernel_rfl) (by kernel_rfl) (by kernel_rfl) (fun _ _ _ h => h) (Or.inl ⟨by simp [Region.wanted], fun W _ => by go_simp⟩) hS1 ?_
      simp only [List.getElem_toArray, List.getElem_cons_zero, List.getElem_cons_succ, Act.put, List.setIfInBounds_toArray, List.set_cons_zero, List.set_cons_succ]
      refine wpAnyH_take (i := 7) (v := .pointer (some ⟨q, 0, none⟩)) rfl (by kernel_rfl) (by kernel_rfl) (by kernel_rfl) (fun _ _ _ h => h) (Or.inl ⟨by simp [Region.wanted], fun W _ => by go_simp⟩) hS1 ?_
      simp only [List.getElem_toArray, List.getElem_cons_zero, List.getElem_cons_succ, Act.put, List.setIfInBounds_toArray, List.set_cons_zero, List.set_cons_succ]
      refine wpAnyH_ready (rs := [8]) (by kernel_rfl) (by simp) ?_
      refine AllReadyH.cons rfl (fun K2 hK2 => ?_) AllReadyH.nil
      refine wanted_go rfl ?_
      simp only [List.getElem_toArray, List.getElem_cons_zero, List.getElem_cons_succ]
      have hc5 := HX5.out.cell 0 (.int .i64 0) rfl
      have hf5 := HX5.out.free 0
      have HX6 := Lib.hid (show PrS w q p (pcells (a0 : Int) 0 0 0 ⟨#[]⟩ ⟨#[]⟩) t0 (w5.setCell ⟨q, 0, none⟩ (.int .i64 (a0 : Int))) from HX5.out.set 0 _)
      go_wp2
      refine hK2.out _ _ (⟨HX6.out.lo, (heap_setCell_ne _ (by omega)).trans HB5.out⟩) (fun hS2 => ?_)
      refine wpAnyH_done (by kernel_rfl) ?_ _
      go_wp2
      go_roundw
      case rel => exact .inr (.inl ⟨by go_num, HX6.out⟩)
      case measure => first | (simp [intOf]; done) | (simp [intOf]; omega) | (simp [intOf, IntKind.wrap_i64]; done) | (simp [intOf]; decide)
    · have HP := Lib.hid hP
      have hJ := HJ1.out
      have HCN := Lib.hid (HN1.out p)
      clear hP HJ0 HJ1 HJ2 HJ3 HR0 HR1 HRW HN0 HN1 HN2 HN3 HN4 HN5 HPC HLF HM HFL HFT HFY HFN
      go_wp2
      have hpg := HP.out.rd.lt
      have HA := Lib.hid (HP.out.below ((Below.refl _ wr).alloc (Nat.le_refl _) (.cells #[.pointer (some ⟨q, 1, none⟩), .int .u64 0, .int .u64 1099511627776] 81)))
      have hbx := heap_alloc_new wr (.cells #[.pointer (some ⟨q, 1, none⟩), .int .u64 0, .int .u64 1099511627776] 81)
      obtain ⟨g, hg⟩ : ∃ g, wr.heap.size = g := ⟨_, rfl⟩
      obtain ⟨WA, hWA⟩ : ∃ W, wr.alloc (.cells #[.pointer (some ⟨q, 1, none⟩), .int .u64 0, .int .u64 1099511627776] 81) = W := ⟨_, rfl⟩
      rw [hWA] at HA hbx
      rw [hg] at hbx hpg
      rw [hWA, hg]
      clear hWA
      refine wp_region_held_drew (S := fun W => Below w.heap.size w W ∧ W.heap[g]? = some (.cells #[.pointer (some ⟨q, 1, none⟩), .int .u64 0, .int .u64 1099511627776] 81 (0, 0))) (by kernel_rfl) (⟨HA.out.lo.drew, hbx⟩) (fun hS => ?_)
      refine wpAnyH_take (i := 0) (v := .pointer (some ⟨g, 0, none⟩)) rfl (by kernel_rfl) (by kernel_rfl) (by kernel_rfl) (fun _ _ _ h => h) (Or.inl ⟨by simp [Region.wanted], fun W _ => by go_simp⟩) hS ?_
      simp only [List.getElem_toArray, List.getElem_cons_zero, Act.put, List.setIfInBounds_toArray, List.set_cons_zero, List.set_cons_succ]
      refine wpAnyH_take (i := 1) (v := .pointer (some ⟨q, 1, none⟩)) rfl (by kernel_rfl) (by kernel_rfl) (by kernel_rfl) (fun _ _ _ h => h) (Or.inl ⟨by simp [Region.wanted], fun W hW => by have hq := cellP hW.2 0 (.pointer (some ⟨q, 1, none⟩)) rfl; go_simp⟩) hS ?_
      simp only [List.getElem_toArray, List.getElem_cons_zero, List.getElem_cons_succ, Act.put, List.setIfInBounds_toArray, List.set_cons_zero, List.set_cons_succ]
      refine wpAnyH_take (i := 2) (v := .pointer (some ⟨p, 0, none⟩)) rfl (by kernel_rfl) (by kernel_rfl) (by kernel_rfl) (fun _ _ _ h => h) (Or.inl ⟨by simp [Region.wanted], fun W _ => by go_simp⟩) hS ?_
      simp only [List.getElem_toArray, List.getElem_cons_zero, List.getElem_cons_succ, Act.put, List.setIfInBounds_toArray, List.set_cons_zero, List.set_cons_succ]
      refine wpAnyH_take (i := 3) (v := .pointer (some ⟨g, 2, none⟩)) rfl (by kernel_rfl) (by kernel_rfl) (by kernel_rfl) (fun _ _ _ h => h) (Or.inl ⟨by simp [Region.wanted], fun W _ => by go_simp⟩) hS ?_
      simp only [List.getElem_toArray, List.getElem_cons_zero, List.getElem_cons_succ, Act.put, List.setIfInBounds_toArray, List.set_cons_zero, List.set_cons_succ]
      refine wpAnyH_take (i := 4) (v := .int .u64 1099511627776) rfl (by kernel_rfl) (by kernel_rfl) (by kernel_rfl) (fun _ _ _ h => h) (Or.inl ⟨by simp [Region.wanted], fun W hW => by have hq := cellP hW.2 2 (.int .u64 1099511627776) rfl; go_simp⟩) hS ?_
      simp only [List.getElem_toArray, List.getElem_cons_zero, List.getElem_cons_succ, Act.put, List.setIfInBounds_toArray, List.set_cons_zero, List.set_cons_succ]
      refine wpAnyH_ready (rs := [5]) (by kernel_rfl) (by simp) ?_
      refine AllReadyH.cons rfl (fun K1 hK1 => ?_) AllReadyH.nil
      refine wanted_go rfl ?_
      simp only [List.getElem_toArray, List.getElem_cons_zero, List.getElem_cons_succ]
      have HD := Lib.hid HA.out.drew
      go_wp2_with (go_at_call 46; refine (HCN.out _ HD.out.rd).mono ?_; rintro e w5 ⟨rfl, hx, hg5⟩; have HX5 := Lib.hid (HD.out.step (st' := t1) hx hg5); have hb5 := (hg5.block g (lt_of_blk hS.2) (by simp; omega)).trans hS.2; have HB5 := Lib.hid hb5; clear hx hg5 hb5)
      refine hK1.out _ _ (⟨HX5.out.lo, HB5.out⟩) (fun hS1 => ?_)
      refine wpAnyH_take (i := 6) (v := .int .i64 (a1 : Int)) rfl (by kernel_rfl) (by kernel_rfl) (by kernel_rfl) (fun _ _ _ h => h) (Or.inl ⟨by simp [Region.wanted], fun W _ => by go_simp⟩) hS1 ?_
      simp only [List.getElem_toArray, List.getElem_cons_zero, List.getElem_cons_succ, Act.put, List.setIfInBounds_toArray, List.set_cons_zero, List.set_cons_succ]
      refine wpAnyH_take (i := 7) (v := .pointer (some ⟨q, 1, none⟩)) rfl (by kernel_rfl) (by kernel_rfl) (by kernel_rfl) (fun _ _ _ h => h) (Or.inl ⟨by simp [Region.wanted], fun W _ => by go_simp⟩) hS1 ?_
      simp only [List.getElem_toArray, List.getElem_cons_zero, List.getElem_cons_succ, Act.put, List.setIfInBounds_toArray, List.set_cons_zero, List.set_cons_succ]
      refine wpAnyH_ready (rs := [8]) (by kernel_rfl) (by simp) ?_
      refine AllReadyH.cons rfl (fun K2 hK2 => ?_) AllReadyH.nil
      refine wanted_go rfl ?_
      simp only [List.getElem_toArray, List.getElem_cons_zero, List.getElem_cons_succ]
      have hc5 := HX5.out.cell 1 (.int .i64 0) rfl
      have hf5 := HX5.out.free 1
      have HX6 := Lib.hid (show PrS w q p (pcells (a0 : Int) (a1 : Int) 0 0 ⟨#[]⟩ ⟨#[]⟩) t1 (w5.setCell ⟨q, 1, none⟩ (.int .i64 (a1 : Int))) from HX5.out.set 1 _)
      go_wp2
      refine hK2.out _ _ (⟨HX6.out.lo, (heap_setCell_ne _ (by omega)).trans HB5.out⟩) (fun hS2 => ?_)
      refine wpAnyH_done (by kernel_rfl) ?_ _
      go_wp2
      go_roundw
      case rel => exact .inr (.inr (.inl ⟨by go_num, HX6.out⟩))
      case measure => first | (simp [intOf]; done) | (simp [intOf]; omega) | (simp [intOf, IntKind.wrap_i64]; done) | (simp [intOf]; decide)
    · have HP := Lib.hid hP
      have hJ := HJ2.out
      have HCN := Lib.hid (HN2.out p)
      clear hP HJ0 HJ1 HJ2 HJ3 HR0 HR1 HRW HN0 HN1 HN2 HN3 HN4 HN5 HPC HLF HM HFL HFT HFY HFN
      go_wp2
      have hpg := HP.out.rd.lt
      have HA := Lib.hid (HP.out.below ((Below.refl _ wr).alloc (Nat.le_refl _) (.cells #[.pointer (some ⟨q, 3, none⟩), .int .u64 1, .int .u64 64] 81)))
      have hbx := heap_alloc_new wr (.cells #[.pointer (some ⟨q, 3, none⟩), .int .u64 1, .int .u64 64] 81)
      obtain ⟨g, hg⟩ : ∃ g, wr.heap.size = g := ⟨_, rfl⟩
      obtain ⟨WA, hWA⟩ : ∃ W, wr.alloc (.cells #[.pointer (some ⟨q, 3, none⟩), .int .u64 1, .int .u64 64] 81) = W := ⟨_, rfl⟩
      rw [hWA] at HA hbx
      rw [hg] at hbx hpg
      rw [hWA, hg]
      clear hWA
      refine wp_region_held_drew (S := fun W => Below w.heap.size w W ∧ W.heap[g]? = some (.cells #[.pointer (some ⟨q, 3, none⟩), .int .u64 1, .int .u64 64] 81 (0, 0))) (by kernel_rfl) (⟨HA.out.lo.drew, hbx⟩) (fun hS => ?_)
      refine wpAnyH_take (i := 0) (v := .pointer (some ⟨g, 0, none⟩)) rfl (by kernel_rfl) (by kernel_rfl) (by kernel_rfl) (fun _ _ _ h => h) (Or.inl ⟨by simp [Region.wanted], fun W _ => by go_simp⟩) hS ?_
      simp only [List.getElem_toArray, List.getElem_cons_zero, Act.put, List.setIfInBounds_toArray, List.set_cons_zero, List.set_cons_succ]
      refine wpAnyH_take (i := 1) (v := .pointer (some ⟨q, 3, none⟩)) rfl (by kernel_rfl) (by kernel_rfl) (by kernel_rfl) (fun _ _ _ h => h) (Or.inl ⟨by simp [Region.wanted], fun W hW => by have hq := cellP hW.2 0 (.pointer (some ⟨q, 3, none⟩)) rfl; go_simp⟩) hS ?_
      simp only [List.getElem_toArray, List.getElem_cons_zero, List.getElem_cons_succ, Act.put, List.setIfInBounds_toArray, List.set_cons_zero, List.set_cons_succ]
      refine wpAnyH_take (i := 2) (v := .pointer (some ⟨p, 0, none⟩)) rfl (by kernel_rfl) (by kernel_rfl) (by kernel_rfl) (fun _ _ _ h => h) (Or.inl ⟨by simp [Region.wanted], fun W _ => by go_simp⟩) hS ?_
      simp only [List.getElem_toArray, List.getElem_cons_zero, List.getElem_cons_succ, Act.put, List.setIfInBounds_toArray, List.set_cons_zero, List.set_cons_succ]
      refine wpAnyH_take (i := 3) (v := .pointer (some ⟨g, 2, none⟩)) rfl (by kernel_rfl) (by kernel_rfl) (by kernel_rfl) (fun _ _ _ h => h) (Or.inl ⟨by simp [Region.wanted], fun W _ => by go_simp⟩) hS ?_
      simp only [List.getElem_toArray, List.getElem_cons_zero, List.getElem_cons_succ, Act.put, List.setIfInBounds_toArray, List.set_cons_zero, List.set_cons_succ]
      refine wpAnyH_take (i := 4) (v := .int .u64 64) rfl (by kernel_rfl) (by kernel_rfl) (by kernel_rfl) (fun _ _ _ h => h) (Or.inl ⟨by simp [Region.wanted], fun W hW => by have hq := cellP hW.2 2 (.int .u64 64) rfl; go_simp⟩) hS ?_
      simp only [List.getElem_toArray, List.getElem_cons_zero, List.getElem_cons_succ, Act.put, List.setIfInBounds_toArray, List.set_cons_zero, List.set_cons_succ]
      refine wpAnyH_ready (rs := [5]) (by kernel_rfl) (by simp) ?_
      refine AllReadyH.cons rfl (fun K1 hK1 => ?_) AllReadyH.nil
      refine wanted_go rfl ?_
      simp only [List.getElem_toArray, List.getElem_cons_zero, List.getElem_cons_succ]
      have HD := Lib.hid HA.out.drew
      go_wp2_with (go_at_call 46; refine (HCN.out _ HD.out.rd).mono ?_; rintro e w5 ⟨rfl, hx, hg5⟩; have HX5 := Lib.hid (HD.out.step (st' := t2) hx hg5); have hb5 := (hg5.block g (lt_of_blk hS.2) (by simp; omega)).trans hS.2; have HB5 := Lib.hid hb5; clear hx hg5 hb5)
      refine hK1.out _ _ (⟨HX5.out.lo, HB5.out⟩) (fun hS1 => ?_)
      refine wpAnyH_take (i := 6) (v := .int .i64 (a2 : Int)) rfl (by kernel_rfl) (by kernel_rfl) (by kernel_rfl) (fun _ _ _ h => h) (Or.inl ⟨by simp [Region.wanted], fun W _ => by go_simp⟩) hS1 ?_
      simp only [List.getElem_toArray, List.getElem_cons_zero, List.getElem_cons_succ, Act.put, List.setIfInBounds_toArray, List.set_cons_zero, List.set_cons_succ]
      refine wpAnyH_take (i := 7) (v := .pointer (some ⟨q, 3, none⟩)) rfl (by kernel_rfl) (by kernel_rfl) (by kernel_rfl) (fun _ _ _ h => h) (Or.inl ⟨by simp [Region.wanted], fun W _ => by go_simp⟩) hS1 ?_
      simp only [List.getElem_toArray, List.getElem_cons_zero, List.getElem_cons_succ, Act.put, List.setIfInBounds_toArray, List.set_cons_zero, List.set_cons_succ]
      refine wpAnyH_ready (rs := [8]) (by kernel_rfl) (by simp) ?_
      refine AllReadyH.cons rfl (fun K2 hK2 => ?_) AllReadyH.nil
      refine wanted_go rfl ?_
      simp only [List.getElem_toArray, List.getElem_cons_zero, List.getElem_cons_succ]
      have hc5 := HX5.out.cell 3 (.int .i64 0) rfl
      have hf5 := HX5.out.free 3
      have HX6 := Lib.hid (show PrS w q p (pcells (a0 : Int) (a1 : Int) (a2 : Int) 0 ⟨#[]⟩ ⟨#[]⟩) t2 (w5.setCell ⟨q, 3, none⟩ (.int .i64 (a2 : Int))) from HX5.out.set 3 _)
      go_wp2
      refine hK2.out _ _ (⟨HX6.out.lo, (heap_setCell_ne _ (by omega)).trans HB5.out⟩) (fun hS2 => ?_)
      refine wpAnyH_done (by kernel_rfl) ?_ _
      go_wp2
      go_roundw
      case rel => exact .inr (.inr (.inr (.inl ⟨by go_num, HX6.out⟩)))
      case measure => first | (simp [intOf]; done) | (simp [intOf]; omega) | (simp [intOf, IntKind.wrap_i64]; done) | (simp [intOf]; decide)
    · have HP := Lib.hid hP
      have hJ := HJ3.out
      have HCN := Lib.hid (HN3.out p)
      clear hP HJ0 HJ1 HJ2 HJ3 HR0 HR1 HRW HN0 HN1 HN2 HN3 HN4 HN5 HPC HLF HM HFL HFT HFY HFN
      go_wp2
      have hpg := HP.out.rd.lt
      have HA := Lib.hid (HP.out.below ((Below.refl _ wr).alloc (Nat.le_refl _) (.cells #[.pointer (some ⟨q, 4, none⟩), .int .u64 0, .int .u64 1099511627776] 81)))
      have hbx := heap_alloc_new wr (.cells #[.pointer (some ⟨q, 4, none⟩), .int .u64 0, .int .u64 1099511627776] 81)
      obtain ⟨g, hg⟩ : ∃ g, wr.heap.size = g := ⟨_, rfl⟩
      obtain ⟨WA, hWA⟩ : ∃ W, wr.alloc (.cells #[.pointer (some ⟨q, 4, none⟩), .int .u64 0, .int .u64 1099511627776] 81) = W := ⟨_, rfl⟩
      rw [hWA] at HA hbx
      rw [hg] at hbx hpg
      rw [hWA, hg]
      clear hWA
      refine wp_region_held_drew (S := fun W => Below w.heap.size w W ∧ W.heap[g]? = some (.cells #[.pointer (some ⟨q, 4, none⟩), .int .u64 0, .int .u64 1099511627776] 81 (0, 0))) (by kernel_rfl) (⟨HA.out.lo.drew, hbx⟩) (fun hS => ?_)
      refine wpAnyH_take (i := 0) (v := .pointer (some ⟨g, 0, none⟩)) rfl (by kernel_rfl) (by kernel_rfl) (by kernel_rfl) (fun _ _ _ h => h) (Or.inl ⟨by simp [Region.wanted], fun W _ => by go_simp⟩) hS ?_
      simp only [List.getElem_toArray, List.getElem_cons_zero, Act.put, List.setIfInBounds_toArray, List.set_cons_zero, List.set_cons_succ]
      refine wpAnyH_take (i := 1) (v := .pointer (some ⟨q, 4, none⟩)) rfl (by kernel_rfl) (by kernel_rfl) (by kernel_rfl) (fun _ _ _ h => h) (Or.inl ⟨by simp [Region.wanted], fun W hW => by have hq := cellP hW.2 0 (.pointer (some ⟨q, 4, none⟩)) rfl; go_simp⟩) hS ?_
      simp only [List.getElem_toArray, List.getElem_cons_zero, List.getElem_cons_succ, Act.put, List.setIfInBounds_toArray, List.set_cons_zero, List.set_cons_succ]
      refine wpAnyH_take (i := 2) (v := .pointer (some ⟨p, 0, none⟩)) rfl (by kernel_rfl) (by kernel_rfl) (by kernel_rfl) (fun _ _ _ h => h) (Or.inl ⟨by simp [Region.wanted], fun W _ => by go_simp⟩) hS ?_
      simp only [List.getElem_toArray, List.getElem_cons_zero, List.getElem_cons_succ, Act.put, List.setIfInBounds_toArray, List.set_cons_zero, List.set_cons_succ]
      refine wpAnyH_take (i := 3) (v := .pointer (some ⟨g, 2, none⟩)) rfl (by kernel_rfl) (by kernel_rfl) (by kernel_rfl) (fun _ _ _ h => h) (Or.inl ⟨by simp [Region.wanted], fun W _ => by go_simp⟩) hS ?_
      simp only [List.getElem_toArray, List.getElem_cons_zero, List.getElem_cons_succ, Act.put, List.setIfInBounds_toArray, List.set_cons_zero, List.set_cons_succ]
      refine wpAnyH_take (i := 4) (v := .int .u64 1099511627776) rfl (by kernel_rfl) (by kernel_rfl) (by kernel_rfl) (fun _ _ _ h => h) (Or.inl ⟨by simp [Region.wanted], fun W hW => by have hq := cellP hW.2 2 (.int .u64 1099511627776) rfl; go_simp⟩) hS ?_
      simp only [List.getElem_toArray, List.getElem_cons_zero, List.getElem_cons_succ, Act.put, List.setIfInBounds_toArray, List.set_cons_zero, List.set_cons_succ]
      refine wpAnyH_ready (rs := [5]) (by kernel_rfl) (by simp) ?_
      refine AllReadyH.cons rfl (fun K1 hK1 => ?_) AllReadyH.nil
      refine wanted_go rfl ?_
      simp only [List.getElem_toArray, List.getElem_cons_zero, List.getElem_cons_succ]
      have HD := Lib.hid HA.out.drew
      go_wp2_with (go_at_call 46; refine (HCN.out _ HD.out.rd).mono ?_; rintro e w5 ⟨rfl, hx, hg5⟩; have HX5 := Lib.hid (HD.out.step (st' := t3) hx hg5); have hb5 := (hg5.block g (lt_of_blk hS.2) (by simp; omega)).trans hS.2; have HB5 := Lib.hid hb5; clear hx hg5 hb5)
      refine hK1.out _ _ (⟨HX5.out.lo, HB5.out⟩) (fun hS1 => ?_)
      refine wpAnyH_take (i := 6) (v := .int .i64 (a3 : Int)) rfl (by kernel_rfl) (by kernel_rfl) (by kernel_rfl) (fun _ _ _ h => h) (Or.inl ⟨by simp [Region.wanted], fun W _ => by go_simp⟩) hS1 ?_
      simp only [List.getElem_toArray, List.getElem_cons_zero, List.getElem_cons_succ, Act.put, List.setIfInBounds_toArray, List.set_cons_zero, List.set_cons_succ]
      refine wpAnyH_take (i := 7) (v := .pointer (some ⟨q, 4, none⟩)) rfl (by kernel_rfl) (by kernel_rfl) (by kernel_rfl) (fun _ _ _ h => h) (Or.inl ⟨by simp [Region.wanted], fun W _ => by go_simp⟩) hS1 ?_
      simp only [List.getElem_toArray, List.getElem_cons_zero, List.getElem_cons_succ, Act.put, List.setIfInBounds_toArray, List.set_cons_zero, List.set_cons_succ]
      refine wpAnyH_ready (rs := [8]) (by kernel_rfl) (by simp) ?_
      refine AllReadyH.cons rfl (fun K2 hK2 => ?_) AllReadyH.nil
      refine wanted_go rfl ?_
      simp only [List.getElem_toArray, List.getElem_cons_zero, List.getElem_cons_succ]
      have hc5 := HX5.out.cell 4 (.int .i64 0) rfl
      have hf5 := HX5.out.free 4
      have HX6 := Lib.hid (show PrS w q p (pcells (a0 : Int) (a1 : Int) (a2 : Int) (a3 : Int) ⟨#[]⟩ ⟨#[]⟩) t3 (w5.setCell ⟨q, 4, none⟩ (.int .i64 (a3 : Int))) from HX5.out.set 4 _)
      go_wp2
      refine hK2.out _ _ (⟨HX6.out.lo, (heap_setCell_ne _ (by omega)).trans HB5.out⟩) (fun hS2 => ?_)
      refine wpAnyH_done (by kernel_rfl) ?_ _
      go_wp2
      go_roundw
      case rel => exact .inr (.inr (.inr (.inr ⟨by go_num, HX6.out⟩)))
      case measure => first | (simp [intOf]; done) | (simp [intOf]; omega) | (simp [intOf, IntKind.wrap_i64]; done) | (simp [intOf]; decide)
    · have HP := Lib.hid hP
      clear hP HJ0 HJ1 HJ2 HJ3 HN0 HN1 HN2 HN3 hw0 hw1 hw2 hw3
      go_wp2_with (go_at_call 42; refine (HRW.out _).mono ?_; rintro e w3 ⟨rfl, hb⟩; have HP3 := Lib.hid (HP.out.below hb); clear hb)
      go_loopw [28] (fun vi W => LoopR w q p (pcells (a0 : Int) (a1 : Int) (a2 : Int) (a3 : Int) ⟨#[]⟩ ⟨#[]⟩) (pcells (a0 : Int) (a1 : Int) (a2 : Int) (a3 : Int) p4 ⟨#[]⟩) (pcells (a0 : Int) (a1 : Int) (a2 : Int) (a3 : Int) p4 p5) t3 t4 (r, er) vi W) (fun vi _ => 2 - (intOf vi).toNat)
      case atStart => exact .inl ⟨rfl, HP3.out⟩
      case round =>
        clear HP3 HP HRW
        rcases hrel with ⟨rfl, hP⟩ | ⟨rfl, hP⟩ | ⟨rfl, hP⟩
        · have HP := Lib.hid hP
          have hJ := HR0.out
          have HCN := Lib.hid (HN4.out p)
          clear hP HR0 HR1 HN4 HN5 HPC HLF HM HFL HFT HFY HFN
          go_wp2_with (go_at_call 47; refine (HCN.out _ HP.out.rd).mono ?_; rintro e w5 ⟨rfl, hx, hg5⟩; have HX5 := Lib.hid (HP.out.step (st' := t4) hx hg5); have hc5 := HX5.out.cell 2 (.string ⟨#[]⟩) rfl; have hf5 := HX5.out.free 2; have HX6 := Lib.hid (show PrS w q p (pcells (a0 : Int) (a1 : Int) (a2 : Int) (a3 : Int) p4 ⟨#[]⟩) t4 (w5.setCell ⟨q, 2, none⟩ (.string p4)) from HX5.out.set 2 _); clear hx hg5)
          go_roundw
          case rel => exact .inr (.inl ⟨by go_num, HX6.out⟩)
          case measure => first | (simp [intOf]; done) | (simp [intOf]; omega) | (simp [intOf, IntKind.wrap_i64]; done) | (simp [intOf]; decide)
        · have HP := Lib.hid hP
          have hJ := HR1.out
          have HCN := Lib.hid (HN5.out p)
          clear hP HR0 HR1 HN4 HN5 HPC HLF HM HFL HFT HFY HFN
          go_wp2_with (go_at_call 47; refine (HCN.out _ HP.out.rd).mono ?_; rintro e w5 ⟨rfl, hx, hg5⟩; have HX5 := Lib.hid (HP.out.step (st' := (r, er)) hx hg5); have hc5 := HX5.out.cell 5 (.string ⟨#[]⟩) rfl; have hf5 := HX5.out.free 5; have HX6 := Lib.hid (show PrS w q p (pcells (a0 : Int) (a1 : Int) (a2 : Int) (a3 : Int) p4 p5) (r, er) (w5.setCell ⟨q, 5, none⟩ (.string p5)) from HX5.out.set 5 _); clear hx hg5)
          go_roundw
          case rel => exact .inr (.inr ⟨by go_num, HX6.out⟩)
          case measure => first | (simp [intOf]; done) | (simp [intOf]; omega) | (simp [intOf, IntKind.wrap_i64]; done) | (simp [intOf]; decide)
        · have hP2 : PrS w q p PC (r, er) wr := by rw [← HPC.out]; exact hP
          have HP := Lib.hid hP2
          clear hP hP2 HR0 HR1 HN4 HN5 HPC
          obtain ⟨mb, hmb⟩ : ∃ z, mayH H n = z := ⟨_, rfl⟩
          rw [hmb] at HM HFY HFN
          have HL := Lib.hid (HLF.out p wr HP.out.rd)
          have HMW := Lib.hid (HM.out q wr HP.out.hd)
          clear hmb HLF HM
          by_cases hr0 : 0 < r.size
          · have hR := HFY.out (.inl hr0)
            subst hR
            clear HFY HFN HMW
            obtain ⟨E, hE⟩ : ∃ E, orZ er 3 er = E := ⟨_, rfl⟩
            rw [hE] at HFL
            go_wp2_with (first
              | (go_at_call 48; refine HL.out.mono ?_; rintro e w9 ⟨rfl, rfl⟩)
              | (go_at_call 49; refine (HFL.out p _ HP.out.rd).mono ?_; rintro e wf ⟨rfl, hx, hg⟩; have HPF := Lib.hid (HP.out.step (st' := (r, E)) hx hg); clear hx hg))
            refine wp_region_held_drew (S := fun W => Below w.heap.size w W ∧ W.heap[q]? = some (.cells PC 51 (0, 0)) ∧ RdX W p r E) (by kernel_rfl) (⟨HPF.out.lo.drew, HPF.out.hd, HPF.out.rd⟩) (fun hS => ?_)
            refine wpAnyH_take (i := 0) (v := .agg PC) rfl (by kernel_rfl) (by kernel_rfl) (by kernel_rfl) (fun _ _ _ h => h) (yieldsIf_load rfl 51 (.tmp 6) rfl _ _ rfl (fun W hW => load_pc z51.out hW.2.1)) hS ?_
            simp only [List.getElem_toArray, List.getElem_cons_zero, Act.put, List.setIfInBounds_toArray, List.set_cons_zero, List.set_cons_succ]
            refine wpAnyH_take (i := 1) (v := .pointer (some ⟨p, 0, none⟩)) rfl (by kernel_rfl) (by kernel_rfl) (by kernel_rfl) (fun _ _ _ h => h) (Or.inl ⟨by simp [Region.wanted], fun W _ => by go_simp⟩) hS ?_
            simp only [List.getElem_toArray, List.getElem_cons_zero, List.getElem_cons_succ, Act.put, List.setIfInBounds_toArray, List.set_cons_zero, List.set_cons_succ]
            refine wpAnyH_ready (rs := [2]) (by kernel_rfl) (by simp) ?_
            refine AllReadyH.cons rfl (fun K1 hK1 => ?_) AllReadyH.nil
            refine wanted_go rfl ?_
            simp only [List.getElem_toArray, List.getElem_cons_zero, List.getElem_cons_succ]
            go_wp2_with (go_at_call 50; refine (HFT.out p E _ hS.2.2).mono ?_; rintro e w11 ⟨rfl, rfl⟩)
            refine hK1.out _ _ (hS) (fun hS1 => ?_)
            refine wpAnyH_ready (rs := [3]) (by kernel_rfl) (by simp) ?_
            refine AllReadyH.cons rfl (fun K2 hK2 => ?_) AllReadyH.nil
            refine wanted_go rfl ?_
            simp only [List.getElem_toArray, List.getElem_cons_zero, List.getElem_cons_succ]
            refine wp_store_row 51 (.tmp 4) (.tmp 47) rfl w.heap.size PC rfl rfl 51 _ (HPF.out.drew.res) i51.out (by rw [z51.out]; rfl) o51.out ?_
            refine hK2.out _ _ (⟨below_row1 hS1.1 (Nat.le_refl _), (setRow_ne _ (by omega)).trans hS1.2.1, (setRow_ne _ (by omega)).trans hS1.2.2⟩) (fun hS2 => ?_)
            refine wpAnyH_take (i := 4) (v := .int .i64 E) rfl (by kernel_rfl) (by kernel_rfl) (by kernel_rfl) (fun _ _ _ h => h) (Or.inl ⟨by simp [Region.wanted], fun W _ => by go_simp⟩) hS2 ?_
            simp only [List.getElem_toArray, List.getElem_cons_zero, List.getElem_cons_succ, Act.put, List.setIfInBounds_toArray, List.set_cons_zero, List.set_cons_succ]
            refine wpAnyH_done (by kernel_rfl) ?_ _
            go_wp2
            refine ret_cell_tmp rfl rfl rfl rfl (setRow_heap _ _ _ _ _ _ (HPF.out.drew.res)) Tryd.underlying51 rfl i51.out ?_
            exact ⟨by rw [hE]; try rfl, hS2.1⟩
          · cases mb with
            | false =>
              have hR := HFY.out (.inr rfl)
              subst hR
              clear HFY HFN
              obtain ⟨E, hE⟩ : ∃ E, orZ er 3 er = E := ⟨_, rfl⟩
              rw [hE] at HFL
              go_wp2_with (first
                | (go_at_call 48; refine HL.out.mono ?_; rintro e w9 ⟨rfl, rfl⟩)
                | (go_at_call 26; refine HMW.out.mono ?_; rintro e w10 ⟨rfl, hb⟩; have HPM := Lib.hid (HP.out.below hb); clear hb)
                | (go_at_call 49; refine (HFL.out p _ HPM.out.rd).mono ?_; rintro e wf ⟨rfl, hx, hg⟩; have HPF := Lib.hid (HPM.out.step (st' := (r, E)) hx hg); clear hx hg))
              refine wp_region_held_drew (S := fun W => Below w.heap.size w W ∧ W.heap[q]? = some (.cells PC 51 (0, 0)) ∧ RdX W p r E) (by kernel_rfl) (⟨HPF.out.lo.drew, HPF.out.hd, HPF.out.rd⟩) (fun hS => ?_)
              refine wpAnyH_take (i := 0) (v := .agg PC) rfl (by kernel_rfl) (by kernel_rfl) (by kernel_rfl) (fun _ _ _ h => h) (yieldsIf_load rfl 51 (.tmp 6) rfl _ _ rfl (fun W hW => load_pc z51.out hW.2.1)) hS ?_
              simp only [List.getElem_toArray, List.getElem_cons_zero, Act.put, List.setIfInBounds_toArray, List.set_cons_zero, List.set_cons_succ]
              refine wpAnyH_take (i := 1) (v := .pointer (some ⟨p, 0, none⟩)) rfl (by kernel_rfl) (by kernel_rfl) (by kernel_rfl) (fun _ _ _ h => h) (Or.inl ⟨by simp [Region.wanted], fun W _ => by go_simp⟩) hS ?_
              simp only [List.getElem_toArray, List.getElem_cons_zero, List.getElem_cons_succ, Act.put, List.setIfInBounds_toArray, List.set_cons_zero, List.set_cons_succ]
              refine wpAnyH_ready (rs := [2]) (by kernel_rfl) (by simp) ?_
              refine AllReadyH.cons rfl (fun K1 hK1 => ?_) AllReadyH.nil
              refine wanted_go rfl ?_
              simp only [List.getElem_toArray, List.getElem_cons_zero, List.getElem_cons_succ]
              go_wp2_with (go_at_call 50; refine (HFT.out p E _ hS.2.2).mono ?_; rintro e w11 ⟨rfl, rfl⟩)
              refine hK1.out _ _ (hS) (fun hS1 => ?_)
              refine wpAnyH_ready (rs := [3]) (by kernel_rfl) (by simp) ?_
              refine AllReadyH.cons rfl (fun K2 hK2 => ?_) AllReadyH.nil
              refine wanted_go rfl ?_
              simp only [List.getElem_toArray, List.getElem_cons_zero, List.getElem_cons_succ]
              refine wp_store_row 51 (.tmp 4) (.tmp 47) rfl w.heap.size PC rfl rfl 51 _ (HPF.out.drew.res) i51.out (by rw [z51.out]; rfl) o51.out ?_
              refine hK2.out _ _ (⟨below_row1 hS1.1 (Nat.le_refl _), (setRow_ne _ (by omega)).trans hS1.2.1, (setRow_ne _ (by omega)).trans hS1.2.2⟩) (fun hS2 => ?_)
              refine wpAnyH_take (i := 4) (v := .int .i64 E) rfl (by kernel_rfl) (by kernel_rfl) (by kernel_rfl) (fun _ _ _ h => h) (Or.inl ⟨by simp [Region.wanted], fun W _ => by go_simp⟩) hS2 ?_
              simp only [List.getElem_toArray, List.getElem_cons_zero, List.getElem_cons_succ, Act.put, List.setIfInBounds_toArray, List.set_cons_zero, List.set_cons_succ]
              refine wpAnyH_done (by kernel_rfl) ?_ _
              go_wp2
              refine ret_cell_tmp rfl rfl rfl rfl (setRow_heap _ _ _ _ _ _ (HPF.out.drew.res)) Tryd.underlying51 rfl i51.out ?_
              exact ⟨by rw [hE]; try rfl, hS2.1⟩
            | true =>
              have hR := HFN.out (fun h => h.elim (fun h1 => hr0 h1) (fun h2 => absurd h2 (by simp)))
              subst hR
              clear HFY HFN
              go_wp2_with (first
                | (go_at_call 48; refine HL.out.mono ?_; rintro e w9 ⟨rfl, rfl⟩)
                | (go_at_call 26; refine HMW.out.mono ?_; rintro e wf ⟨rfl, hb⟩; have HPF := Lib.hid (HP.out.below hb); clear hb))
              refine wp_region_held_drew (S := fun W => Below w.heap.size w W ∧ W.heap[q]? = some (.cells PC 51 (0, 0)) ∧ RdX W p r RES) (by kernel_rfl) (⟨HPF.out.lo.drew, HPF.out.hd, HPF.out.rd⟩) (fun hS => ?_)
              refine wpAnyH_take (i := 0) (v := .agg PC) rfl (by kernel_rfl) (by kernel_rfl) (by kernel_rfl) (fun _ _ _ h => h) (yieldsIf_load rfl 51 (.tmp 6) rfl _ _ rfl (fun W hW => load_pc z51.out hW.2.1)) hS ?_
              simp only [List.getElem_toArray, List.getElem_cons_zero, Act.put, List.setIfInBounds_toArray, List.set_cons_zero, List.set_cons_succ]
              refine wpAnyH_take (i := 1) (v := .pointer (some ⟨p, 0, none⟩)) rfl (by kernel_rfl) (by kernel_rfl) (by kernel_rfl) (fun _ _ _ h => h) (Or.inl ⟨by simp [Region.wanted], fun W _ => by go_simp⟩) hS ?_
              simp only [List.getElem_toArray, List.getElem_cons_zero, List.getElem_cons_succ, Act.put, List.setIfInBounds_toArray, List.set_cons_zero, List.set_cons_succ]
              refine wpAnyH_ready (rs := [2]) (by kernel_rfl) (by simp) ?_
              refine AllReadyH.cons rfl (fun K1 hK1 => ?_) AllReadyH.nil
              refine wanted_go rfl ?_
              simp only [List.getElem_toArray, List.getElem_cons_zero, List.getElem_cons_succ]
              go_wp2_with (go_at_call 50; refine (HFT.out p RES _ hS.2.2).mono ?_; rintro e w11 ⟨rfl, rfl⟩)
              refine hK1.out _ _ (hS) (fun hS1 => ?_)
              refine wpAnyH_ready (rs := [3]) (by kernel_rfl) (by simp) ?_
              refine AllReadyH.cons rfl (fun K2 hK2 => ?_) AllReadyH.nil
              refine wanted_go rfl ?_
              simp only [List.getElem_toArray, List.getElem_cons_zero, List.getElem_cons_succ]
              refine wp_store_row 51 (.tmp 4) (.tmp 47) rfl w.heap.size PC rfl rfl 51 _ (HPF.out.drew.res) i51.out (by rw [z51.out]; rfl) o51.out ?_
              refine hK2.out _ _ (⟨below_row1 hS1.1 (Nat.le_refl _), (setRow_ne _ (by omega)).trans hS1.2.1, (setRow_ne _ (by omega)).trans hS1.2.2⟩) (fun hS2 => ?_)
              refine wpAnyH_take (i := 4) (v := .int .i64 RES) rfl (by kernel_rfl) (by kernel_rfl) (by kernel_rfl) (fun _ _ _ h => h) (Or.inl ⟨by simp [Region.wanted], fun W _ => by go_simp⟩) hS2 ?_
              simp only [List.getElem_toArray, List.getElem_cons_zero, List.getElem_cons_succ, Act.put, List.setIfInBounds_toArray, List.set_cons_zero, List.set_cons_succ]
              refine wpAnyH_done (by kernel_rfl) ?_ _
              go_wp2
              refine ret_cell_tmp rfl rfl rfl rfl (setRow_heap _ _ _ _ _ _ (HPF.out.drew.res)) Tryd.underlying51 rfl i51.out ?_
              exact ⟨rfl, hS2.1⟩
end Go.Proofs.YtipaicfmodgcoaaDoor

namespace Go.Proofs.YtipaicfmodgcoaaDoor
open Go.RowKit Base Base2

theorem wholeH (h : HeadT) (b : Nat) (w : World) (hb : w.heap[b]? = some (.cells (pcH h) 51 (0, 0))) : Calls Tryd.prog 25 #[.pointer (some ⟨b, 0, none⟩)] w fun e w' => e = .returned (hv h) ∧ Below w.heap.size w w' := whole25 h.ix h.fi h.co h.by' h.pv h.rt b w hb
theorem faultH_ok {H : HeadT} {n : Nat} {r : ByteArray} {e : Int} (h : faultH H n r e = 0) : e = 0 ∧ ¬ 0 < r.size ∧ mayH H n = true := by
  unfold faultH orZ at h
  by_cases k : 0 < r.size ∨ mayH H n = false
  · rw [if_pos k] at h
    by_cases he : e = 0
    · rw [if_pos he] at h; exact absurd h (by decide)
    · rw [if_neg he] at h; exact absurd h he
  · rw [if_neg k] at h
    refine ⟨h, fun hr => k (.inl hr), ?_⟩
    cases hm : mayH H n with
    | true => rfl
    | false => exact absurd (.inr hm) k
theorem getH_of {S : ByteArray} {n : Nat} {H : HeadT} {r : ByteArray} {e : Int} (hq : readH S n = (H, r, e)) : getH S n = if faultH H n r e = 0 then (H, 0) else (zeroH, faultH H n r e) := by
  by_cases h : faultH H n r e = 0
  · obtain ⟨rfl, hr, hm⟩ := faultH_ok h
    rw [if_pos h, getH_ok hq hr hm]
  · rw [if_neg h]
    by_cases he : e = 0
    · subst he
      by_cases hr : 0 < r.size
      · rw [getH_more hq hr, faultH_yes (.inl hr)]; rfl
      · cases hm : mayH H n with
        | false => rw [getH_no hq hr hm, faultH_yes (.inr hm)]; rfl
        | true => exact absurd (faultH_no (e := 0) (fun k => k.elim hr (fun k2 => by rw [hm] at k2; exact absurd k2 (by simp)))) h
    · rw [getH_fault hq he]
      have : faultH H n r e = e := by
        unfold faultH orZ
        rw [if_neg he]; simp
      rw [this]

/-- While the result lies in a box. -/
def GtS (w : World) (W : World) : Prop := Below w.heap.size w W ∧ W.heap[w.heap.size]? = some (.cells (hcells zeroH) 23 (0, 0))
theorem GtS.below {w W W' : World} (h : GtS w W) (hb : Below W.heap.size W W') : GtS w W' :=
  ⟨h.1.trans (hb.mono h.1.size), (hb.block _ (lt_of_blk h.2)).trans h.2⟩

set_option maxRecDepth 100000 in
set_option maxHeartbeats 4000000 in
theorem pget9 (S : ByteArray) (n : Int) (hs : S.size ≤ 3000) (w : World) : Calls Tryd.prog 9 #[.string S, .int .i64 n] w fun e w' => e = .returned (.tuple #[hv (getP S n).1, .int .i64 (getP S n).2]) ∧ Below w.heap.size w w' := by
  have HC := Lib.hid (fun W => mayCut23 n W)
  have i23 : ∀ h, (Tryd.prog.info? 23).map (·.size) = some (hcells h).size := fun _ => info23P
  have o23 : ∀ h, (hcells h).all (·.oneCell') = true := fun h => by simp [hcells, Value.oneCell']
  have z23 : ∀ h, (hcells zeroH).size = (hcells h).size := fun _ => rfl
  have I23 := Lib.hid i23; have O23 := Lib.hid o23; have Z23h := Lib.hid z23
  clear i23 o23 z23
  have HB0 := Lib.hid (show GtS w (w.alloc (.cells (hcells zeroH) 23)) from ⟨(Below.refl _ w).alloc (Nat.le_refl _) _, heap_alloc_new w _⟩)
  by_cases hn : 1 ≤ n ∧ n ≤ 32
  · have hc1 : (decide (1 ≤ n) && decide (n ≤ 32)) = true := by rw [decide_eq_true hn.1, decide_eq_true hn.2]; rfl
    rw [hc1] at HC
    obtain ⟨k, rfl⟩ := Int.eq_ofNat_of_zero_le (show 0 ≤ n by omega)
    rw [getP_in S k (by omega) (by omega)]
    obtain ⟨⟨H, r, er⟩, hread⟩ : ∃ z, readH S k = z := ⟨_, rfl⟩
    rw [getH_of hread]
    have HR := Lib.hid (fun W => read24 S k W (by omega) (by omega) H r er hread)
    generalize faultH H k r er = F at *
    have HWH := Lib.hid (fun b W hb => wholeH H b W hb)
    have i51 : (Tryd.prog.info? 51).map (·.size) = some (pcH H).size := info51
    have o51 := pcH_one H
    have z51 := pcH_size H
    generalize pcH H = PC at *
    clear hn hc1 hread hs
    by_cases hF : F = 0
    · subst hF
      rw [if_pos rfl]
      have IH := Lib.hid (I23.out H); have OH := Lib.hid (O23.out H); have ZH := Lib.hid (Z23h.out H)
      unfold hv at *
      generalize hcells H = hc at *
      go_enter Tryd.func9, Tryd.ntmps9
      go_wp2_with (first
        | (go_at_call 23; refine (HC.out _).mono ?_; rintro e w1 ⟨rfl, rfl⟩)
        | (go_at_call 24; refine (HR.out _).mono ?_; rintro e w2 ⟨rfl, hb⟩; have HB2 := Lib.hid (HB0.out.below hb); have HX := Lib.hid (boxT 51 w2 PC Z51); have HB3 := Lib.hid (HB2.out.below HX.out.1); clear hb)
        | ((with_reducible refine atStore (ty := 51) (x := .tmp 6) (y := .tmp 16) rfl ?_); refine wpList_store_row rfl 51 (.tmp 6) (.tmp 16) rfl w2.heap.size PC rfl rfl 51 _ (heap_alloc_new w2 _) i51 (by rw [z51]; rfl) o51 ?_)
        | (go_at_call 25; refine (HWH.out _ _ HX.out.2).mono ?_; rintro e w4 ⟨rfl, hb⟩; have HB4 := Lib.hid (HB3.out.below hb); clear hb)
        | ((with_reducible refine atStore (ty := 23) (x := .tmp 4) (y := .tmp 22) rfl ?_); refine wpList_store_row rfl 23 (.tmp 4) (.tmp 22) rfl w.heap.size hc rfl rfl 23 _ HB4.out.2 IH.out ZH.out OH.out ?_))
      refine ret_cell_tmp rfl rfl rfl rfl (setRow_heap _ _ _ _ _ _ HB4.out.2) Tryd.underlying23 rfl IH.out ?_
      exact ⟨rfl, below_row1 HB4.out.1 (Nat.le_refl _)⟩
    · rw [if_neg hF]
      have hb : (F != 0) = true := by simpa using hF
      clear HWH hF
      unfold hv at *
      go_enter Tryd.func9, Tryd.ntmps9
      go_wp2_with (first
        | (go_at_call 23; refine (HC.out _).mono ?_; rintro e w1 ⟨rfl, rfl⟩)
        | (go_at_call 24; refine (HR.out _).mono ?_; rintro e w2 ⟨rfl, hb⟩; have HB2 := Lib.hid (HB0.out.below hb); have HX := Lib.hid (boxT 51 w2 PC Z51); have HB3 := Lib.hid (HB2.out.below HX.out.1); clear hb)
        | ((with_reducible refine atStore (ty := 51) (x := .tmp 6) (y := .tmp 16) rfl ?_); refine wpList_store_row rfl 51 (.tmp 6) (.tmp 16) rfl w2.heap.size PC rfl rfl 51 _ (heap_alloc_new w2 _) i51 (by rw [z51]; rfl) o51 ?_)
        | ((with_reducible refine atStore (ty := 23) (x := .tmp 4) (y := .tmp 20) rfl ?_); refine wpList_store_row rfl 23 (.tmp 4) (.tmp 20) rfl w.heap.size (hcells zeroH) rfl rfl 23 _ HB3.out.2 (I23.out zeroH) rfl (O23.out zeroH) ?_))
      refine ret_cell_tmp rfl rfl rfl rfl (setRow_heap _ _ _ _ _ _ HB3.out.2) Tryd.underlying23 rfl (I23.out zeroH) ?_
      exact ⟨rfl, below_row1 HB3.out.1 (Nat.le_refl _)⟩
  · have hc1 : (decide (1 ≤ n) && decide (n ≤ 32)) = false := by
      by_cases h1 : 1 ≤ n
      · rw [decide_eq_true h1, decide_eq_false (by omega)]; rfl
      · rw [decide_eq_false h1]; rfl
    rw [hc1] at HC
    rw [getP_no hn]
    clear hn hc1 hs
    unfold hv at *
    go_enter Tryd.func9, Tryd.ntmps9
    go_wp2_with (first
      | (go_at_call 23; refine (HC.out _).mono ?_; rintro e w1 ⟨rfl, rfl⟩)
      | ((with_reducible refine atStore (ty := 23) (x := .tmp 4) (y := .tmp 11) rfl ?_); refine wpList_store_row rfl 23 (.tmp 4) (.tmp 11) rfl w.heap.size (hcells zeroH) rfl rfl 23 _ HB0.out.2 (I23.out zeroH) rfl (O23.out zeroH) ?_))
    refine ret_cell_tmp rfl rfl rfl rfl (setRow_heap _ _ _ _ _ _ HB0.out.2) Tryd.underlying23 rfl (I23.out zeroH) ?_
    exact ⟨rfl, below_row1 HB0.out.1 (Nat.le_refl _)⟩
end Go.Proofs.YtipaicfmodgcoaaDoor

namespace Go.Proofs.YtipaicfmodgcoaaDoor
open Go.RowKit
theorem putH_short (h : HeadT) (hs : shortH h) : (putH h).size ≤ 3000 := putH_size h (by have := hs.1; omega) (by have := hs.2; omega)
theorem palive6 (W : World) (hK : KHeld W) : Calls Tryd.prog 6 #[] W fun e w' => e = .returned (.bool true) ∧ Below W.heap.size W w' :=
  aliveH6 W hK (fun W hK => pchain19 [] none 0 32 W hK (.inl rfl) (by simp) (by simp) (by simp)) (fun W hK => pfirst12 32 W hK)
theorem hp3 (h : HeadT) (n : Int) (w : World) (hw : h.Wf) (hK : KHeld w) : Calls Tryd.prog 3 #[hv h, .int .i64 n] w fun e w' => e = .returned (.bool true) ∧ Below w.heap.size w w' :=
  puts3 h n w hK palive6 (fun hs W => pput8 h hs W) (fun hs W => pget9 (putH h) n (putH_short h hs) W) (fun W => pmay10 h hw.toIn n W) (fun hs W hK => phash11 h n hs W hK) (fun W hK => pfirst12 n W hK)
theorem hg4 (S : ByteArray) (n : Int) (w : World) (hK : KHeld w) : Calls Tryd.prog 4 #[.string S, .int .i64 n] w fun e w' => e = .returned (.bool true) ∧ Below w.heap.size w w' :=
  gets4H S n w (palive6 w hK) (fun W hs => pget9 S n (by omega) W) (fun h W _ h1 h2 => pput8 h ⟨h1, h2⟩ W) (fun h W hi => pmay10 h hi n W)
theorem hc5 (a : Option Addr) (len cap : Nat) (l : List HeadT) (n : Int) (w : World) (hl : l.length = len) (hr : HeadsAt w a l ∧ ∀ h ∈ l, h.In) (hm : len ≤ maxLen) (hc : len ≤ cap) (hK : KHeld w) :
    Calls Tryd.prog 5 #[.slice a len cap, .int .i64 n] w fun e w' => e = .returned (.bool true) ∧ Below w.heap.size w w' := by
  subst hl
  exact chains5 a l cap n w hr.1 hr.2 hm hc hK palive6 (fun W hK hr2 hl hs hc => pchain19 l a cap n W hK hr2 hl hs hc)
end Go.Proofs.YtipaicfmodgcoaaDoor
