/- The constants of the digest: the contract of Constants. -/
import Derived.Test.YtipaicfmodgcoaaDoorShaPrimes
import Derived.Deep.MidRow
import Derived.Deep.WholeRow
import Derived.RegionTactic
import Derived.Deep.RegionWith
namespace Go.Proofs.YtipaicfmodgcoaaDoor
open Go.RowKit

/-- The constants, as cells. -/
def KL (cube : Bool) : List Value := primes64.map fun (q : Nat) => Value.int .u32 (rootV cube q)
theorem KL_len (cube : Bool) : (KL cube).length = 64 := by unfold KL; rw [List.length_map]; exact primesTo_312
theorem p64_len : primes64.length = 64 := primesTo_312
theorem KL_at (cube : Bool) (i : Nat) (h : i < 64) : (KL cube)[i]? = some (.int .u32 (rootV cube (primes64.getD i 0))) := by
  unfold KL
  rw [List.getElem?_map, List.getElem?_eq_getElem (by rw [p64_len]; exact h)]
  simp [List.getD, List.getElem?_eq_getElem (show i < primes64.length by rw [p64_len]; exact h)]

theorem cell_of_blk {W : World} {g : Nat} {cs : Array Value} {t : TypeId} (h : W.heap[g]? = some (.cells cs t (0, 0))) (i : Nat) (hi : i < cs.size) : ∃ u, W.cell? ⟨g, i, none⟩ = some u := by
  refine ⟨cs[i], ?_⟩
  rw [cell_of_row W g i cs t (0, 0) h]; simp [hi]
theorem free_of_blk {W : World} {g : Nat} {cs : Array Value} {t : TypeId} (h : W.heap[g]? = some (.cells cs t (0, 0))) (i : Nat) : W.frozen? ⟨g, i, none⟩ = false := by
  simp [World.frozen?, h]
theorem set_blk {W : World} {g : Nat} {cs : Array Value} {t : TypeId} (h : W.heap[g]? = some (.cells cs t (0, 0))) (i : Nat) (u : Value) : (W.setCell ⟨g, i, none⟩ u).heap[g]? = some (.cells (cs.setIfInBounds i u) t (0, 0)) := by
  simp [World.setCell, Array.getElem?_modify, h]
theorem grown_set (W : World) (p i : Nat) (v : Value) : W.grownBy (W.setCell ⟨p, i, none⟩ v) (some p) :=
  ⟨rfl, rfl, rfl, by simp [World.setCell], fun k _ hk => Below.heap_setCell W ⟨p, i, none⟩ v k (fun e => hk (by rw [e]))⟩
theorem grown_trans {a b c : World} {r : Option Nat} (h : a.grownBy b r) (k : b.grownBy c r) : a.grownBy c r :=
  ⟨k.os.trans h.os, k.tape.trans h.tape, k.output.trans h.output, Nat.le_trans h.size k.size, fun i hi hne => (k.block i (by have := h.size; omega) hne).trans (h.block i hi hne)⟩
theorem take_set_v (cs : Array Value) (L : List Value) (k : Nat) (v : Value) (hk : k < cs.size) (h : cs.toList.take k = L.take k) (hv : L[k]? = some v) :
    (cs.setIfInBounds k v).toList.take (k + 1) = L.take (k + 1) := by
  rw [Array.toList_setIfInBounds, List.take_add_one, List.take_add_one, List.take_set_of_le (by omega), h, hv]
  simp [hk]

theorem KL_one (c : Bool) (ks : Array Value) (h : ks.toList = KL c) : ks.all (·.oneCell') = true := by
  rw [Array.all_eq_true_iff_forall_mem]
  intro v hv
  have : v ∈ KL c := by rw [← h]; simpa using hv
  unfold KL at this
  obtain ⟨q, _, rfl⟩ := List.mem_map.1 this
  rfl
theorem KL_one8 (ks : Array Value) (h : ks.toList = (KL false).take 8) : ks.all (·.oneCell') = true := by
  rw [Array.all_eq_true_iff_forall_mem]
  intro v hv
  have h1 : v ∈ (KL false).take 8 := by rw [← h]; simpa using hv
  have : v ∈ KL false := List.mem_of_mem_take h1
  unfold KL at this
  obtain ⟨q, _, rfl⟩ := List.mem_map.1 this
  rfl
theorem region_below {w w1 w2 w3 : World} {a b : Nat} (h : Below w.heap.size w w1) (g : w1.grownBy w2 (some a)) (k : w2.grownBy w3 (some b)) (ha : w.heap.size ≤ a) (hb : w.heap.size ≤ b) : Below w.heap.size w w3 :=
  ⟨k.os.trans (g.os.trans h.os), k.tape.trans (g.tape.trans h.tape), k.output.trans (g.output.trans h.output), Nat.le_trans h.size (Nat.le_trans g.size k.size),
    fun i hi => (k.block i (by have := h.size; have := g.size; omega) (by simp; omega)).trans ((g.block i (by have := h.size; omega) (by simp; omega)).trans (h.block i hi))⟩

/-- What a loop that fills a block of constants holds. -/
def FillRel (w1 : World) (g T n : Nat) (L : List Value) (b : Value) (W : World) : Prop :=
  ∃ (i : Nat) (ks : Array Value), i ≤ n ∧ b = .int .i64 (i : Int) ∧ ks.size = n ∧ ks.toList.take i = L.take i ∧ W.heap[g]? = some (.cells ks T (0, 0)) ∧ w1.grownBy W (some g)

theorem fill_start {w1 : World} {g T n : Nat} {L : List Value} {ks : Array Value} (h : w1.heap[g]? = some (.cells ks T (0, 0))) (hn : ks.size = n) : FillRel w1 g T n L (.int .i64 0) w1 :=
  ⟨0, ks, Nat.zero_le _, rfl, hn, by simp only [List.take_zero], h, World.grownBy.refl _ _⟩

theorem four_alloc {w w1 : World} {A B C D : Obj} (hb : Below ((((w.alloc A).alloc B).alloc C).alloc D).heap.size ((((w.alloc A).alloc B).alloc C).alloc D) w1) :
    w1.heap[w.heap.size]? = some A ∧ w1.heap[w.heap.size + 1]? = some B ∧ w1.heap[w.heap.size + 1 + 1]? = some C ∧ w1.heap[w.heap.size + 1 + 1 + 1]? = some D ∧ Below w.heap.size w w1 ∧
      ((((w.alloc A).alloc B).alloc C).alloc D).heap.size = w.heap.size + 4 := by
  have e1 : (w.alloc A).heap.size = w.heap.size + 1 := by simp
  have e2 : ((w.alloc A).alloc B).heap.size = w.heap.size + 1 + 1 := by simp
  have e3 : (((w.alloc A).alloc B).alloc C).heap.size = w.heap.size + 1 + 1 + 1 := by simp
  have e4 : ((((w.alloc A).alloc B).alloc C).alloc D).heap.size = w.heap.size + 4 := by simp
  have h0 := heap_alloc_new w A
  have h1 := heap_alloc_new (w.alloc A) B
  have h2 := heap_alloc_new ((w.alloc A).alloc B) C
  have h3 := heap_alloc_new (((w.alloc A).alloc B).alloc C) D
  rw [e1] at h1; rw [e2] at h2; rw [e3] at h3
  refine ⟨?_, ?_, ?_, ?_, ?_, e4⟩
  · rw [hb.block _ (by omega), Below.heap_alloc _ _ _ (by omega), Below.heap_alloc _ _ _ (by omega), Below.heap_alloc _ _ _ (by omega)]; exact h0
  · rw [hb.block _ (by omega), Below.heap_alloc _ _ _ (by omega), Below.heap_alloc _ _ _ (by omega)]; exact h1
  · rw [hb.block _ (by omega), Below.heap_alloc _ _ _ (by omega)]; exact h2
  · rw [hb.block _ (by omega)]; exact h3
  · exact ((((Below.refl _ w).alloc (Nat.le_refl _) _).alloc (by omega) _).alloc (by omega) _).alloc (by omega) _ |>.trans (hb.mono (by omega))

theorem own_form {w : World} {base : Nat} {v : Value} {xs : List Value} (h : w.ownsRow base 63 1 v 64 xs) :
    ∃ g cap cur, v = .slice (some ⟨g, 0, none⟩) 64 cap ∧ base ≤ g ∧ w.heap[g]? = some (.cells cur 63 (0, 0)) ∧ cur.toList.take 64 = xs ∧ 64 ≤ cap := by
  rcases h.2 with ⟨_, h0⟩ | ⟨g, cap, cur, rfl, hg, hh, h1, _, _, h4⟩
  · cases h0
  · exact ⟨g, cap, cur, rfl, hg, hh, by simpa using h4, h1⟩
theorem cell_of_take {w : World} {g : Nat} {cur : Array Value} {xs : List Value} {n i : Nat} {T : TypeId} {u : Value} (hh : w.heap[g]? = some (.cells cur T (0, 0))) (ht : cur.toList.take n = xs) (hi : i < n) (hx : xs[i]? = some u) : w.cell? ⟨g, i, none⟩ = some u := by
  rw [cell_of_row w g i cur T (0, 0) hh]
  have : (cur.toList.take n)[i]? = some u := by rw [ht]; exact hx
  rw [List.getElem?_take, if_pos hi] at this
  simpa using this
theorem p64_at (i : Nat) (h : i < 64) : (primes64.map fun (q : Nat) => Value.int .u64 (q : Int))[i]? = some (.int .u64 ((primes64.getD i 0 : Nat) : Int)) := by
  rw [List.getElem?_map, List.getElem?_eq_getElem (by rw [p64_len]; exact h)]
  simp [List.getD, List.getElem?_eq_getElem (show i < primes64.length by rw [p64_len]; exact h)]

theorem info30 : (Tryd.prog.info? 34).map (·.size) = some 64 := by kernel_rfl
theorem info31 : (Tryd.prog.info? 35).map (·.size) = some 8 := by kernel_rfl
theorem loadAt_row (W : World) (g T : Nat) (t : TypeId) (cs : Array Value) (n : Nat) (e : TypeId) (hg : W.heap[g]? = some (.cells cs t (0, 0))) (hu : Tryd.prog.underlying T = some (.array n e)) (hi : (Tryd.prog.info? T).map (·.size) = some cs.size) :
    (Instr.loadAt T (.pointer (some ⟨g, 0, none⟩))).run Tryd.prog W = .ok (.agg cs) W := by
  simp only [Instr.loadAt, Instr.sureAddr, Sem.run_bind, Sem.run_pure, Result.andThen]
  exact run_loadVar_row W g t T cs (0, 0) _ hg hu rfl hi
theorem storeAt_row (W : World) (g T : Nat) (t : TypeId) (old cs : Array Value) (hg : W.heap[g]? = some (.cells old t (0, 0))) (hi : (Tryd.prog.info? T).map (·.size) = some cs.size) (ho : old.size = cs.size) (h1 : cs.all (·.oneCell') = true) :
    (Instr.storeAt T (.pointer (some ⟨g, 0, none⟩)) (.agg cs)).run Tryd.prog W = .ok () (W.setRow g cs) := by
  simp only [Instr.storeAt, Instr.sureAddr, Sem.run_bind, Sem.run_pure, Result.andThen]
  exact run_storeVar_row W g t T old cs hg hi ho h1

/-- What the last region of Constants does, operation by operation. -/
theorem final_run (W : World) (b : Nat) (ks hs o0 o1 : Array Value) (h0 : W.heap[b]? = some (.cells o0 34 (0, 0))) (h1 : W.heap[b + 1]? = some (.cells o1 35 (0, 0))) (h2 : W.heap[b + 1 + 1]? = some (.cells ks 34 (0, 0))) (h3 : W.heap[b + 1 + 1 + 1]? = some (.cells hs 35 (0, 0)))
    (sk : ks.size = 64) (sh : hs.size = 8) (so0 : o0.size = 64) (so1 : o1.size = 8) (ak : ks.all (·.oneCell') = true) (ah : hs.all (·.oneCell') = true) :
    (Instr.loadAt 34 (.pointer (some ⟨b + 1 + 1, 0, none⟩))).run Tryd.prog W.drew = .ok (.agg ks) W.drew ∧
    (Instr.loadAt 35 (.pointer (some ⟨b + 1 + 1 + 1, 0, none⟩))).run Tryd.prog W.drew = .ok (.agg hs) W.drew ∧
    (Instr.storeAt 34 (.pointer (some ⟨b, 0, none⟩)) (.agg ks)).run Tryd.prog W.drew = .ok () (W.drew.setRow b ks) ∧
    (Instr.storeAt 35 (.pointer (some ⟨b + 1, 0, none⟩)) (.agg hs)).run Tryd.prog (W.drew.setRow b ks) = .ok () ((W.drew.setRow b ks).setRow (b + 1) hs) ∧
    (Instr.loadAt 34 (.pointer (some ⟨b, 0, none⟩))).run Tryd.prog ((W.drew.setRow b ks).setRow (b + 1) hs) = .ok (.agg ks) ((W.drew.setRow b ks).setRow (b + 1) hs) ∧
    (Instr.loadAt 35 (.pointer (some ⟨b + 1, 0, none⟩))).run Tryd.prog ((W.drew.setRow b ks).setRow (b + 1) hs) = .ok (.agg hs) ((W.drew.setRow b ks).setRow (b + 1) hs) := by
  have i30 : (Tryd.prog.info? 34).map (·.size) = some ks.size := by rw [sk]; exact info30
  have i31 : (Tryd.prog.info? 35).map (·.size) = some hs.size := by rw [sh]; exact info31
  have e0 : (W.drew.setRow b ks).heap[b]? = some (.cells ks 34 (0, 0)) := setRow_heap W.drew b o0 ks 34 (0, 0) h0
  have e1 : (W.drew.setRow b ks).heap[b + 1]? = some (.cells o1 35 (0, 0)) := by rw [setRow_other _ _ _ _ (by omega)]; exact h1
  have e2 : ((W.drew.setRow b ks).setRow (b + 1) hs).heap[b + 1]? = some (.cells hs 35 (0, 0)) := setRow_heap _ (b + 1) o1 hs 35 (0, 0) e1
  have e3 : ((W.drew.setRow b ks).setRow (b + 1) hs).heap[b]? = some (.cells ks 34 (0, 0)) := by rw [setRow_other _ _ _ _ (by omega)]; exact e0
  exact ⟨loadAt_row W.drew _ 34 34 ks 64 33 h2 Tryd.underlying34 i30, loadAt_row W.drew _ 35 35 hs 8 33 h3 Tryd.underlying35 i31,
    storeAt_row W.drew b 34 34 o0 ks h0 i30 (by omega) ak, storeAt_row _ (b + 1) 35 35 o1 hs e1 i31 (by omega) ah,
    loadAt_row _ _ 34 34 ks 64 33 e3 Tryd.underlying34 i30, loadAt_row _ _ 35 35 hs 8 33 e2 Tryd.underlying35 i31⟩

theorem results_cell_cell {fn : Func} {p u : Tmp} {ty tu : TypeId} (h : fn.results = #[.cell p ty, .cell u tu]) (tmps : Array Value) (P : Program) (w : World) :
    (results fn tmps).run P w = ((asAddr (tmps.getD p undef)).run P w).andThen fun a w1 => ((loadVar ty a).run P w1).andThen fun v w2 => ((asAddr (tmps.getD u undef)).run P w2).andThen fun a' w3 => ((loadVar tu a').run P w3).andThen fun v' w4 => .ok (.tuple #[v, v']) w4 := by
  simp only [results, h]
  simp [Sem.run_bind, Result.andThen]
theorem results_run {P : Program} (ty tu : TypeId) (a b : Addr) (w : World) {x y v v' : Value} (hx : x = .pointer (some a)) (hy : y = .pointer (some b)) (h1 : (loadVar ty a).run P w = .ok v w) (h2 : (loadVar tu b).run P w = .ok v' w) :
    (((asAddr x).run P w).andThen fun a w1 => ((loadVar ty a).run P w1).andThen fun v w2 => ((asAddr y).run P w2).andThen fun a' w3 => ((loadVar tu a').run P w3).andThen fun v' w4 => Result.ok (Value.tuple #[v, v']) w4) = Result.ok (Value.tuple #[v, v']) w := by
  subst hx hy
  simp [asAddr, Result.andThen, h1, h2]
theorem final_loads (W : World) (b : Nat) (ks hs o0 o1 : Array Value) (h0 : W.heap[b]? = some (.cells o0 34 (0, 0))) (h1 : W.heap[b + 1]? = some (.cells o1 35 (0, 0))) (i30 : (Tryd.prog.info? 34).map (·.size) = some ks.size) (i31 : (Tryd.prog.info? 35).map (·.size) = some hs.size) :
    (loadVar 34 ⟨b, 0, none⟩).run Tryd.prog ((W.drew.setRow b ks).setRow (b + 1) hs) = .ok (.agg ks) ((W.drew.setRow b ks).setRow (b + 1) hs) ∧
    (loadVar 35 ⟨b + 1, 0, none⟩).run Tryd.prog ((W.drew.setRow b ks).setRow (b + 1) hs) = .ok (.agg hs) ((W.drew.setRow b ks).setRow (b + 1) hs) := by
  have e0 : (W.drew.setRow b ks).heap[b]? = some (.cells ks 34 (0, 0)) := setRow_heap W.drew b o0 ks 34 (0, 0) h0
  have e1 : (W.drew.setRow b ks).heap[b + 1]? = some (.cells o1 35 (0, 0)) := by rw [setRow_other _ _ _ _ (by omega)]; exact h1
  have e2 : ((W.drew.setRow b ks).setRow (b + 1) hs).heap[b + 1]? = some (.cells hs 35 (0, 0)) := setRow_heap _ (b + 1) o1 hs 35 (0, 0) e1
  have e3 : ((W.drew.setRow b ks).setRow (b + 1) hs).heap[b]? = some (.cells ks 34 (0, 0)) := by rw [setRow_other _ _ _ _ (by omega)]; exact e0
  exact ⟨run_loadVar_row _ b 34 34 ks (0, 0) _ e3 Tryd.underlying34 rfl i30, run_loadVar_row _ (b + 1) 35 35 hs (0, 0) _ e2 Tryd.underlying35 rfl i31⟩
theorem below_rows {w W : World} {a b : Nat} {ks hs : Array Value} (h : Below w.heap.size w W) (ha : w.heap.size ≤ a) (hb : w.heap.size ≤ b) : Below w.heap.size w ((W.drew.setRow a ks).setRow b hs) :=
  ⟨h.os, h.tape, h.output, by have := h.size; simpa using this, fun k hk => by rw [setRow_other _ _ _ _ (by omega), setRow_other _ _ _ _ (by omega)]; exact h.block k hk⟩

theorem step_load_row {P : Program} {ops : Array Oper} {o : Oper} {a : Act} {w : World} {K : Act → World → Prop} {Q : Exit → Act → World → Prop} {E : Prop} (hgd : o.guard = none) (ty : TypeId) (x : Operand) (ho : o.op = .load ty x)
    (g : Nat) (hx : a.eval x = .pointer (some ⟨g, 0, none⟩)) (t : TypeId) (cs : Array Value) (fr : Nat × Nat) (d : TypeDesc) (hg : w.heap[g]? = some (.cells cs t fr))
    (hu : P.underlying ty = some d) (hd : (match d with | .struct _ | .array _ _ => true | _ => false) = true) (hi : (P.info? ty).map (·.size) = some cs.size)
    (h : K (a.put o.dst (.agg cs)) w) : if Region.wanted o (yielded ops a.tmps) = true then Oper.wp P o a w K Q else E := by
  have hw : Region.wanted o (yielded ops a.tmps) = true := by simp [Region.wanted, hgd]
  rw [if_pos hw]
  exact wp_load_row ty x ho g hx t cs fr d hg hu hd hi h
theorem step_store_row {P : Program} {ops : Array Oper} {o : Oper} {a : Act} {w : World} {K : Act → World → Prop} {Q : Exit → Act → World → Prop} {E : Prop} (hgd : o.guard = none) (ty : TypeId) (x y : Operand) (ho : o.op = .store ty x y)
    (g : Nat) (cells : Array Value) (hx : a.eval x = .pointer (some ⟨g, 0, none⟩)) (hy : a.eval y = .agg cells)
    (t : TypeId) (old : Array Value) (hg : w.heap[g]? = some (.cells old t (0, 0))) (hi : (P.info? ty).map (·.size) = some cells.size)
    (hold : old.size = cells.size) (h1 : cells.all (·.oneCell') = true)
    (h : K (a.put o.dst undef) (w.setRow g cells)) : if Region.wanted o (yielded ops a.tmps) = true then Oper.wp P o a w K Q else E := by
  have hw : Region.wanted o (yielded ops a.tmps) = true := by simp [Region.wanted, hgd]
  rw [if_pos hw]
  exact wp_store_row ty x y ho g cells hx hy t old hg hi hold h1 h

set_option maxRecDepth 100000 in
set_option maxHeartbeats 2000000 in
theorem consts14 (w : World) :
    Calls Tryd.prog 28 #[] w fun e w' => e = .returned (.tuple #[.agg (KL true).toArray, .agg ((KL false).take 8).toArray]) ∧ Below w.heap.size w w' := by
  go_enter Tryd.func28, Tryd.ntmps28
  go_wp2_with (go_at_call 52; refine (primes15 _).mono ?_; rintro e w1 ⟨v, rfl, hown, hb⟩; obtain ⟨hA, hB, hC, hD, hbw, hsz⟩ := four_alloc hb; rw [hsz] at hown; clear hb hsz; obtain ⟨g, cap, cur, rfl, hg, hcur, htk, hcap⟩ := own_form hown; clear hown)
  have HA := Lib.hid hA; have HB := Lib.hid hB; have HC := Lib.hid hC; have HD := Lib.hid hD; have HCU := Lib.hid hcur; have HTK := Lib.hid htk; have HBW := Lib.hid hbw
  clear hA hB hC hD hcur htk hbw
  go_loopw [5] (fun b5 W => FillRel w1 (w.heap.size + 1 + 1) 34 64 (KL true) b5 W) (fun b5 _ => 64 - (intOf b5).toNat)
  case atStart => exact fill_start HC.out rfl
  case round =>
    obtain ⟨i, ks, hi, rfl, hks, hkt, hW, hgr⟩ := hrel
    by_cases hlt : i < 64
    · have hlt2 : (i : Int) < 64 := by omega
      have hcell : wr.cell? ⟨g, i, none⟩ = some (.int .u64 ((primes64.getD i 0 : Nat) : Int)) := cell_of_take ((hgr.block g (lt_of_block HCU.out) (by simp; omega)).trans HCU.out) HTK.out hlt (p64_at i hlt)
      obtain ⟨q, hq⟩ : ∃ q, q = primes64.getD i 0 := ⟨_, rfl⟩
      rw [← hq] at hcell
      obtain ⟨u1, c1⟩ := cell_of_blk hW i (by omega)
      have c2 := free_of_blk hW i
      have HR : Hid (FillRel w1 (w.heap.size + 1 + 1) 34 64 (KL true) (.int .i64 ((i : Int) + 1)) (wr.setCell ⟨w.heap.size + 1 + 1, i, none⟩ (.int .u32 (rootV true q)))) :=
        ⟨i + 1, _, by omega, by go_num, by simpa using hks, take_set_v ks (KL true) i _ (by omega) hkt (by rw [hq]; exact KL_at true i hlt), set_blk hW i _, grown_trans hgr (grown_set wr _ _ _)⟩
      clear hq hks hkt hW hgr
      go_wp2_with (go_at_call 53; refine (root16 q true _).mono ?_; rintro e w2 ⟨rfl, rfl⟩)
      go_roundw
      case rel => exact HR.out
      case measure => simp [intOf]; omega
    · have h64 : i = 64 := by omega
      have hlt2 : ¬ (i : Int) < 64 := by omega
      rw [h64] at hkt
      have hL : ks.toList = KL true := by
        have e1 : ks.toList.take 64 = ks.toList := List.take_of_length_le (by simp [hks])
        have e2 : (KL true).take 64 = KL true := List.take_of_length_le (by rw [KL_len]; omega)
        rw [← e1, hkt, e2]
      have HKS := Lib.hid hL
      have HKW := Lib.hid hW
      have HGR := Lib.hid hgr
      have HSZ := Lib.hid hks
      clear hkt hL hW hgr hks h64 hlt
      go_wp2_with fail
      clear hlt2 hi
      generalize wr = W1 at *
      have HD1 := Lib.hid ((HGR.out.block (w.heap.size + 1 + 1 + 1) (lt_of_block HD.out) (by simp)).trans HD.out)
      have HCU1 := Lib.hid ((HGR.out.block g (lt_of_block HCU.out) (by simp; omega)).trans HCU.out)
      go_loopw [6] (fun b6 W => FillRel W1 (w.heap.size + 1 + 1 + 1) 35 8 ((KL false).take 8) b6 W) (fun b6 _ => 8 - (intOf b6).toNat)
      case atStart => exact fill_start HD1.out rfl
      case round =>
        obtain ⟨i, hs, hi, rfl, hhs, hht, hW, hgr⟩ := hrel
        by_cases hlt : i < 8
        · have hlt2 : (i : Int) < 8 := by omega
          have hcell : wr.cell? ⟨g, i, none⟩ = some (.int .u64 ((primes64.getD i 0 : Nat) : Int)) := cell_of_take ((hgr.block g (lt_of_block HCU1.out) (by simp; omega)).trans HCU1.out) HTK.out (show i < 64 by omega) (p64_at i (by omega))
          obtain ⟨q, hq⟩ : ∃ q, q = primes64.getD i 0 := ⟨_, rfl⟩
          rw [← hq] at hcell
          obtain ⟨u1, c1⟩ := cell_of_blk hW i (by omega)
          have c2 := free_of_blk hW i
          have HR : Hid (FillRel W1 (w.heap.size + 1 + 1 + 1) 35 8 ((KL false).take 8) (.int .i64 ((i : Int) + 1)) (wr.setCell ⟨w.heap.size + 1 + 1 + 1, i, none⟩ (.int .u32 (rootV false q)))) :=
            ⟨i + 1, _, by omega, by go_num, by simpa using hhs, take_set_v hs ((KL false).take 8) i _ (by omega) hht (by rw [hq, List.getElem?_take, if_pos hlt]; exact KL_at false i (by omega)), set_blk hW i _, grown_trans hgr (grown_set wr _ _ _)⟩
          clear hq hhs hht hW hgr
          go_wp2_with (go_at_call 53; refine (root16 q false _).mono ?_; rintro e w2 ⟨rfl, rfl⟩)
          go_roundw
          case rel => exact HR.out
          case measure => simp [intOf]; omega
        · have h8 : i = 8 := by omega
          have hlt3 : ¬ (i : Int) < 8 := by omega
          rw [h8] at hht
          have hL : hs.toList = (KL false).take 8 := by
            have e1 : hs.toList.take 8 = hs.toList := List.take_of_length_le (by simp [hhs])
            rw [← e1, hht, List.take_take]
            rfl
          have HHS := Lib.hid hL
          have HHW := Lib.hid hW
          have HGR2 := Lib.hid hgr
          have HSZ2 := Lib.hid hhs
          clear hht hL hW hgr hhs h8 hlt
          go_wp2_with fail
          clear hlt3 hi
          generalize wr = W2 at *
          have hgk : W2.heap[w.heap.size + 1 + 1]? = some (.cells ks 34 (0, 0)) := (HGR2.out.block _ (lt_of_block HKW.out) (by simp <;> omega)).trans HKW.out
          have hg0 := (HGR2.out.block _ (by have := HGR.out.size; have := lt_of_block HA.out; omega) (by simp <;> omega)).trans ((HGR.out.block _ (lt_of_block HA.out) (by simp <;> omega)).trans HA.out)
          have hg1 := (HGR2.out.block _ (by have := HGR.out.size; have := lt_of_block HB.out; omega) (by simp <;> omega)).trans ((HGR.out.block _ (lt_of_block HB.out) (by simp <;> omega)).trans HB.out)
          have HF := Lib.hid (final_run W2 w.heap.size ks hs _ _ hg0 hg1 hgk HHW.out HSZ.out HSZ2.out rfl rfl (KL_one true ks HKS.out) (KL_one8 hs HHS.out))
          have HB1 := Lib.hid (region_below HBW.out HGR.out HGR2.out (by omega) (by omega) : Below w.heap.size w W2)
          obtain ⟨f1, f2, f3, f4, f5, f6⟩ := HF.out
          have w30 : (Tryd.prog.info? 34).map (·.size) = some ks.size := by rw [HSZ.out]; exact info30
          have w31 : (Tryd.prog.info? 35).map (·.size) = some hs.size := by rw [HSZ2.out]; exact info31
          have e1 := (setRow_other W2.drew w.heap.size (w.heap.size + 1) ks (by omega)).trans hg1
          have e31 : (W2.drew.setRow w.heap.size ks).heap[w.heap.size + 1 + 1 + 1]? = some (.cells hs 35 (0, 0)) := by rw [setRow_other _ _ _ _ (by omega)]; exact HHW.out
          obtain ⟨g5, g6⟩ := final_loads W2 w.heap.size ks hs _ _ hg0 hg1 w30 w31
          clear f1 f2 f3 f4 f5 f6 HF
          refine wp_region_any (by kernel_rfl) ?_
          change wpAny _ _ _ _ _ _ _ (World.drew _)
          refine wpAny_ready (rs := [0, 1]) (by kernel_rfl) (by simp) ?_
          refine AllReady.cons rfl (fun K hK => ?_) (AllReady.cons rfl (fun K hK => ?_) AllReady.nil)
          · refine step_load_row rfl 34 _ rfl _ rfl 34 ks (0, 0) _ hgk Tryd.underlying34 rfl w30 ?_
            refine hK _ _ ?_
            refine wpAny_ready (rs := [1, 2]) (by kernel_rfl) (by simp) ?_
            refine AllReady.cons rfl (fun K2 hK2 => ?_) (AllReady.cons rfl (fun K2 hK2 => ?_) AllReady.nil)
            · refine step_load_row rfl 35 _ rfl _ rfl 35 hs (0, 0) _ HHW.out Tryd.underlying35 rfl w31 ?_
              refine hK2 _ _ ?_
              refine wpAny_ready (rs := [2]) (by kernel_rfl) (by simp) ?_
              refine AllReady.cons rfl (fun K3 hK3 => ?_) AllReady.nil
              refine step_store_row rfl 34 _ _ rfl _ ks rfl rfl 34 _ hg0 w30 (by rw [HSZ.out]; rfl) (KL_one true ks HKS.out) ?_
              refine hK3 _ _ ?_
              refine wpAny_ready (rs := [3]) (by kernel_rfl) (by simp) ?_
              refine AllReady.cons rfl (fun K4 hK4 => ?_) AllReady.nil
              refine step_store_row rfl 35 _ _ rfl _ hs rfl rfl 35 _ e1 w31 (by rw [HSZ2.out]; rfl) (KL_one8 hs HHS.out) ?_
              refine hK4 _ _ ?_
              refine wpAny_done (by kernel_rfl) ?_ _
              go_wp2
              refine bodyPost_ret (v := .tuple #[.agg ks, .agg hs]) ?_ rfl ⟨?_, ?_⟩
              · rw [results_cell_cell rfl]; exact results_run _ _ _ _ _ rfl rfl g5 g6
              · rw [← HKS.out, ← HHS.out]
              · exact below_rows HB1.out (by omega) (by omega)
            · refine step_store_row rfl 34 _ _ rfl _ ks rfl rfl 34 _ hg0 w30 (by rw [HSZ.out]; rfl) (KL_one true ks HKS.out) ?_
              refine hK2 _ _ ?_
              refine wpAny_ready (rs := [1]) (by kernel_rfl) (by simp) ?_
              refine AllReady.cons rfl (fun K3 hK3 => ?_) AllReady.nil
              refine step_load_row rfl 35 _ rfl _ rfl 35 hs (0, 0) _ e31 Tryd.underlying35 rfl w31 ?_
              refine hK3 _ _ ?_
              refine wpAny_ready (rs := [3]) (by kernel_rfl) (by simp) ?_
              refine AllReady.cons rfl (fun K4 hK4 => ?_) AllReady.nil
              refine step_store_row rfl 35 _ _ rfl _ hs rfl rfl 35 _ e1 w31 (by rw [HSZ2.out]; rfl) (KL_one8 hs HHS.out) ?_
              refine hK4 _ _ ?_
              refine wpAny_done (by kernel_rfl) ?_ _
              go_wp2
              refine bodyPost_ret (v := .tuple #[.agg ks, .agg hs]) ?_ rfl ⟨?_, ?_⟩
              · rw [results_cell_cell rfl]; exact results_run _ _ _ _ _ rfl rfl g5 g6
              · rw [← HKS.out, ← HHS.out]
              · exact below_rows HB1.out (by omega) (by omega)
          · refine step_load_row rfl 35 _ rfl _ rfl 35 hs (0, 0) _ HHW.out Tryd.underlying35 rfl w31 ?_
            refine hK _ _ ?_
            refine wpAny_ready (rs := [0]) (by kernel_rfl) (by simp) ?_
            refine AllReady.cons rfl (fun K2 hK2 => ?_) AllReady.nil
            refine step_load_row rfl 34 _ rfl _ rfl 34 ks (0, 0) _ hgk Tryd.underlying34 rfl w30 ?_
            refine hK2 _ _ ?_
            refine wpAny_ready (rs := [2]) (by kernel_rfl) (by simp) ?_
            refine AllReady.cons rfl (fun K3 hK3 => ?_) AllReady.nil
            refine step_store_row rfl 34 _ _ rfl _ ks rfl rfl 34 _ hg0 w30 (by rw [HSZ.out]; rfl) (KL_one true ks HKS.out) ?_
            refine hK3 _ _ ?_
            refine wpAny_ready (rs := [3]) (by kernel_rfl) (by simp) ?_
            refine AllReady.cons rfl (fun K4 hK4 => ?_) AllReady.nil
            refine step_store_row rfl 35 _ _ rfl _ hs rfl rfl 35 _ e1 w31 (by rw [HSZ2.out]; rfl) (KL_one8 hs HHS.out) ?_
            refine hK4 _ _ ?_
            refine wpAny_done (by kernel_rfl) ?_ _
            go_wp2
            refine bodyPost_ret (v := .tuple #[.agg ks, .agg hs]) ?_ rfl ⟨?_, ?_⟩
            · rw [results_cell_cell rfl]; exact results_run _ _ _ _ _ rfl rfl g5 g6
            · rw [← HKS.out, ← HHS.out]
            · exact below_rows HB1.out (by omega) (by omega)
end Go.Proofs.YtipaicfmodgcoaaDoor
