/- The program's disk in memory; what only asks it. -/
import Derived.Test.YtcedkilgfoiifaaDkP8
import Derived.Test.YtcedkilgfoiifaaDkLaw
import Derived.Test.YtcedkilgfoiifaaDkNone
namespace Go.Proofs.Ytcedkilgfoiifaa
open Go.RowKit Base Base2

/-- What is pending, written in order. -/
def applyP (kept : List FileT) (pend : List WriteT) : List FileT := pend.foldl (fun l p => putF l p.1 p.2.1 p.2.2) kept
theorem applyP_snoc (kept : List FileT) (pend : List WriteT) (p : WriteT) : applyP kept (pend ++ [p]) = putF (applyP kept pend) p.1 p.2.1 p.2.2 := by simp [applyP]
/-- A closure of a write, and the cells that it holds. -/
def funW (q1 q2 q3 : Nat) : Value := .func (.func 47) #[] #[.pointer (some ⟨q1, 0, none⟩), .pointer (some ⟨q2, 0, none⟩), .pointer (some ⟨q3, 0, none⟩)]
def CellsW (W : World) (q1 q2 q3 : Nat) (p : WriteT) : Prop := W.heap[q1]? = some (.cells #[.string p.1] 9 (0, 0)) ∧ W.heap[q2]? = some (.cells #[.int .i64 (p.2.1 : Int)] 3 (0, 0)) ∧ W.heap[q3]? = some (.cells #[.string p.2.2] 9 (0, 0))
theorem CellsW.frame {W W' : World} {F : Nat → Prop} {q1 q2 q3 : Nat} {p : WriteT} (h : CellsW W q1 q2 q3 p) (hf : FrameM F W W') : CellsW W' q1 q2 q3 p := cells3_frame hf h
theorem CellsW.keep {W W' : World} {q1 q2 q3 : Nat} {p : WriteT} (h : CellsW W q1 q2 q3 p) (h1 : W'.heap[q1]? = W.heap[q1]?) (h2 : W'.heap[q2]? = W.heap[q2]?) (h3 : W'.heap[q3]? = W.heap[q3]?) : CellsW W' q1 q2 q3 p := ⟨h1.trans h.1, h2.trans h.2.1, h3.trans h.2.2⟩
/-- The row of what is pending. -/
structure PendR (W : World) (F : Nat → Prop) (v : Value) (fs : List Value) (l : List WriteT) : Prop where
  own : W.ownsRow 0 71 1 v l.length fs
  row : ∀ k, v.ownBlock = some k → F k
  fun_ : ∀ (i : Nat) (p : WriteT), l[i]? = some p → ∃ q1 q2 q3, fs[i]? = some (funW q1 q2 q3) ∧ CellsW W q1 q2 q3 p ∧ F q1 ∧ F q2 ∧ F q3
theorem own_heap {W W' : World} {base n : Nat} {e : TypeId} {sz : Nat} {v : Value} {xs : List Value} (h : W.ownsRow base e sz v n xs) (hb : ∀ k, v.ownBlock = some k → k < W.heap.size → W'.heap[k]? = W.heap[k]?) : W'.ownsRow base e sz v n xs := by
  obtain ⟨h1, h2⟩ := h
  refine ⟨h1, ?_⟩
  rcases h2 with h2 | ⟨g, cap, cur, rfl, a1, a2, a3⟩
  · exact .inl h2
  · exact .inr ⟨g, cap, cur, rfl, a1, (hb g rfl (lt_of_blkD a2)).trans a2, a3⟩
theorem own_row {W : World} {base n : Nat} {e : TypeId} {sz : Nat} {v : Value} {xs : List Value} (h : W.ownsRow base e sz v n xs) : ∀ k, v.ownBlock = some k → ∃ cur, W.heap[k]? = some (.cells cur e (0, 0)) := by
  obtain ⟨h1, h2⟩ := h
  rcases h2 with ⟨rfl, _⟩ | ⟨g, cap, cur, rfl, a1, a2, a3⟩
  · intro k hk; cases hk
  · intro k hk; obtain rfl : g = k := by simpa [Value.ownBlock] using hk
    exact ⟨cur, a2⟩
theorem PendR.keep {W W' : World} {F F' : Nat → Prop} {v : Value} {fs : List Value} {l : List WriteT} (h : PendR W F v fs l) (hb : ∀ k, k < W.heap.size → F k → W'.heap[k]? = W.heap[k]?) (hF : ∀ k, F k → F' k) : PendR W' F' v fs l := by
  refine ⟨own_heap h.own (fun k hk hlt => hb k hlt (h.row k hk)), fun k hk => hF k (h.row k hk), fun i p hi => ?_⟩
  obtain ⟨q1, q2, q3, e, hc, f1, f2, f3⟩ := h.fun_ i p hi
  exact ⟨q1, q2, q3, e, hc.keep (hb _ (lt_of_blkD hc.1) f1) (hb _ (lt_of_blkD hc.2.1) f2) (hb _ (lt_of_blkD hc.2.2) f3), hF _ f1, hF _ f2, hF _ f3⟩
theorem PendR.frame {W W' : World} {F F' G : Nat → Prop} {v : Value} {fs : List Value} {l : List WriteT} (h : PendR W F v fs l) (hf : FrameM G W W') (hF : ∀ k, F k → F' k) : PendR W' F' v fs l := by
  refine ⟨own_heap h.own (fun k hk _ => ?_), fun k hk => hF k (h.row k hk), fun i p hi => ?_⟩
  · obtain ⟨cur, hc⟩ := own_row h.own k hk
    exact (hf.block k _ hc (fun h => by cases h)).trans hc.symm
  · obtain ⟨q1, q2, q3, e, hc, f1, f2, f3⟩ := h.fun_ i p hi
    exact ⟨q1, q2, q3, e, hc.frame hf, hF _ f1, hF _ f2, hF _ f3⟩
def dC (m1 m2 : Nat) (pa : Option Addr) (pc : Nat) (d : DkT) : Array Value := #[.map (some m1), .map (some m2), .slice pa d.pend.length pc, .int .i64 (usedF d.stands : Int), .int .i64 d.room]
/-- The program's disk at a block. -/
structure PDh (W : World) (b : Nat) (F : Nat → Prop) (d : DkT) (m1 m2 : Nat) (F1 F2 : Nat → Prop) (pa : Option Addr) (pc : Nat) (fs : List Value) : Prop where
  blk : W.heap[b]? = some (.cells (dC m1 m2 pa pc d) 66 (0, 0))
  M1 : MapAt W F1 m1 (readF d.stands)
  M2 : MapAt W F2 m2 (readF d.kept)
  dis : ∀ k, F1 k → ¬ F2 k
  s1 : ∀ k, F1 k → F k
  s2 : ∀ k, F2 k → F k
  sb : F b
  pe : PendR W F (.slice pa d.pend.length pc) fs d.pend
  inv : d.stands = applyP d.kept d.pend
  lt : ∀ k, F k → k < W.heap.size
def PDx (W : World) (b : Nat) (F : Nat → Prop) (d : DkT) : Prop := ∃ m1 m2 F1 F2 pa pc fs, PDh W b F d m1 m2 F1 F2 pa pc fs
theorem PDh.keep {W W' : World} {b : Nat} {F : Nat → Prop} {d : DkT} {m1 m2 : Nat} {F1 F2 : Nat → Prop} {pa : Option Addr} {pc : Nat} {fs : List Value} (h : PDh W b F d m1 m2 F1 F2 pa pc fs) (hs : W.heap.size ≤ W'.heap.size) (hb : ∀ k, k < W.heap.size → F k → W'.heap[k]? = W.heap[k]?) : PDh W' b F d m1 m2 F1 F2 pa pc fs :=
  ⟨(hb b (lt_of_blkD h.blk) h.sb).trans h.blk, h.M1.keep (fun k hk hf => hb k hk (h.s1 k hf)) (fun _ h => h), h.M2.keep (fun k hk hf => hb k hk (h.s2 k hf)) (fun _ h => h), h.dis, h.s1, h.s2, h.sb, h.pe.keep hb (fun _ h => h), h.inv, fun k hk => Nat.lt_of_lt_of_le (h.lt k hk) hs⟩
theorem pdx_mono {W W' : World} {b : Nat} {F : Nat → Prop} {d : DkT} (h : PDx W b F d) (hs : W.heap.size ≤ W'.heap.size) (hb : ∀ k, k < W.heap.size → F k → W'.heap[k]? = W.heap[k]?) : PDx W' b F d := by
  obtain ⟨m1, m2, F1, F2, pa, pc, fs, h⟩ := h
  exact ⟨m1, m2, F1, F2, pa, pc, fs, h.keep hs hb⟩
theorem pdx_lt {W : World} {b : Nat} {F : Nat → Prop} {d : DkT} (h : PDx W b F d) : ∀ k, F k → k < W.heap.size := by
  obtain ⟨m1, m2, F1, F2, pa, pc, fs, h⟩ := h
  exact h.lt
theorem used_bound {d : DkT} (h : PlayOk 200 d) : usedF d.stands ≤ 209715200 := by
  have := maxF_used d.stands h.ms; have := h.ls; omega
set_option maxRecDepth 100000 in
theorem pending24 {W : World} {b : Nat} {F : Nat → Prop} {d : DkT} (h : PDx W b F d) (_ : PlayOk 200 d) : Calls Try.prog 24 #[.pointer (some ⟨b, 0, none⟩)] W fun e w' => e = .returned (.int .i64 (d.pend.length : Int)) ∧ Below W.heap.size W w' := by
  obtain ⟨m1, m2, F1, F2, pa, pc, fs, h⟩ := h
  have hc := cellP h.blk 2 (.slice pa d.pend.length pc) rfl
  clear h
  go_enter Try.func24, Try.ntmps24
  go_wp2
  go_ret
  exact ⟨rfl, Below.refl _ _⟩
set_option maxRecDepth 100000 in
theorem used28 {W : World} {b : Nat} {F : Nat → Prop} {d : DkT} (h : PDx W b F d) (_ : PlayOk 200 d) : Calls Try.prog 28 #[.pointer (some ⟨b, 0, none⟩)] W fun e w' => e = .returned (.int .i64 (usedF d.stands : Int)) ∧ Below W.heap.size W w' := by
  obtain ⟨m1, m2, F1, F2, pa, pc, fs, h⟩ := h
  have hc := cellP h.blk 3 (.int .i64 (usedF d.stands : Int)) rfl
  clear h
  go_enter Try.func28, Try.ntmps28
  go_wp2
  go_ret
  exact ⟨rfl, Below.refl _ _⟩
set_option maxRecDepth 100000 in
theorem room29n {W : World} {b : Nat} {F : Nat → Prop} {d : DkT} (h : PDx W b F d) (hp : PlayOk 200 d) : Calls Try.prog 29 #[.pointer (some ⟨b, 0, none⟩)] W fun e w' => e = .returned (.int .i64 (d.room - (usedF d.stands : Int))) ∧ ∃ n, w' = W.drewN n := by
  obtain ⟨m1, m2, F1, F2, pa, pc, fs, h⟩ := h
  have hu := used_bound hp
  have hr0 := hp.rm0; have hr1 := hp.rm1
  have hc := cellP h.blk 3 (.int .i64 (usedF d.stands : Int)) rfl
  have hc4 := cellP h.blk 4 (.int .i64 d.room) rfl
  clear h
  have hw : IntKind.i64.wrap (d.room - (usedF d.stands : Int)) = d.room - (usedF d.stands : Int) := IntWalk.i64_in _ (by omega)
  go_enter Try.func29, Try.ntmps29
  go_upto_region 3 with (fail)
  go_quiet (fail)
  go_wp2
  go_ret
  exact ⟨rfl, nq, rfl⟩
theorem room29 {W : World} {b : Nat} {F : Nat → Prop} {d : DkT} (h : PDx W b F d) (hp : PlayOk 200 d) : Calls Try.prog 29 #[.pointer (some ⟨b, 0, none⟩)] W fun e w' => e = .returned (.int .i64 (d.room - (usedF d.stands : Int))) ∧ Below W.heap.size W w' := by
  refine (room29n h hp).mono ?_
  rintro e w' ⟨rfl, n, rfl⟩
  exact ⟨rfl, below_drews n⟩
set_option maxRecDepth 100000 in
theorem files26 {W : World} {b : Nat} {F : Nat → Prop} {d : DkT} (h : PDx W b F d) (hp : PlayOk 200 d) : Calls Try.prog 26 #[.pointer (some ⟨b, 0, none⟩)] W fun e w' => (∃ a c, e = .returned (.slice a d.stands.length c) ∧ FilesAt w' a d.stands) ∧ Below W.heap.size W w' := by
  obtain ⟨m1, m2, F1, F2, pa, pc, fs, h⟩ := h
  have hc := cellP h.blk 0 (.map (some m1)) rfl
  have HC := Lib.hid (list44 m1 F1 d.stands W h.M1 (by have := hp.ls; omega) hp.rs hp.gs hp.ms)
  clear h
  go_enter Try.func26, Try.ntmps26
  go_wp2_with (go_at_call 44; refine HC.out.mono ?_; rintro e w1 ⟨⟨a, c, rfl, hf⟩, hb⟩; have HF := Lib.hid hf; have HB := Lib.hid hb; clear hf hb)
  go_ret
  exact ⟨⟨a, c, rfl, HF.out⟩, HB.out⟩
set_option maxRecDepth 100000 in
theorem kept27 {W : World} {b : Nat} {F : Nat → Prop} {d : DkT} (h : PDx W b F d) (hp : PlayOk 200 d) : Calls Try.prog 27 #[.pointer (some ⟨b, 0, none⟩)] W fun e w' => (∃ a c, e = .returned (.slice a d.kept.length c) ∧ FilesAt w' a d.kept) ∧ Below W.heap.size W w' := by
  obtain ⟨m1, m2, F1, F2, pa, pc, fs, h⟩ := h
  have hc := cellP h.blk 1 (.map (some m2)) rfl
  have HC := Lib.hid (list44 m2 F2 d.kept W h.M2 (by have := hp.lk; omega) hp.rk hp.gk hp.mkp)
  clear h
  go_enter Try.func27, Try.ntmps27
  go_wp2_with (go_at_call 44; refine HC.out.mono ?_; rintro e w1 ⟨⟨a, c, rfl, hf⟩, hb⟩; have HF := Lib.hid hf; have HB := Lib.hid hb; clear hf hb)
  go_ret
  exact ⟨⟨a, c, rfl, HF.out⟩, HB.out⟩
theorem conv_val (W : World) (g : Nat × Nat) (s : ByteArray) (h : s.size ≠ 0 → BytsAt W g s) : (convert 72 9 (valB g s)).run Try.prog W = .ok (.string s) W := by
  unfold valB
  split
  · rename_i h0
    rw [empty_of_size h0]; kernel_rfl
  · rename_i h0; exact conv_text W g s (h h0)
/-- A map's look-up, its value's text. -/
theorem look_text {W : World} {F : Nat → Prop} {m : Nat} {r : ByteArray → ByteArray} (h : MapAt W F m r) (s : ByteArray) (hs : s.size ≤ maxLen) : ∃ v, (Instr.lookup 63 (.map (some m)) (.string s) false).run Try.prog W = .ok v W ∧ (convert 72 9 v).run Try.prog W = .ok (.string (r s)) W := by
  obtain ⟨D, G, h⟩ := h
  exact ⟨_, h.look s hs, conv_val W (G s) (r s) (fun h0 => h.byt s h0)⟩
set_option maxRecDepth 100000 in
theorem read22 {W : World} {b : Nat} {F : Nat → Prop} {d : DkT} (name : ByteArray) (h : PDx W b F d) (_ : PlayOk 200 d) (hn : name.size ≤ maxLen) : Calls Try.prog 22 #[.pointer (some ⟨b, 0, none⟩), .string name] W fun e w' => e = .returned (.string (readF d.stands name)) ∧ Below W.heap.size W w' := by
  obtain ⟨m1, m2, F1, F2, pa, pc, fs, h⟩ := h
  have hc := cellP h.blk 0 (.map (some m1)) rfl
  obtain ⟨v, h1, h2⟩ := look_text h.M1 name hn
  clear h hn
  go_enter Try.func22, Try.ntmps22
  go_wp2
  go_ret
  exact ⟨rfl, Below.refl _ _⟩
set_option maxRecDepth 100000 in
theorem nil_write (name s : ByteArray) (pl : Int) (W : World) : Calls Try.prog 19 #[.pointer none, .string name, .int .i64 pl, .string s] W fun e w' => e = .returned (.int .i64 1) ∧ Below W.heap.size W w' := by
  go_enter Try.func19, Try.ntmps19
  go_wp2
  go_ret
  exact ⟨rfl, Below.refl _ _⟩
set_option maxRecDepth 100000 in
theorem nil_sync (W : World) : Calls Try.prog 12 #[.pointer none] W fun e w' => e = .returned (.int .i64 1) ∧ Below W.heap.size W w' := by
  go_enter Try.func12, Try.ntmps12
  go_wp2
  go_ret
  exact ⟨rfl, Below.refl _ _⟩
set_option maxRecDepth 100000 in
theorem nil_cut (name : ByteArray) (n : Int) (W : World) : Calls Try.prog 14 #[.pointer none, .string name, .int .i64 n] W fun e w' => e = .returned (.int .i64 1) ∧ Below W.heap.size W w' := by
  go_enter Try.func14, Try.ntmps14
  go_wp2
  go_ret
  exact ⟨rfl, Below.refl _ _⟩
set_option maxRecDepth 100000 in
theorem nil_read (name : ByteArray) (W : World) : Calls Try.prog 22 #[.pointer none, .string name] W fun e w' => e = .returned (.string ⟨#[]⟩) ∧ Below W.heap.size W w' := by
  go_enter Try.func22, Try.ntmps22
  go_wp2
  go_ret
  exact ⟨rfl, Below.refl _ _⟩
set_option maxRecDepth 100000 in
theorem nil_files (W : World) : Calls Try.prog 26 #[.pointer none] W fun e w' => e = .returned (.slice none 0 0) ∧ Below W.heap.size W w' := by
  go_enter Try.func26, Try.ntmps26
  go_wp2
  go_ret
  exact ⟨rfl, Below.refl _ _⟩
set_option maxRecDepth 100000 in
theorem nil_kept (W : World) : Calls Try.prog 27 #[.pointer none] W fun e w' => e = .returned (.slice none 0 0) ∧ Below W.heap.size W w' := by
  go_enter Try.func27, Try.ntmps27
  go_wp2
  go_ret
  exact ⟨rfl, Below.refl _ _⟩
set_option maxRecDepth 100000 in
theorem nil_used (W : World) : Calls Try.prog 28 #[.pointer none] W fun e w' => e = .returned (.int .i64 0) ∧ Below W.heap.size W w' := by
  go_enter Try.func28, Try.ntmps28
  go_wp2
  go_ret
  exact ⟨rfl, Below.refl _ _⟩
set_option maxRecDepth 100000 in
theorem nil_room (W : World) : Calls Try.prog 29 #[.pointer none] W fun e w' => e = .returned (.int .i64 0) ∧ Below W.heap.size W w' := by
  go_enter Try.func29, Try.ntmps29
  go_wp2
  go_ret
  exact ⟨rfl, Below.refl _ _⟩
set_option maxRecDepth 100000 in
theorem nil_pend (W : World) : Calls Try.prog 24 #[.pointer none] W fun e w' => e = .returned (.int .i64 0) ∧ Below W.heap.size W w' := by
  go_enter Try.func24, Try.ntmps24
  go_wp2
  go_ret
  exact ⟨rfl, Below.refl _ _⟩
set_option maxRecDepth 100000 in
theorem nil_crash (f : Value) (W : World) : Calls Try.prog 16 #[.pointer none, f] W fun e w' => e = .returned (.int .i64 1) ∧ Below W.heap.size W w' := by
  go_enter Try.func16, Try.ntmps16
  go_wp2
  go_ret
  exact ⟨rfl, Below.refl _ _⟩
theorem progN : ProgN :=
  ⟨fun n s p W => nil_write n s p W, fun W => nil_sync W, fun n k W => nil_cut n k W, fun n W => nil_read n W, fun W => (nil_files W).mono (fun _ _ h => ⟨⟨none, 0, h.1⟩, h.2⟩), fun W => (nil_kept W).mono (fun _ _ h => ⟨⟨none, 0, h.1⟩, h.2⟩), fun W => nil_used W, fun W => nil_room W, fun W => nil_pend W, fun f W => nil_crash f W⟩
end Go.Proofs.Ytcedkilgfoiifaa
