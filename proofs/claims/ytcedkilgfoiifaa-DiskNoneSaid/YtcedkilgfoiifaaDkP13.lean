/- The program's Cut. -/
import Derived.Test.YtcedkilgfoiifaaDkP12
namespace Go.Proofs.Ytcedkilgfoiifaa
open Go.RowKit Base Base2

set_option maxRecDepth 100000 in
set_option maxHeartbeats 4000000 in
theorem cut14s {W : World} {b : Nat} {F : Nat → Prop} {d : DkT} {m1 m2 : Nat} {F1 F2 : Nat → Prop} {pa : Option Addr} {pc : Nat} {fs : List Value} (name : ByteArray) (n : Int) (h : PDh W b F d m1 m2 F1 F2 pa pc fs) (hs : d.pend.length ≠ 0) :
    Calls Try.prog 14 #[.pointer (some ⟨b, 0, none⟩), .string name, .int .i64 n] W fun e w' => e = .returned (.int .i64 8) ∧ w' = W := by
  have hq := cellP h.blk 2 (.slice pa d.pend.length pc) rfl
  have h0 : 0 < d.pend.length := by omega
  clear h hs
  go_enter Try.func14, Try.ntmps14
  go_wp2
  go_ret
  exact ⟨rfl, rfl⟩
set_option maxRecDepth 100000 in
set_option maxHeartbeats 4000000 in
theorem cut14a {W : World} {b : Nat} {F : Nat → Prop} {d : DkT} {m1 m2 : Nat} {F1 F2 : Nat → Prop} {pa : Option Addr} {pc : Nat} {fs : List Value} (name : ByteArray) (n : Int) (h : PDh W b F d m1 m2 F1 F2 pa pc fs) (hs : d.pend.length = 0) (hn : n < 0) :
    Calls Try.prog 14 #[.pointer (some ⟨b, 0, none⟩), .string name, .int .i64 n] W fun e w' => e = .returned (.int .i64 1) ∧ w' = W := by
  have hq := cellP h.blk 2 (.slice pa d.pend.length pc) rfl
  rw [hs] at hq
  clear h hs
  go_enter Try.func14, Try.ntmps14
  go_wp2
  go_ret
  exact ⟨rfl, rfl⟩
set_option maxRecDepth 100000 in
set_option maxHeartbeats 4000000 in
theorem cut14o {W : World} {b : Nat} {F : Nat → Prop} {d : DkT} {m1 m2 : Nat} {F1 F2 : Nat → Prop} {pa : Option Addr} {pc : Nat} {fs : List Value} (name : ByteArray) (k : Nat) (h : PDh W b F d m1 m2 F1 F2 pa pc fs) (hp : PlayOk 200 d) (hn : name.size ≤ 100) (hs : d.pend.length = 0) (hk : (k : Int) ≤ 9223372036854775807) :
    Calls Try.prog 14 #[.pointer (some ⟨b, 0, none⟩), .string name, .int .i64 (k : Int)] W fun e w' => e = .returned (.int .i64 0) ∧ ∃ w1 w2, w1 = (W.setCell ⟨b, 3, none⟩ (.int .i64 ((usedF d.stands : Int) - max 0 (((readF d.stands name).size : Int) - (k : Int))))).drew ∧
      MapAt w2 (More F1 w1.heap.size w2.heap.size) m1 (cutR (readF d.stands) name k) ∧ FrameM F1 w1 w2 ∧ MapAt w' (More F2 w2.heap.size w'.heap.size) m2 (cutR (readF d.kept) name k) ∧ FrameM F2 w2 w' := by
  have hq := cellP h.blk 2 (.slice pa d.pend.length pc) rfl
  rw [hs] at hq
  have HP := Lib.hid h
  have hu := used_bound hp
  have hH0 := maxF_read hp.ms name
  obtain ⟨D, G, hG⟩ := h.M1
  obtain ⟨ha, hc, hval⟩ := val_slice (G name) (readF d.stands name)
  have hlkG : ∀ W', (∀ (k : Nat) (o : Obj), W.heap[k]? = some o → isMB o = true → W'.heap[k]? = some o) → (Instr.lookup 63 (.map (some m1)) (.string name) false).run Try.prog W' = .ok (.slice ha (readF d.stands name).size hc) W' := fun W' hw => by
    have := (hG.keepT (W' := W') (F' := F1) (fun k o ho hi _ => hw k o ho hi) (fun _ h => h)).look name (by unfold maxLen; omega)
    rw [← hval]; exact this
  have hq3 := cellP h.blk 3 (.int .i64 (usedF d.stands : Int)) rfl
  have hfr3 := free_of_blkN h.blk 3
  have hmk : ∀ v, MapAt ((W.setCell ⟨b, 3, none⟩ v).drew) F1 m1 (readF d.stands) := fun v => h.M1.keepT (fun k o ho hi _ => by
    have hkb : k ≠ b := fun e => by rw [e, h.blk] at ho; cases ho; cases hi
    exact (heap_setCell_ne v hkb).trans ho) (fun _ h => h)
  have hmk2 : ∀ v, MapAt ((W.setCell ⟨b, 3, none⟩ v).drew) F2 m2 (readF d.kept) := fun v => h.M2.keepT (fun k o ho hi _ => by
    have hkb : k ≠ b := fun e => by rw [e, h.blk] at ho; cases ho; cases hi
    exact (heap_setCell_ne v hkb).trans ho) (fun _ h => h)
  obtain ⟨H, hH⟩ : ∃ n, (readF d.stands name).size = n := ⟨_, rfl⟩
  obtain ⟨U, hU⟩ : ∃ n, usedF d.stands = n := ⟨_, rfl⟩
  obtain ⟨X, hX⟩ : ∃ x, max (0 : Int) ((H : Int) - (k : Int)) = x := ⟨_, rfl⟩
  have hX0 : 0 ≤ X := by omega
  have hX1 : X ≤ 1048576 := by omega
  rw [hH] at hlkG hH0 ⊢
  rw [hU] at hq3 hu ⊢
  rw [hX]
  have hb1 : (W.setCell ⟨b, 3, none⟩ (.int .i64 ((U : Int) - X))).drew.heap[b]? = _ := set_blkN (W := W) h.blk 3 (.int .i64 ((U : Int) - X))
  have HB1 := Lib.hid hb1
  have hq1 := cellP hb1 0 (.map (some m1)) rfl
  have HSE : Hid (((W.setCell ⟨b, 3, none⟩ (.int .i64 ((U : Int) - X))).drew).cell? ⟨b, 0, none⟩ = some (.map (some m1)) ∧ (Instr.lookup 63 (.map (some m1)) (.string name) false).run Try.prog ((W.setCell ⟨b, 3, none⟩ (.int .i64 ((U : Int) - X))).drew) = .ok (.slice ha H hc) ((W.setCell ⟨b, 3, none⟩ (.int .i64 ((U : Int) - X))).drew)) := ⟨hq1, hlkG _ (fun k o ho hi => by
    have hkb : k ≠ b := fun e => by rw [e, h.blk] at ho; cases ho; cases hi
    exact (heap_setCell_ne _ hkb).trans ho)⟩
  have HS0 : Hid (W.drew.cell? ⟨b, 0, none⟩ = some (.map (some m1)) ∧ (Instr.lookup 63 (.map (some m1)) (.string name) false).run Try.prog W.drew = .ok (.slice ha H hc) W.drew) := ⟨cellP (W := W.drew) h.blk 0 (.map (some m1)) rfl, hlkG _ (fun _ _ h _ => h)⟩
  have HW1 : Hid (IntKind.i64.wrap ((H : Int) - (k : Int)) = (H : Int) - (k : Int)) := IntWalk.i64_in _ (by omega)
  have HW2 : Hid (IntKind.i64.wrap ((U : Int) - X) = (U : Int) - X) := IntWalk.i64_in _ (by omega)
  have HC1 := Lib.hid (cut37 m1 F1 (readF d.stands) name k _ (hmk (.int .i64 ((U : Int) - X))) (d.stands.map (fun f => f.1)) (fun s hs => readF_names hs) (by have := hp.ls; simp; omega) hn hk)
  have HC2 := Lib.hid (fun W2 hm => cut37 m2 F2 (readF d.kept) name k W2 hm (d.kept.map (fun f => f.1)) (fun s hs => readF_names hs) (by have := hp.lk; simp; omega) hn hk)
  have HM2 := Lib.hid (hmk2 (.int .i64 ((U : Int) - X)))
  clear hmk hmk2 hb1 h hU hH hp hs hG hval hlkG
  go_enter Try.func14, Try.ntmps14
  go_upto_region 7 with (fail)
  refine wp_region_held_drew (S := fun W' => W'.cell? ⟨b, 0, none⟩ = some (.map (some m1)) ∧ (Instr.lookup 63 (.map (some m1)) (.string name) false).run Try.prog W' = .ok (.slice ha H hc) W') (by kernel_rfl) (HS0.out) (fun hS => ?_)
  refine wpAnyH_take (i := 0) (v := .pointer (some ⟨b, 0, none⟩)) rfl (by kernel_rfl) (by kernel_rfl) (by kernel_rfl) (fun _ _ _ h => h) (Or.inl ⟨by simp [Region.wanted], fun W _ => by go_simp⟩) hS ?_
  simp only [List.getElem_toArray, List.getElem_cons_zero, Act.put, List.setIfInBounds_toArray, List.set_cons_zero, List.set_cons_succ]
  refine wpAnyH_take (i := 1) (v := .pointer (some ⟨b, 0, none⟩)) rfl (by kernel_rfl) (by kernel_rfl) (by kernel_rfl) (fun _ _ _ h => h) (Or.inl ⟨by simp [Region.wanted], fun W _ => by go_simp⟩) hS ?_
  simp only [List.getElem_toArray, List.getElem_cons_zero, List.getElem_cons_succ, Act.put, List.setIfInBounds_toArray, List.set_cons_zero, List.set_cons_succ]
  refine wpAnyH_take (i := 2) (v := .pointer (some ⟨b, 3, none⟩)) rfl (by kernel_rfl) (by kernel_rfl) (by kernel_rfl) (fun _ _ _ h => h) (Or.inl ⟨by simp [Region.wanted], fun W _ => by go_simp⟩) hS ?_
  simp only [List.getElem_toArray, List.getElem_cons_zero, List.getElem_cons_succ, Act.put, List.setIfInBounds_toArray, List.set_cons_zero, List.set_cons_succ]
  refine wpAnyH_take (i := 4) (v := .pointer (some ⟨b, 0, none⟩)) rfl (by kernel_rfl) (by kernel_rfl) (by kernel_rfl) (fun _ _ _ h => h) (Or.inl ⟨by simp [Region.wanted], fun W _ => by go_simp⟩) hS ?_
  simp only [List.getElem_toArray, List.getElem_cons_zero, List.getElem_cons_succ, Act.put, List.setIfInBounds_toArray, List.set_cons_zero, List.set_cons_succ]
  refine wpAnyH_take (i := 5) (v := .pointer (some ⟨b, 0, none⟩)) rfl (by kernel_rfl) (by kernel_rfl) (by kernel_rfl) (fun _ _ _ h => h) (Or.inl ⟨by simp [Region.wanted], fun W _ => by go_simp⟩) hS ?_
  simp only [List.getElem_toArray, List.getElem_cons_zero, List.getElem_cons_succ, Act.put, List.setIfInBounds_toArray, List.set_cons_zero, List.set_cons_succ]
  refine wpAnyH_take (i := 6) (v := .pointer (some ⟨b, 0, none⟩)) rfl (by kernel_rfl) (by kernel_rfl) (by kernel_rfl) (fun _ _ _ h => h) (Or.inl ⟨by simp [Region.wanted], fun W _ => by go_simp⟩) hS ?_
  simp only [List.getElem_toArray, List.getElem_cons_zero, List.getElem_cons_succ, Act.put, List.setIfInBounds_toArray, List.set_cons_zero, List.set_cons_succ]
  refine wpAnyH_take (i := 7) (v := .map (some m1)) rfl (by kernel_rfl) (by kernel_rfl) (by kernel_rfl) (fun _ _ _ h => h) (Or.inl ⟨by simp [Region.wanted], fun W hW => by have hq := hW.1; go_simp⟩) hS ?_
  simp only [List.getElem_toArray, List.getElem_cons_zero, List.getElem_cons_succ, Act.put, List.setIfInBounds_toArray, List.set_cons_zero, List.set_cons_succ]
  refine wpAnyH_take (i := 8) (v := .string name) rfl (by kernel_rfl) (by kernel_rfl) (by kernel_rfl) (fun _ _ _ h => h) (Or.inl ⟨by simp [Region.wanted], fun W _ => by go_simp⟩) hS ?_
  simp only [List.getElem_toArray, List.getElem_cons_zero, List.getElem_cons_succ, Act.put, List.setIfInBounds_toArray, List.set_cons_zero, List.set_cons_succ]
  refine wpAnyH_take (i := 9) (v := .slice ha H hc) rfl (by kernel_rfl) (by kernel_rfl) (by kernel_rfl) (fun _ _ _ h => h) (Or.inl ⟨by simp [Region.wanted], fun W hW => by have hq := hW.2; go_simp⟩) hS ?_
  simp only [List.getElem_toArray, List.getElem_cons_zero, List.getElem_cons_succ, Act.put, List.setIfInBounds_toArray, List.set_cons_zero, List.set_cons_succ]
  refine wpAnyH_take (i := 10) (v := .int .i64 (H : Int)) rfl (by kernel_rfl) (by kernel_rfl) (by kernel_rfl) (fun _ _ _ h => h) (Or.inl ⟨by simp [Region.wanted], fun W _ => by go_simp⟩) hS ?_
  simp only [List.getElem_toArray, List.getElem_cons_zero, List.getElem_cons_succ, Act.put, List.setIfInBounds_toArray, List.set_cons_zero, List.set_cons_succ]
  refine wpAnyH_take (i := 11) (v := .int .i64 (k : Int)) rfl (by kernel_rfl) (by kernel_rfl) (by kernel_rfl) (fun _ _ _ h => h) (Or.inl ⟨by simp [Region.wanted], fun W _ => by go_simp⟩) hS ?_
  simp only [List.getElem_toArray, List.getElem_cons_zero, List.getElem_cons_succ, Act.put, List.setIfInBounds_toArray, List.set_cons_zero, List.set_cons_succ]
  refine wpAnyH_take (i := 12) (v := .int .i64 ((H : Int) - (k : Int))) rfl (by kernel_rfl) (by kernel_rfl) (by kernel_rfl) (fun _ _ _ h => h) (Or.inl ⟨by simp [Region.wanted], fun W _ => by go_simp; exact HW1.out⟩) hS ?_
  simp only [List.getElem_toArray, List.getElem_cons_zero, List.getElem_cons_succ, Act.put, List.setIfInBounds_toArray, List.set_cons_zero, List.set_cons_succ]
  refine wpAnyH_take (i := 13) (v := .int .i64 X) rfl (by kernel_rfl) (by kernel_rfl) (by kernel_rfl) (fun _ _ _ h => h) (Or.inl ⟨by simp [Region.wanted], fun W _ => by go_simp⟩) hS ?_
  simp only [List.getElem_toArray, List.getElem_cons_zero, List.getElem_cons_succ, Act.put, List.setIfInBounds_toArray, List.set_cons_zero, List.set_cons_succ]
  refine wpAnyH_ready (rs := [3]) (by kernel_rfl) (by simp) ?_
  refine AllReadyH.cons rfl (fun K1 hK1 => ?_) AllReadyH.nil
  refine wanted_go rfl ?_
  simp only [List.getElem_toArray, List.getElem_cons_zero, List.getElem_cons_succ]
  go_wp2
  refine hK1.out _ _ hS (fun _ => ?_)
  refine wpAnyH_take (i := 14) (v := .int .i64 ((U : Int) - X)) rfl (by kernel_rfl) (by kernel_rfl) (by kernel_rfl) (fun _ _ _ h => h) (Or.inl ⟨by simp [Region.wanted], fun W _ => by go_simp; exact HW2.out⟩) hS ?_
  simp only [List.getElem_toArray, List.getElem_cons_zero, List.getElem_cons_succ, Act.put, List.setIfInBounds_toArray, List.set_cons_zero, List.set_cons_succ]
  refine wpAnyH_take (i := 15) (v := .pointer (some ⟨b, 0, none⟩)) rfl (by kernel_rfl) (by kernel_rfl) (by kernel_rfl) (fun _ _ _ h => h) (Or.inl ⟨by simp [Region.wanted], fun W _ => by go_simp⟩) hS ?_
  simp only [List.getElem_toArray, List.getElem_cons_zero, List.getElem_cons_succ, Act.put, List.setIfInBounds_toArray, List.set_cons_zero, List.set_cons_succ]
  refine wpAnyH_take (i := 16) (v := .pointer (some ⟨b, 3, none⟩)) rfl (by kernel_rfl) (by kernel_rfl) (by kernel_rfl) (fun _ _ _ h => h) (Or.inl ⟨by simp [Region.wanted], fun W _ => by go_simp⟩) hS ?_
  simp only [List.getElem_toArray, List.getElem_cons_zero, List.getElem_cons_succ, Act.put, List.setIfInBounds_toArray, List.set_cons_zero, List.set_cons_succ]
  refine wpAnyH_ready (rs := [17]) (by kernel_rfl) (by simp) ?_
  refine AllReadyH.cons rfl (fun K2 hK2 => ?_) AllReadyH.nil
  refine wanted_go rfl ?_
  simp only [List.getElem_toArray, List.getElem_cons_zero, List.getElem_cons_succ]
  go_wp2
  refine hK2.out _ _ (HSE.out) (fun hS2 => ?_)
  refine wpAnyH_done (by kernel_rfl) ?_ _
  generalize hw1 : (W.setCell ⟨b, 3, none⟩ (.int .i64 ((U : Int) - X))).drew = w1 at *
  have HW := Lib.hid hw1
  clear hw1
  go_wp2_with (first
    | (go_at_call 37; refine (HC2.out _ HMM.out).mono ?_; rintro e w3 ⟨rfl, hm3, hf3⟩; have HMB := Lib.hid hm3; have HFB := Lib.hid hf3; clear hm3 hf3)
    | (go_at_call 37; refine HC1.out.mono ?_; rintro e w2 ⟨rfl, hm2, hf2⟩; have HMA := Lib.hid hm2; have HFA := Lib.hid hf2; have hb2 := hf2.block b _ HB1.out (fun h => (by cases h)); have HB2 := Lib.hid hb2; have hq2 := cellP hb2 1 (.map (some m2)) rfl; have hmm := HM2.out.keepT (W' := w2) (F' := F2) (fun k o ho hi hf => hf2.block k o ho (fun _ h1 => HP.out.dis k h1 hf)) (fun _ h => h); have HMM := Lib.hid hmm; clear hm2 hf2 hb2 hmm))
  go_ret
  exact ⟨rfl, _, _, HW.out.symm, HMA.out, HFA.out, HMB.out, HFB.out⟩
theorem setR_facts (W : World) (b i : Nat) (v : Value) : ((W.setCell ⟨b, i, none⟩ v).drew).heap.size = W.heap.size ∧ (∀ k, k ≠ b → ((W.setCell ⟨b, i, none⟩ v).drew).heap[k]? = W.heap[k]?) ∧ ((W.setCell ⟨b, i, none⟩ v).drew).os = W.os ∧ ((W.setCell ⟨b, i, none⟩ v).drew).tape = W.tape ∧ ((W.setCell ⟨b, i, none⟩ v).drew).output = W.output :=
  ⟨by simp [World.setCell], fun k hk => heap_setCell_ne v hk, rfl, rfl, rfl⟩
theorem pend_offb {W W' : World} {b : Nat} {F : Nat → Prop} {d : DkT} {m1 m2 : Nat} {F1 F2 : Nat → Prop} {pa : Option Addr} {pc : Nat} {fs : List Value} (h : PDh W b F d m1 m2 F1 F2 pa pc fs) (hb : ∀ k, k ≠ b → W'.heap[k]? = W.heap[k]?) : PendR W' F (.slice pa d.pend.length pc) fs d.pend := by
  have hne : ∀ (k : Nat) (cs : Array Value) (t : TypeId), t ≠ 66 → W.heap[k]? = some (.cells cs t (0, 0)) → W'.heap[k]? = W.heap[k]? := fun k cs t ht hk => hb k (fun e => by rw [e, h.blk] at hk; cases hk; exact ht rfl)
  refine ⟨own_heap h.pe.own (fun k hk _ => ?_), h.pe.row, fun i p hi => ?_⟩
  · obtain ⟨cur, hc⟩ := own_row h.pe.own k hk
    exact hne k cur 71 (by decide) hc
  · obtain ⟨q1, q2, q3, e, hc, f1, f2, f3⟩ := h.pe.fun_ i p hi
    exact ⟨q1, q2, q3, e, hc.keep (hne _ _ _ (by decide) hc.1) (hne _ _ _ (by decide) hc.2.1) (hne _ _ _ (by decide) hc.2.2), f1, f2, f3⟩
theorem cut_done {W w1 w2 w3 : World} {b : Nat} {F : Nat → Prop} {d d' : DkT} {m1 m2 : Nat} {F1 F2 : Nat → Prop} {pa : Option Addr} {pc : Nat} {fs : List Value} {name : ByteArray} {k : Nat} {X : Int} (h : PDh W b F d m1 m2 F1 F2 pa pc fs) (hs : d.pend.length = 0)
    (hw : w1 = (W.setCell ⟨b, 3, none⟩ (.int .i64 X)).drew) (hm1 : MapAt w2 (More F1 w1.heap.size w2.heap.size) m1 (cutR (readF d.stands) name k)) (hf1 : FrameM F1 w1 w2) (hm2 : MapAt w3 (More F2 w2.heap.size w3.heap.size) m2 (cutR (readF d.kept) name k)) (hf2 : FrameM F2 w2 w3)
    (e1 : d'.pend = d.pend) (e2 : d'.room = d.room) (e3 : ∀ x, readF d'.stands x = cutR (readF d.stands) name k x) (e4 : ∀ x, readF d'.kept x = cutR (readF d.kept) name k x) (e5 : (usedF d'.stands : Int) = X) (e6 : d'.stands = d'.kept) :
    ∃ F', PDx w3 b F' d' ∧ Frame F W w3 ∧ Grows W F F' := by
  obtain ⟨g1, g2, g3, g4, g5⟩ := setR_facts W b 3 (.int .i64 X)
  have hb1 : w1.heap[b]? = some (.cells ((dC m1 m2 pa pc d).setIfInBounds 3 (.int .i64 X)) 66 (0, 0)) := by rw [hw]; exact set_blkN (W := W) h.blk 3 (.int .i64 X)
  rw [← hw] at g1 g2 g3 g4 g5
  have hs12 := hf1.size
  have hs23 := hf2.size
  have hb3 := hf2.block b _ (hf1.block b _ hb1 (fun h => by cases h)) (fun h => by cases h)
  have hp0 : d.pend = [] := List.eq_nil_of_length_eq_zero hs
  have hl1 : ∀ k, F1 k → k < W.heap.size := fun k hk => h.lt k (h.s1 k hk)
  have hl2 : ∀ k, F2 k → k < W.heap.size := fun k hk => h.lt k (h.s2 k hk)
  refine ⟨More F W.heap.size w3.heap.size, ⟨m1, m2, More F1 w1.heap.size w2.heap.size, More F2 w2.heap.size w3.heap.size, pa, pc, fs, ?_⟩, ⟨hf2.os.trans (hf1.os.trans g3), hf2.tape.trans (hf1.tape.trans g4), hf2.output.trans (hf1.output.trans g5), by omega, fun k hk hn => ?_⟩, fun k hk => hk.elim .inl (fun h => .inr h.1)⟩
  · refine ⟨?_, ?_, hm2.same e4, fun k x1 x2 => ?_, fun k hk => ?_, fun k hk => ?_, .inl h.sb, ?_, ?_, fun k hk => ?_⟩
    · rw [hb3]; simp [dC, e1, e2, e5]
    · exact (hm1.same e3).keepT (fun k o ho _ hf => hf2.block k o ho (fun _ x2 => by
        rcases hf with hf | hf
        · exact h.dis k hf x2
        · have := hl2 k x2; have := hf.1; omega)) (fun _ h => h)
    · rcases x1 with x1 | x1
      · rcases x2 with x2 | x2
        · exact h.dis k x1 x2
        · have := hl1 k x1; have := x2.1; omega
      · rcases x2 with x2 | x2
        · have := hl2 k x2; have := x1.1; omega
        · have := x2.1; have := x1.2; omega
    · rcases hk with hk | hk
      · exact .inl (h.s1 k hk)
      · exact .inr ⟨by have := hk.1; omega, by have := hk.2; omega⟩
    · rcases hk with hk | hk
      · exact .inl (h.s2 k hk)
      · exact .inr ⟨by have := hk.1; omega, by have := hk.2; omega⟩
    · rw [e1]
      exact (((pend_offb h g2).frame hf1 (fun _ h => h)).frame hf2 (fun _ h => .inl h))
    · rw [e1, hp0]; exact e6
    · rcases hk with hk | hk
      · have := h.lt k hk; omega
      · exact hk.2
  · obtain ⟨o2, ho2⟩ : ∃ o2, W.heap[k]? = some o2 := ⟨_, Array.getElem?_eq_getElem (by omega)⟩
    rw [ho2]
    exact hf2.block k o2 (hf1.block k o2 ((g2 k (fun e => hn (by rw [e]; exact h.sb))).trans ho2) (fun _ x => hn (h.s1 k x))) (fun _ x => hn (h.s2 k x))
theorem cut14 {W : World} {b : Nat} {F : Nat → Prop} {d : DkT} (name : ByteArray) (n : Int) (h : PDx W b F d) (hp : PlayOk 200 d) (hn : name.size ≤ 100) (hi : In64D n) :
    Calls Try.prog 14 #[.pointer (some ⟨b, 0, none⟩), .string name, .int .i64 n] W fun e w' => e = .returned (.int .i64 (cutF d name n).2) ∧ ∃ F', PDx w' b F' (cutF d name n).1 ∧ Frame F W w' ∧ Grows W F F' := by
  obtain ⟨m1, m2, F1, F2, pa, pc, fs, h⟩ := h
  by_cases c1 : d.pend.length ≠ 0
  · rw [cutF_state c1]
    exact (cut14s name n h c1).mono (fun _ _ x => ⟨x.1, by rw [x.2]; exact pd_same h (Below.refl _ _)⟩)
  have c1' : d.pend.length = 0 := by omega
  by_cases c2 : n < 0
  · rw [cutF_arg c1 c2]
    exact (cut14a name n h c1' c2).mono (fun _ _ x => ⟨x.1, by rw [x.2]; exact pd_same h (Below.refl _ _)⟩)
  obtain ⟨k, rfl⟩ : ∃ k : Nat, n = (k : Int) := ⟨n.toNat, by omega⟩
  have hsk : d.stands = d.kept := by
    have := h.inv
    rw [List.eq_nil_of_length_eq_zero c1'] at this; exact this
  refine (cut14o name k h hp hn c1' hi.2).mono ?_
  rintro e w3 ⟨rfl, w1, w2, hw, hm1, hf1, hm2, hf2⟩
  by_cases c3 : (k : Int) < ((readF d.stands name).size : Int)
  · rw [cutF_less c1 c2 c3]
    have hset := used_set hp.rs name ((readF d.stands name).extract 0 k)
    rw [show (((readF d.stands name).extract 0 k).size) = k by simp; omega] at hset
    exact ⟨rfl, cut_done h c1' hw hm1 hf1 hm2 hf2 rfl rfl (fun x => readF_cut hp.rs name k (by omega) x) (fun x => by rw [← hsk]; exact readF_cut hp.rs name k (by omega) x) (by show (usedF (setF d.stands name ((readF d.stands name).extract 0 k)) : Int) = _; omega) rfl⟩
  · rw [cutF_same c1 c2 c3]
    have e : ∀ x, readF d.stands x = cutR (readF d.stands) name k x := fun x => by unfold cutR; rw [if_neg (by omega)]
    exact ⟨rfl, cut_done h c1' hw hm1 hf1 hm2 hf2 rfl rfl e (fun x => by rw [← hsk]; exact e x) (by show (usedF d.stands : Int) = _; omega) hsk⟩
end Go.Proofs.Ytcedkilgfoiifaa
