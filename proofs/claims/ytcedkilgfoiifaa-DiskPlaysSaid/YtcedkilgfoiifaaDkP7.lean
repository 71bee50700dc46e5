/- The program's writes as closures: what one does with a map of files. -/
import Derived.Test.YtcedkilgfoiifaaDkP6
namespace Go.Proofs.Ytcedkilgfoiifaa
open Go.RowKit Base Base2

/-- All that isn't the map's stays. -/
structure FrameM (F : Nat → Prop) (W W' : World) : Prop where
  os : W'.os = W.os
  tape : W'.tape = W.tape
  output : W'.output = W.output
  size : W.heap.size ≤ W'.heap.size
  block : ∀ (k : Nat) (o : Obj), W.heap[k]? = some o → (isMB o = true → ¬ F k) → W'.heap[k]? = some o
theorem FrameM.refl (F : Nat → Prop) (W : World) : FrameM F W W := ⟨rfl, rfl, rfl, Nat.le_refl _, fun _ _ h _ => h⟩
theorem FrameM.trans {F F' : Nat → Prop} {a b c : World} (h : FrameM F a b) (k : FrameM F' b c) (hF : ∀ j, F' j → F j ∨ a.heap.size ≤ j) : FrameM F a c :=
  ⟨k.os.trans h.os, k.tape.trans h.tape, k.output.trans h.output, Nat.le_trans h.size k.size, fun j o ho hn => k.block j o (h.block j o ho hn) (fun hi hf => (hF j hf).elim (hn hi) (fun h2 => by have := lt_of_blkD ho; omega))⟩
theorem FrameM.below {F : Nat → Prop} {W W' : World} {B : Nat} (h : FrameM F W W') (hF : ∀ k, F k → B ≤ k) (hB : B ≤ W.heap.size) : Below B W W' :=
  ⟨h.os, h.tape, h.output, h.size, fun k hk => by
    obtain ⟨o, ho⟩ : ∃ o, W.heap[k]? = some o := ⟨_, Array.getElem?_eq_getElem (by omega)⟩
    rw [ho]; exact h.block k o ho (fun _ hf => by have := hF k hf; omega)⟩
theorem FrameM.of_below {F : Nat → Prop} {W W' : World} (h : Below W.heap.size W W') : FrameM F W W' := ⟨h.os, h.tape, h.output, h.size, fun k _ ho _ => (h.block k (lt_of_blkD ho)).trans ho⟩
theorem FrameM.sub {F F' : Nat → Prop} {W W' : World} (h : FrameM F W W') (hs : ∀ k, F k → F' k) : FrameM F' W W' := ⟨h.os, h.tape, h.output, h.size, fun k o ho hn => h.block k o ho (fun hi hf => hn hi (hs k hf))⟩
/-- The kind with all new blocks. -/
def More (F : Nat → Prop) (a b : Nat) : Nat → Prop := fun k => F k ∨ (a ≤ k ∧ k < b)
theorem look_drew {W : World} {F : Nat → Prop} {m : Nat} {r : ByteArray → ByteArray} {D : DataW Value} {G : ByteArray → Nat × Nat} (h : MapG W F m r D G) (s : ByteArray) (hs : s.size ≤ maxLen) :
    (Instr.lookup 63 (.map (some m)) (.string s) false).run Try.prog W.drew = .ok (valB (G s) (r s)) W.drew :=
  (h.keep (W' := W.drew) (F' := F) (fun _ _ _ => rfl) (fun _ h => h)).look s hs
theorem grown_drew {W W' : World} {x : Option Nat} (h : W.drew.grownBy W' x) : W.grownBy W' x := ⟨h.os, h.tape, h.output, h.size, h.block⟩
theorem ext_size_k (s : ByteArray) (k : Nat) : (s.extract 0 k).size = min k s.size := by simp
theorem put_ne {old s : ByteArray} {pl : Nat} (h : 0 < s.size) : (bytesL (putB old pl s)).size ≠ 0 := by rw [bytesL_putB_size]; omega
/-- A name's row of bytes written on, or anew: the map holds it. -/
theorem MapG.put {W W1 : World} {F : Nat → Prop} {m : Nat} {r : ByteArray → ByteArray} {D : DataW Value} {G : ByteArray → Nat × Nat} (h : MapG W F m r D G) {L : List ByteArray} (hL : ∀ s, (r s).size ≠ 0 → s ∈ L) (hl : L.length ≤ 100000)
    (s b : ByteArray) (g : Nat × Nat) (hs : s.size ≤ maxLen) (hb0 : b.size ≠ 0) (hB : BytsAt W1 g b) (hg : W.grownBy W1 (ownB (G s) (r s))) (hloc : ((r s).size ≠ 0 ∧ g.1 = (G s).1) ∨ W.heap.size ≤ g.1) :
    ∃ W2, (Instr.mapUpdate 63 (.map (some m)) (.string s) (sliceB g b)).run Try.prog W1 = .ok () W2 ∧ MapAt W2 (More F W.heap.size W2.heap.size) m (upd r s b) ∧ W1.grownBy W2 (some m) ∧ FrameM F W W2 := by
  have hrow : ∀ j, some j = ownB (G s) (r s) → (r s).size ≠ 0 ∧ j = (G s).1 := fun j hj => by
    unfold ownB at hj
    split at hj
    · cases hj
    · rename_i h0; exact ⟨h0, by simpa using hj⟩
  have hm : W1.heap[m]? = W.heap[m]? := hg.block m h.lt (fun e => by
    obtain ⟨h0, e2⟩ := hrow m e
    obtain ⟨cur, fz, hr⟩ := (h.byt s h0).row
    exact h.own_ne hr e2.symm)
  have hk : ∀ t, t ≠ s → (r t).size ≠ 0 → W1.heap[(G t).1]? = W.heap[(G t).1]? := fun t ht h0 => hg.block _ (h.byt t h0).lt (fun e => by
    obtain ⟨h1, e2⟩ := hrow _ e
    exact h.apart t s ht h0 h1 e2)
  have hlt := hB.lt
  have hwsz := hg.size
  obtain ⟨W2, h1, h2, h3, h4⟩ := h.store (W1 := W1) (F' := More F W.heap.size W1.heap.size) hL hl s b g hs hb0 hm hk hB (fun k hk => .inl hk) (by
      rcases hloc with ⟨h0, e⟩ | e
      · exact .inl (by rw [e]; exact h.inG s h0)
      · exact .inr ⟨e, hlt⟩) (fun t ht h0 e => by
      rcases hloc with ⟨h1, e2⟩ | e2
      · exact h.apart t s ht h0 h1 (e.symm.trans e2)
      · have := (h.byt t h0).lt; omega)
  refine ⟨W2, h1, by rw [h4]; exact h2, h3, ⟨h3.os.trans hg.os, h3.tape.trans hg.tape, h3.output.trans hg.output, by omega, fun k o ho hn => ?_⟩⟩
  have hk1 : W1.heap[k]? = some o := (hg.block k (lt_of_blkD ho) (fun e => by
    obtain ⟨h0, e2⟩ := hrow k e
    obtain ⟨cur, fz, hr⟩ := (h.byt s h0).row
    rw [← e2, ho] at hr; cases hr
    exact hn rfl (by rw [e2]; exact h.inG s h0))).trans ho
  refine (h3.block k (lt_of_blkD hk1) (fun e => ?_)).trans hk1
  obtain rfl : k = m := by simpa using e
  obtain ⟨es, clock, hb, _⟩ := h.own
  rw [ho] at hb; cases hb
  exact hn rfl h.inF
theorem cells3_grown {W W1 : World} {F : Nat → Prop} {m q1 q2 q3 : Nat} {r : ByteArray → ByteArray} {D : DataW Value} {G : ByteArray → Nat × Nat} {nm : ByteArray} {c1 c2 c3 : Array Value} (h : MapG W F m r D G) (hg : W.drew.grownBy W1 (ownB (G nm) (r nm)))
    (hq : W.drew.heap[q1]? = some (.cells c1 9 (0, 0)) ∧ W.drew.heap[q2]? = some (.cells c2 3 (0, 0)) ∧ W.drew.heap[q3]? = some (.cells c3 9 (0, 0))) : W1.heap[q1]? = some (.cells c1 9 (0, 0)) ∧ W1.heap[q2]? = some (.cells c2 3 (0, 0)) ∧ W1.heap[q3]? = some (.cells c3 9 (0, 0)) := by
  have key : ∀ (q : Nat) (c : Array Value) (t : TypeId), t ≠ 5 → W.drew.heap[q]? = some (.cells c t (0, 0)) → W1.heap[q]? = some (.cells c t (0, 0)) := fun q c t ht hc => (hg.block q (lt_of_blkD hc) (fun e => by
    unfold ownB at e
    split at e
    · cases e
    · rename_i h0
      obtain rfl : q = (G nm).1 := by simpa using e
      obtain ⟨cur, fz, hr⟩ := (h.byt nm h0).row
      have hc2 : W.heap[(G nm).1]? = some (.cells c t (0, 0)) := hc
      rw [hr] at hc2; cases hc2; exact ht rfl)).trans hc
  exact ⟨key _ _ _ (by decide) hq.1, key _ _ _ (by decide) hq.2.1, key _ _ _ (by decide) hq.2.2⟩
theorem cells3_frame {W W1 : World} {F : Nat → Prop} {q1 q2 q3 : Nat} {c1 c2 c3 : Array Value} (hf : FrameM F W W1)
    (hq : W.heap[q1]? = some (.cells c1 9 (0, 0)) ∧ W.heap[q2]? = some (.cells c2 3 (0, 0)) ∧ W.heap[q3]? = some (.cells c3 9 (0, 0))) : W1.heap[q1]? = some (.cells c1 9 (0, 0)) ∧ W1.heap[q2]? = some (.cells c2 3 (0, 0)) ∧ W1.heap[q3]? = some (.cells c3 9 (0, 0)) :=
  ⟨hf.block _ _ hq.1 (fun h => by cases h), hf.block _ _ hq.2.1 (fun h => by cases h), hf.block _ _ hq.2.2 (fun h => by cases h)⟩

set_option maxRecDepth 100000 in
set_option maxHeartbeats 2000000 in
theorem written47no (m : Nat) (n : Int) (a1 a2 a3 : Value) (w : World) (hn : n ≤ 0) :
    Calls Try.prog 47 #[.map (some m), .int .i64 n, a1, a2, a3] w fun e w' => e = .returned (.tuple #[]) ∧ w' = w := by
  have h1 : ¬ 0 < n := by omega
  go_enter Try.func47, Try.ntmps47
  go_wp2
  go_end0
  exact ⟨rfl, rfl⟩

set_option maxRecDepth 100000 in
set_option maxHeartbeats 4000000 in
theorem written47 (m : Nat) (F : Nat → Prop) (r : ByteArray → ByteArray) (n : Int) (q1 q2 q3 k : Nat) (nm s : ByteArray) (pl : Nat) (w : World) (h : MapAt w F m r) (L : List ByteArray) (hL : ∀ s, (r s).size ≠ 0 → s ∈ L) (hl : L.length ≤ 100000)
    (hq : w.heap[q1]? = some (.cells #[.string nm] 9 (0, 0)) ∧ w.heap[q2]? = some (.cells #[.int .i64 (pl : Int)] 3 (0, 0)) ∧ w.heap[q3]? = some (.cells #[.string s] 9 (0, 0)))
    (hn : 0 < n) (hk : min n (s.size : Int) = (k : Int)) (hk0 : 0 < k) (hks : k ≤ s.size) (hnm : nm.size ≤ 100) (ho : (r nm).size ≤ 1048576) (hsz : pl + s.size ≤ 1048576) :
    Calls Try.prog 47 #[.map (some m), .int .i64 n, .pointer (some ⟨q1, 0, none⟩), .pointer (some ⟨q2, 0, none⟩), .pointer (some ⟨q3, 0, none⟩)] w fun e w' => e = .returned (.tuple #[]) ∧ MapAt w' (More F w.heap.size w'.heap.size) m (upd r nm (bytesL (putB (r nm) pl (s.extract 0 k)))) ∧ FrameM F w w' := by
  obtain ⟨D, G, hG⟩ := h
  have HG := Lib.hid hG
  have HL := Lib.hid hL
  have hQ := Lib.hid hq
  clear hG hL hq
  go_enter Try.func47, Try.ntmps47
  go_upto_region 1 with (fail)
  refine wp_region_held_drew (S := fun W => W.heap[q1]? = some (.cells #[.string nm] 9 (0, 0)) ∧ W.heap[q2]? = some (.cells #[.int .i64 (pl : Int)] 3 (0, 0)) ∧ W.heap[q3]? = some (.cells #[.string s] 9 (0, 0))) (by kernel_rfl) (hQ.out) (fun hS => ?_)
  refine wpAnyH_take (i := 0) (v := .map (some m)) rfl (by kernel_rfl) (by kernel_rfl) (by kernel_rfl) (fun _ _ _ h => h) (Or.inl ⟨by simp [Region.wanted], fun W _ => by go_simp⟩) hS ?_
  simp only [List.getElem_toArray, List.getElem_cons_zero, Act.put, List.setIfInBounds_toArray, List.set_cons_zero, List.set_cons_succ]
  refine wpAnyH_take (i := 1) (v := .string nm) rfl (by kernel_rfl) (by kernel_rfl) (by kernel_rfl) (fun _ _ _ h => h) (Or.inl ⟨by simp [Region.wanted], fun W hW => by have hq := cellP hW.1 0 (.string nm) rfl; go_simp⟩) hS ?_
  simp only [List.getElem_toArray, List.getElem_cons_zero, List.getElem_cons_succ, Act.put, List.setIfInBounds_toArray, List.set_cons_zero, List.set_cons_succ]
  refine wpAnyH_take (i := 2) (v := .map (some m)) rfl (by kernel_rfl) (by kernel_rfl) (by kernel_rfl) (fun _ _ _ h => h) (Or.inl ⟨by simp [Region.wanted], fun W _ => by go_simp⟩) hS ?_
  simp only [List.getElem_toArray, List.getElem_cons_zero, List.getElem_cons_succ, Act.put, List.setIfInBounds_toArray, List.set_cons_zero, List.set_cons_succ]
  refine wpAnyH_take (i := 3) (v := .string nm) rfl (by kernel_rfl) (by kernel_rfl) (by kernel_rfl) (fun _ _ _ h => h) (Or.inl ⟨by simp [Region.wanted], fun W hW => by have hq := cellP hW.1 0 (.string nm) rfl; go_simp⟩) hS ?_
  simp only [List.getElem_toArray, List.getElem_cons_zero, List.getElem_cons_succ, Act.put, List.setIfInBounds_toArray, List.set_cons_zero, List.set_cons_succ]
  refine wpAnyH_take (i := 5) (v := .int .i64 (pl : Int)) rfl (by kernel_rfl) (by kernel_rfl) (by kernel_rfl) (fun _ _ _ h => h) (Or.inl ⟨by simp [Region.wanted], fun W hW => by have hq := cellP hW.2.1 0 (.int .i64 (pl : Int)) rfl; go_simp⟩) hS ?_
  simp only [List.getElem_toArray, List.getElem_cons_zero, List.getElem_cons_succ, Act.put, List.setIfInBounds_toArray, List.set_cons_zero, List.set_cons_succ]
  refine wpAnyH_take (i := 6) (v := .string s) rfl (by kernel_rfl) (by kernel_rfl) (by kernel_rfl) (fun _ _ _ h => h) (Or.inl ⟨by simp [Region.wanted], fun W hW => by have hq := cellP hW.2.2 0 (.string s) rfl; go_simp⟩) hS ?_
  simp only [List.getElem_toArray, List.getElem_cons_zero, List.getElem_cons_succ, Act.put, List.setIfInBounds_toArray, List.set_cons_zero, List.set_cons_succ]
  refine wpAnyH_take (i := 7) (v := .int .i64 n) rfl (by kernel_rfl) (by kernel_rfl) (by kernel_rfl) (fun _ _ _ h => h) (Or.inl ⟨by simp [Region.wanted], fun W _ => by go_simp⟩) hS ?_
  simp only [List.getElem_toArray, List.getElem_cons_zero, List.getElem_cons_succ, Act.put, List.setIfInBounds_toArray, List.set_cons_zero, List.set_cons_succ]
  refine wpAnyH_take (i := 8) (v := .string s) rfl (by kernel_rfl) (by kernel_rfl) (by kernel_rfl) (fun _ _ _ h => h) (Or.inl ⟨by simp [Region.wanted], fun W hW => by have hq := cellP hW.2.2 0 (.string s) rfl; go_simp⟩) hS ?_
  simp only [List.getElem_toArray, List.getElem_cons_zero, List.getElem_cons_succ, Act.put, List.setIfInBounds_toArray, List.set_cons_zero, List.set_cons_succ]
  refine wpAnyH_take (i := 9) (v := .int .i64 (s.size : Int)) rfl (by kernel_rfl) (by kernel_rfl) (by kernel_rfl) (fun _ _ _ h => h) (Or.inl ⟨by simp [Region.wanted], fun W _ => by go_simp⟩) hS ?_
  simp only [List.getElem_toArray, List.getElem_cons_zero, List.getElem_cons_succ, Act.put, List.setIfInBounds_toArray, List.set_cons_zero, List.set_cons_succ]
  refine wpAnyH_take (i := 10) (v := .int .i64 (k : Int)) rfl (by kernel_rfl) (by kernel_rfl) (by kernel_rfl) (fun _ _ _ h => h) (Or.inl ⟨by simp [Region.wanted], fun W _ => by go_simp⟩) hS ?_
  simp only [List.getElem_toArray, List.getElem_cons_zero, List.getElem_cons_succ, Act.put, List.setIfInBounds_toArray, List.set_cons_zero, List.set_cons_succ]
  refine wpAnyH_take (i := 11) (v := .string (s.extract 0 k)) rfl (by kernel_rfl) (by kernel_rfl) (by kernel_rfl) (fun _ _ _ h => h) (Or.inl ⟨by simp [Region.wanted], fun W _ => by go_simp⟩) hS ?_
  simp only [List.getElem_toArray, List.getElem_cons_zero, List.getElem_cons_succ, Act.put, List.setIfInBounds_toArray, List.set_cons_zero, List.set_cons_succ]
  refine wpAnyH_ready (rs := [4]) (by kernel_rfl) (by simp) ?_
  refine AllReadyH.cons rfl (fun K1 hK1 => ?_) AllReadyH.nil
  refine wanted_go rfl ?_
  simp only [List.getElem_toArray, List.getElem_cons_zero, List.getElem_cons_succ]
  have HLK := look_drew HG.out nm (by unfold maxLen; omega)
  go_wp2
  refine hK1.out _ _ hS (fun _ => ?_)
  refine wpAnyH_ready (rs := [12]) (by kernel_rfl) (by simp) ?_
  refine AllReadyH.cons rfl (fun K2 hK2 => ?_) AllReadyH.nil
  refine wanted_go rfl ?_
  simp only [List.getElem_toArray, List.getElem_cons_zero, List.getElem_cons_succ]
  have HC := Lib.hid (laid48 w.drew (G nm) (r nm) (s.extract 0 k) pl (fun h0 => (HG.out.byt nm h0).block rfl) ho (by rw [ext_size_k]; omega) (by rw [ext_size_k]; omega))
  go_wp2_with (go_at_call 48; refine HC.out.mono ?_; rintro e w1 ⟨g', rfl, hby, hgr, hloc⟩; have HBY := Lib.hid hby; have HGR := Lib.hid hgr; have HLOC := Lib.hid hloc; clear hby hgr hloc)
  refine hK2.out _ _ (cells3_grown HG.out HGR.out hS) (fun hS2 => ?_)
  refine wpAnyH_ready (rs := [13]) (by kernel_rfl) (by simp) ?_
  refine AllReadyH.cons rfl (fun K3 hK3 => ?_) AllReadyH.nil
  refine wanted_go rfl ?_
  simp only [List.getElem_toArray, List.getElem_cons_zero, List.getElem_cons_succ]
  obtain ⟨w2, hup, hm2, hg2, hfr⟩ := HG.out.put HL.out hl nm _ g' (by unfold maxLen; omega) (put_ne (by rw [ext_size_k]; omega)) HBY.out (grown_drew HGR.out) HLOC.out
  have HM2 := Lib.hid hm2; have HG2 := Lib.hid hg2; have HFR := Lib.hid hfr
  clear hm2 hg2 hfr
  go_wp2
  clear hup
  refine hK3.out _ _ (cells3_frame HFR.out hQ.out) (fun hS3 => ?_)
  refine wpAnyH_done (by kernel_rfl) ?_ _
  go_wp2
  go_end0
  exact ⟨rfl, HM2.out, HFR.out⟩
end Go.Proofs.Ytcedkilgfoiifaa
