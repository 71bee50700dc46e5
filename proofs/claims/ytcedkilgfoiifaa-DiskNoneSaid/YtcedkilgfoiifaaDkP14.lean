/- The program's Sync. -/
import Derived.Test.YtcedkilgfoiifaaDkP13
namespace Go.Proofs.Ytcedkilgfoiifaa
open Go.RowKit Base Base2

theorem applyP_facts : ∀ (pend : List WriteT) (kept : List FileT), RiseF kept → MaxF kept → (∀ p ∈ pend, p.2.1 + p.2.2.size ≤ 1048576) → RiseF (applyP kept pend) ∧ MaxF (applyP kept pend) ∧ (applyP kept pend).length ≤ kept.length + pend.length
  | [], kept, h1, h2, _ => ⟨h1, h2, Nat.le_refl _⟩
  | p :: pend, kept, h1, h2, h3 => by
    have ih := applyP_facts pend (putF kept p.1 p.2.1 p.2.2) (putF_rise h1 _ _ _) (maxF_put h2 (h3 p (List.mem_cons_self ..))) (fun q hq => h3 q (List.mem_cons_of_mem _ hq))
    have hl : (putF kept p.1 p.2.1 p.2.2).length ≤ kept.length + 1 := setF_len _ _ _
    refine ⟨ih.1, ih.2.1, ?_⟩
    have := ih.2.2
    show (applyP (putF kept p.1 p.2.1 p.2.2) pend).length ≤ _
    simp; omega
theorem own_get1 {W : World} {base n : Nat} {e : TypeId} {xs : List Value} {g c i : Nat} {u : Value} (h : W.ownsRow base e 1 (.slice (some ⟨g, 0, none⟩) n c) n xs) (hi : xs[i]? = some u) : W.cell? ⟨g, i, none⟩ = some u := by
  have := h.cells (g := g) rfl i u hi
  rw [add_row] at this; exact this
/-- While what is pending is written onto what is kept. -/
structure SyR (W : World) (F2 : Nat → Prop) (m2 : Nat) (d : DkT) (i : Nat) (W' : World) : Prop where
  map : MapAt W' (More F2 W.heap.size W'.heap.size) m2 (readF (applyP d.kept (d.pend.take i)))
  fr : FrameM F2 W W'
theorem SyR.next {W W1 W2 : World} {F2 : Nat → Prop} {m2 : Nat} {d : DkT} {i : Nat} {nm s : ByteArray} {p : Nat} (h : SyR W F2 m2 d i W1) (hr : RiseF (applyP d.kept (d.pend.take i))) (hs : 0 < s.size) (hi : d.pend[i]? = some (nm, p, s))
    (hm : MapAt W2 (More (More F2 W.heap.size W1.heap.size) W1.heap.size W2.heap.size) m2 (upd (readF (applyP d.kept (d.pend.take i))) nm (bytesL (putB (readF (applyP d.kept (d.pend.take i)) nm) p s)))) (hf : FrameM (More F2 W.heap.size W1.heap.size) W1 W2) : SyR W F2 m2 d (i + 1) W2 := by
  have hs1 := h.fr.size
  have hs2 := hf.size
  have htk : d.pend.take (i + 1) = d.pend.take i ++ [(nm, p, s)] := by rw [List.take_add_one, hi]; rfl
  refine ⟨?_, h.fr.trans hf (fun j hj => hj.elim .inl (fun x => .inr x.1))⟩
  rw [htk, applyP_snoc]
  refine (hm.same (fun x => readF_put hr nm s p hs x)).keepT (fun _ _ h _ _ => h) (fun k hk => ?_)
  rcases hk with (hk | hk) | hk
  · exact .inl hk
  · exact .inr ⟨hk.1, by have := hk.2; omega⟩
  · exact .inr ⟨by have := hk.1; omega, hk.2⟩
/-- Behind a sync. -/
theorem sync_done {W w1 : World} {b : Nat} {F : Nat → Prop} {d : DkT} {m1 m2 : Nat} {F1 F2 : Nat → Prop} {pa : Option Addr} {pc : Nat} {fs : List Value} (h : PDh W b F d m1 m2 F1 F2 pa pc fs) (hs : SyR W F2 m2 d d.pend.length w1) :
    ∃ F', PDx (w1.setCell ⟨b, 2, none⟩ (.slice none 0 0)) b F' (syncF d) ∧ Frame F W (w1.setCell ⟨b, 2, none⟩ (.slice none 0 0)) ∧ Grows W F F' := by
  have hb1 : w1.heap[b]? = some (.cells (dC m1 m2 pa pc d) 66 (0, 0)) := hs.fr.block b _ h.blk (fun h => by cases h)
  have hb2 := set_blkN hb1 2 (.slice none 0 0)
  have g2 : ∀ k, k ≠ b → (w1.setCell ⟨b, 2, none⟩ (.slice none 0 0)).heap[k]? = w1.heap[k]? := fun k hk => heap_setCell_ne _ hk
  have g1 : (w1.setCell ⟨b, 2, none⟩ (.slice none 0 0)).heap.size = w1.heap.size := by simp [World.setCell]
  have gos : (w1.setCell ⟨b, 2, none⟩ (.slice none 0 0)).os = w1.os ∧ (w1.setCell ⟨b, 2, none⟩ (.slice none 0 0)).tape = w1.tape ∧ (w1.setCell ⟨b, 2, none⟩ (.slice none 0 0)).output = w1.output := ⟨rfl, rfl, rfl⟩
  generalize w1.setCell ⟨b, 2, none⟩ (.slice none 0 0) = w2 at *
  have hsz := hs.fr.size
  have hl1 : ∀ k, F1 k → k < W.heap.size := fun k hk => h.lt k (h.s1 k hk)
  have hmb : ∀ (k : Nat) (o : Obj), w1.heap[k]? = some o → isMB o = true → w2.heap[k]? = some o := fun k o ho hi => by
    have hkb : k ≠ b := fun e => by rw [e, hb1] at ho; cases ho; cases hi
    rw [g2 k hkb]; exact ho
  have hmap := hs.map
  rw [List.take_length, ← h.inv] at hmap
  refine ⟨More F W.heap.size w2.heap.size, ⟨m1, m2, F1, More F2 W.heap.size w1.heap.size, none, 0, [], ?_⟩, ⟨gos.1.trans hs.fr.os, gos.2.1.trans hs.fr.tape, gos.2.2.trans hs.fr.output, by omega, fun k hk hn => ?_⟩, fun k hk => hk.elim .inl (fun h => .inr h.1)⟩
  · refine ⟨?_, ?_, ?_, fun k x1 x2 => ?_, fun k hk => .inl (h.s1 k hk), fun k hk => ?_, .inl h.sb, ⟨⟨rfl, .inl ⟨rfl, rfl⟩⟩, fun k hk => (by cases hk), fun i p hi => (by simp [syncF] at hi)⟩, rfl, fun k hk => ?_⟩
    · rw [hb2]; simp [dC, syncF]
    · exact (h.M1.keepT (W' := w1) (F' := F1) (fun k o ho _ hf => hs.fr.block k o ho (fun _ x => h.dis k hf x)) (fun _ h => h)).keepT (fun k o ho hi _ => hmb k o ho hi) (fun _ h => h)
    · exact hmap.keepT (fun k o ho hi _ => hmb k o ho hi) (fun _ h => h)
    · rcases x2 with x2 | x2
      · exact h.dis k x1 x2
      · have := hl1 k x1; have := x2.1; omega
    · rcases hk with hk | hk
      · exact .inl (h.s2 k hk)
      · exact .inr ⟨hk.1, by have := hk.2; omega⟩
    · rcases hk with hk | hk
      · have := h.lt k hk; omega
      · exact hk.2
  · obtain ⟨o2, ho2⟩ : ∃ o2, W.heap[k]? = some o2 := ⟨_, Array.getElem?_eq_getElem (by omega)⟩
    rw [ho2, g2 k (fun e => hn (by rw [e]; exact h.sb))]
    exact hs.fr.block k o2 ho2 (fun _ x => hn (h.s2 k x))

set_option maxRecDepth 100000 in
set_option maxHeartbeats 4000000 in
theorem sync12h {W : World} {b : Nat} {F : Nat → Prop} {d : DkT} {m1 m2 : Nat} {F1 F2 : Nat → Prop} {pa : Option Addr} {pc : Nat} {fs : List Value} (h : PDh W b F d m1 m2 F1 F2 pa pc fs) (hp : PlayOk 200 d) :
    Calls Try.prog 12 #[.pointer (some ⟨b, 0, none⟩)] W fun e w' => e = .returned (.int .i64 0) ∧ ∃ w1, SyR W F2 m2 d d.pend.length w1 ∧ w' = w1.setCell ⟨b, 2, none⟩ (.slice none 0 0) := by
  have hq := cellP h.blk 2 (.slice pa d.pend.length pc) rfl
  have HP := Lib.hid h
  have HOK := Lib.hid hp
  have hlk := hp.lk
  have hst : SyR W F2 m2 d 0 W := ⟨h.M2.keep (fun _ _ _ => rfl) (fun _ h => .inl h), FrameM.refl _ _⟩
  have HST := Lib.hid hst
  clear h hp hst
  go_enter Try.func12, Try.ntmps12
  go_wp2
  go_loopw [12] (fun vi W' => ∃ i : Nat, i ≤ d.pend.length ∧ vi = .int .i64 (i : Int) ∧ SyR W F2 m2 d i W') (fun vi _ => d.pend.length - (intOf vi).toNat)
  case atStart => exact ⟨0, by omega, rfl, HST.out⟩
  case round =>
    obtain ⟨i, hi, rfl, hsy⟩ := hrel
    have HSY := Lib.hid hsy
    have hb1 : wr.heap[b]? = some (.cells (dC m1 m2 pa pc d) 66 (0, 0)) := hsy.fr.block b _ HP.out.blk (fun h => by cases h)
    have HB1 := Lib.hid hb1
    by_cases hlt : i < d.pend.length
    · obtain ⟨p0, hpi⟩ : ∃ p, d.pend[i]? = Option.some p := ⟨d.pend[i], by simp [hlt]⟩
      have hpm := List.mem_of_getElem? hpi
      have hpe := HP.out.pe.frame hsy.fr (fun _ h => h)
      obtain ⟨q1, q2, q3, hfi, hcw, _, _, _⟩ := hpe.fun_ i p0 hpi
      obtain ⟨g, c, hsl⟩ := own_shape' hpe.own (by omega)
      simp only [Value.slice.injEq] at hsl
      obtain ⟨rfl, _, rfl⟩ := hsl
      have hcf := own_get1 hpe.own hfi
      have hq1 := cellP hb1 1 (.map (some m2)) rfl
      have hmp := HOK.out.mp p0 hpm
      obtain ⟨hnm0, hsz0⟩ := HOK.out.gp p0 hpm
      have hnm := named_size hnm0
      obtain ⟨ar, am, al⟩ := applyP_facts (d.pend.take i) d.kept HOK.out.rk HOK.out.mkp (fun p hp => HOK.out.mp p (List.mem_of_mem_take hp))
      have hsup : (((applyP d.kept (d.pend.take i)).map (fun f => f.1)).length ≤ 100000) := by simp at al ⊢; omega
      obtain ⟨nm, p, s⟩ := p0
      dsimp only at hcw hmp hsz0 hnm
      have HHO := Lib.hid (maxF_read am nm)
      have HCW : Hid (CellsW wr q1 q2 q3 (nm, p, s)) := hcw
      have HAR := Lib.hid ar; have HPI := Lib.hid hpi; have HLL := Lib.hid hsup
      have HMIN : Hid (min (9223372036854775807 : Int) (s.size : Int) = (s.size : Int)) := by show min (9223372036854775807 : Int) (s.size : Int) = (s.size : Int); omega
      have hs0 : 0 < s.size := by omega
      clear hsy hb1 hpm hpe hcw hfi hnm0 ar am al hsup hpi
      unfold funW at hcf
      go_wp2_with (first
        | (go_at_call 47; refine (written47 m2 (More F2 W.heap.size wr.heap.size) (readF (applyP d.kept (d.pend.take i))) 9223372036854775807 q1 q2 q3 s.size nm s p _ HSY.out.map ((applyP d.kept (d.pend.take i)).map (fun f => f.1)) (fun s hs => readF_names hs) HLL.out HCW.out (by omega) HMIN.out hs0 (Nat.le_refl _) (by omega) HHO.out hmp).mono ?_; rintro e w1 ⟨rfl, hm1, hf1⟩; have HM1 := Lib.hid hm1; have HF1 := Lib.hid hf1; clear hm1 hf1))
      go_roundw
      case rel => exact ⟨i + 1, by omega, by go_num, HSY.out.next HAR.out hs0 HPI.out (by have h2 := HM1.out; rw [ext_all] at h2; exact h2) HF1.out⟩
      case measure => simp [intOf]; omega
    · have hie : i = d.pend.length := by omega
      subst hie
      have hq2 := cellP hb1 2 (.slice pa d.pend.length pc) rfl
      have hf2 := free_of_blkN hb1 2
      clear hsy hb1
      go_wp2
      go_ret
      exact ⟨rfl, _, HSY.out, rfl⟩
theorem sync12 {W : World} {b : Nat} {F : Nat → Prop} {d : DkT} (h : PDx W b F d) (hp : PlayOk 200 d) :
    Calls Try.prog 12 #[.pointer (some ⟨b, 0, none⟩)] W fun e w' => e = .returned (.int .i64 0) ∧ ∃ F', PDx w' b F' (syncF d) ∧ Frame F W w' ∧ Grows W F F' := by
  obtain ⟨m1, m2, F1, F2, pa, pc, fs, h⟩ := h
  refine (sync12h h hp).mono ?_
  rintro e w' ⟨rfl, w1, hs, rfl⟩
  exact ⟨rfl, sync_done h hs⟩
end Go.Proofs.Ytcedkilgfoiifaa
