/- The program's named: a map of files; its again: a copy of a map. -/
import Derived.Test.YtcedkilgfoiifaaDkP5
namespace Go.Proofs.Ytcedkilgfoiifaa
open Go.RowKit Base Base2

theorem readF_snoc {L : List FileT} {f : FileT} (h : ∀ g ∈ L, g.1 ≠ f.1) (s : ByteArray) : readF (L ++ [f]) s = upd (readF L) f.1 f.2 s := by
  unfold upd
  by_cases e : s = f.1
  · rw [if_pos e]
    unfold readF
    rw [List.find?_append]
    have : L.find? (fun g => decide (g.1 = s)) = none := by
      rw [List.find?_eq_none]; intro g hg; simpa using fun e2 => h g hg (e2.trans e)
    rw [this]
    simp [e]
  · rw [if_neg e]
    unfold readF
    rw [List.find?_append]
    have : [f].find? (fun g => decide (g.1 = s)) = none := by
      rw [List.find?_eq_none]; intro g hg; simp at hg; subst hg; simpa using fun e2 => e e2.symm
    rw [this, Option.or_none]
theorem cellP {W : World} {b : Nat} {cs : Array Value} {t : TypeId} {fz : Nat × Nat} (h : W.heap[b]? = some (.cells cs t fz)) (i : Nat) (v : Value) (hv : cs[i]? = some v) : W.cell? ⟨b, i, none⟩ = some v := by
  rw [cell_of_row W b i cs t fz h]; exact hv
theorem readF_nil (s : ByteArray) : readF [] s = ⟨#[]⟩ := rfl
theorem readF_names {l : List FileT} {s : ByteArray} (h : (readF l s).size ≠ 0) : s ∈ l.map (fun f => f.1) := by
  obtain ⟨f, hf, e, _⟩ := readF_some h
  exact List.mem_map.2 ⟨f, hf, e⟩
/-- The blocks from one number to another. -/
def Rng (a b : Nat) : Nat → Prop := fun k => a ≤ k ∧ k < b
theorem heap_below {a b : World} (h : Below a.heap.size a b) {k : Nat} (hk : k < a.heap.size) : b.heap[k]? = a.heap[k]? := h.block k hk
/-- A new row of bytes is given to a name. -/
theorem MapAt.add {W W1 : World} {B m : Nat} {r : ByteArray → ByteArray} (h : MapAt W (Rng B W.heap.size) m r) {L : List ByteArray} (hL : ∀ s, (r s).size ≠ 0 → s ∈ L) (hl : L.length ≤ 100000) (s b : ByteArray) (g : Nat × Nat) (hs : s.size ≤ maxLen) (hb0 : b.size ≠ 0)
    (hB : Below W.heap.size W W1) (hg : BytsAt W1 g b) (hge : W.heap.size ≤ g.1) (hBW : B ≤ W.heap.size) :
    ∃ W2, (Instr.mapUpdate 63 (.map (some m)) (.string s) (sliceB g b)).run Try.prog W1 = .ok () W2 ∧ MapAt W2 (Rng B W2.heap.size) m (upd r s b) ∧ W1.grownBy W2 (some m) := by
  obtain ⟨D, G, hM⟩ := h
  have hlt := hg.lt
  have hsz := hB.size
  obtain ⟨W2, h1, h2, h3, h4⟩ := hM.store (W1 := W1) (F' := Rng B W1.heap.size) hL hl s b g hs hb0 (hB.block _ hM.lt) (fun t _ ht => hB.block _ (hM.byt t ht).lt) hg (fun k hk => ⟨hk.1, by have := hk.2; omega⟩) ⟨by omega, hlt⟩ (fun t _ ht => by have := (hM.byt t ht).lt; omega)
  exact ⟨W2, h1, by rw [h4]; exact h2, h3⟩

set_option maxRecDepth 100000 in
set_option maxHeartbeats 4000000 in
theorem named33 (a : Option Addr) (l : List FileT) (cap : Nat) (w : World) (hr : FilesAt w a l) (hl : l.length ≤ 1000) (hri : RiseF l) (hgo : GoodF l) (hmx : MaxF l) :
    Calls Try.prog 33 #[.slice a l.length cap] w fun e w' => e = .returned (.map (some w.heap.size)) ∧ MapAt w' (Rng w.heap.size w'.heap.size) w.heap.size (readF l) ∧ Below w.heap.size w w' := by
  have hmm := @run_makeMap Try.prog
  have HFL := Lib.hid hr
  have HRI := Lib.hid hri; have HGO := Lib.hid hgo; have HMX := Lib.hid hmx
  clear hr hri hgo hmx
  go_enter Try.func33, Try.ntmps33
  go_wp2
  go_loopw [9] (fun vi W => (∃ i : Nat, i ≤ l.length ∧ vi = .int .i64 (i : Int) ∧ MapAt W (Rng w.heap.size W.heap.size) w.heap.size (readF (l.take i))) ∧ Below w.heap.size w W ∧ w.heap.size < W.heap.size) (fun vi _ => l.length - (intOf vi).toNat)
  case atStart => exact ⟨⟨0, by omega, rfl, (MapAt.made w _ ⟨Nat.le_refl _, by simp⟩).same readF_nil⟩, (Below.refl _ w).alloc (Nat.le_refl _) _, by simp⟩
  case round =>
    obtain ⟨⟨i, hi, rfl, hmap⟩, hbel, hbs⟩ := hrel
    have HB := Lib.hid hbel
    have HBS := Lib.hid hbs
    have HM0 := Lib.hid hmap
    clear hmap hbs
    by_cases hlt : i < l.length
    · obtain ⟨b, off, rfl, hbw, hcells⟩ := HFL.out.some (by omega)
      obtain ⟨f, hf⟩ : ∃ f, l[i]? = Option.some f := ⟨l[i], by simp [hlt]⟩
      have c0 := (hbel.cell (p := ⟨b, off + i * 2, none⟩) hbw).trans (hcells i f hf).1
      have c1 := (hbel.cell (p := ⟨b, off + i * 2 + 1, none⟩) hbw).trans (hcells i f hf).2
      have hfm := List.mem_of_getElem? hf
      obtain ⟨hn0, hfb0⟩ := HGO.out f hfm
      have hfbm := HMX.out f hfm
      have hnm := named_size hn0
      have htk : l.take (i + 1) = l.take i ++ [f] := by rw [List.take_add_one, hf]; rfl
      have hne : ∀ g ∈ l.take i, g.1 ≠ f.1 := fun g hg => by
        obtain ⟨j, hj, e⟩ := List.getElem_of_mem hg
        rw [List.getElem_take] at e
        simp at hj
        exact ltB_ne (rise_at HRI.out (i := j) (j := i) (f := g) (g := f) (by rw [List.getElem?_eq_getElem (by omega), e]) hf (by omega))
      have HNX : Hid (∀ s, readF (l.take (i + 1)) s = upd (readF (l.take i)) f.1 f.2 s) := fun s => by rw [htk]; exact readF_snoc hne s
      have HL : Hid (∀ s, (readF (l.take i) s).size ≠ 0 → s ∈ (l.take i).map (fun f => f.1)) := fun s hs => readF_names hs
      obtain ⟨fn, fb⟩ := f
      dsimp only at c0 c1 hn0 hfb0 hfbm hnm HNX
      clear hcells hbel hf hfm hn0 htk hne
      go_upto_region 5 with (fail)
      obtain ⟨bx, hbx⟩ : ∃ k, k = wr.heap.size := ⟨_, rfl⟩
      rw [← hbx]
      have hWa := heap_alloc_new wr (.cells #[.string fn, .string fb] 58)
      have hWs : (wr.alloc (.cells #[.string fn, .string fb] 58)).heap.size = wr.heap.size + 1 := by simp
      have hWk : ∀ k, k < wr.heap.size → (wr.alloc (.cells #[.string fn, .string fb] 58)).heap[k]? = wr.heap[k]? := fun k hk => Below.heap_alloc _ _ _ hk
      have hWb := HB.out.alloc HB.out.size (.cells #[.string fn, .string fb] 58)
      generalize wr.alloc (.cells #[.string fn, .string fb] 58) = WB at *
      rw [← hbx] at hWa
      have HM := Lib.hid (HM0.out.keep (W' := WB) (F' := Rng w.heap.size WB.heap.size) (fun k hk _ => hWk k hk) (fun k hk => ⟨hk.1, by have := hk.2; omega⟩))
      have HX : Hid (WB.heap[bx]? = some (.cells #[.string fn, .string fb] 58 (0, 0)) ∧ w.heap.size < bx ∧ w.heap.size ≤ WB.heap.size ∧ Below w.heap.size w WB) := ⟨hWa, by rw [hbx]; exact HBS.out, by have := HBS.out; omega, hWb⟩
      clear hWa hWs hWk hWb hbx HM0 HB HBS c0 c1
      refine wp_region_held_drew (S := fun W => W.heap[bx]? = some (.cells #[.string fn, .string fb] 58 (0, 0))) (by kernel_rfl) (HX.out.1) (fun hS => ?_)
      refine wpAnyH_take (i := 0) (v := .map (some w.heap.size)) rfl (by kernel_rfl) (by kernel_rfl) (by kernel_rfl) (fun _ _ _ h => h) (Or.inl ⟨by simp [Region.wanted], fun W _ => by go_simp⟩) hS ?_
      simp only [List.getElem_toArray, List.getElem_cons_zero, Act.put, List.setIfInBounds_toArray, List.set_cons_zero, List.set_cons_succ]
      refine wpAnyH_take (i := 1) (v := .pointer (some ⟨bx, 0, none⟩)) rfl (by kernel_rfl) (by kernel_rfl) (by kernel_rfl) (fun _ _ _ h => h) (Or.inl ⟨by simp [Region.wanted], fun W _ => by go_simp⟩) hS ?_
      simp only [List.getElem_toArray, List.getElem_cons_zero, List.getElem_cons_succ, Act.put, List.setIfInBounds_toArray, List.set_cons_zero, List.set_cons_succ]
      refine wpAnyH_take (i := 2) (v := .string fn) rfl (by kernel_rfl) (by kernel_rfl) (by kernel_rfl) (fun _ _ _ h => h) (Or.inl ⟨by simp [Region.wanted], fun W hW => by have hq := cellP hW 0 (.string fn) rfl; go_simp⟩) hS ?_
      simp only [List.getElem_toArray, List.getElem_cons_zero, List.getElem_cons_succ, Act.put, List.setIfInBounds_toArray, List.set_cons_zero, List.set_cons_succ]
      refine wpAnyH_take (i := 4) (v := .pointer (some ⟨bx, 1, none⟩)) rfl (by kernel_rfl) (by kernel_rfl) (by kernel_rfl) (fun _ _ _ h => h) (Or.inl ⟨by simp [Region.wanted], fun W _ => by go_simp⟩) hS ?_
      simp only [List.getElem_toArray, List.getElem_cons_zero, List.getElem_cons_succ, Act.put, List.setIfInBounds_toArray, List.set_cons_zero, List.set_cons_succ]
      refine wpAnyH_take (i := 5) (v := .string fb) rfl (by kernel_rfl) (by kernel_rfl) (by kernel_rfl) (fun _ _ _ h => h) (Or.inl ⟨by simp [Region.wanted], fun W hW => by have hq := cellP hW 1 (.string fb) rfl; go_simp⟩) hS ?_
      simp only [List.getElem_toArray, List.getElem_cons_zero, List.getElem_cons_succ, Act.put, List.setIfInBounds_toArray, List.set_cons_zero, List.set_cons_succ]
      refine wpAnyH_ready (rs := [3, 6]) (by kernel_rfl) (by simp) ?_
      refine AllReadyH.cons rfl (fun K1 hK1 => ?_) (AllReadyH.cons rfl (fun K1 hK1 => ?_) AllReadyH.nil)
      · refine wanted_go rfl ?_
        simp only [List.getElem_toArray, List.getElem_cons_zero, List.getElem_cons_succ]
        have HC1 := Lib.hid (clone51 fn WB.drew (by omega))
        go_wp2_with (go_at_call 43; refine HC1.out.mono ?_; rintro e w1 ⟨rfl, hb1⟩; have HB1 := Lib.hid hb1; clear hb1)
        have HL1 : Hid (Below WB.heap.size WB w1) := ((Below.refl WB.heap.size WB).drew).trans (HB1.out.mono ((Below.refl WB.heap.size WB).drew).size)
        refine hK1.out _ _ ((HL1.out.block _ (lt_of_blkD HX.out.1)).trans HX.out.1) (fun hS1 => ?_)
        refine wpAnyH_ready (rs := [6]) (by kernel_rfl) (by simp) ?_
        refine AllReadyH.cons rfl (fun K2 hK2 => ?_) AllReadyH.nil
        refine wanted_go rfl ?_
        simp only [List.getElem_toArray, List.getElem_cons_zero, List.getElem_cons_succ]
        obtain ⟨cp, w2, hcv, hby, hgr, hsz⟩ := conv_bytes w1 fb (by omega)
        have HBY := Lib.hid hby; have HSZ := Lib.hid hsz
        have HL2 : Hid (Below WB.heap.size WB w2) := (HL1.out).grown hgr (HL1.out).size (fun k hk => by cases hk)
        clear hby hgr hsz
        unfold sliceB at hcv
        go_wp2
        clear hcv
        refine hK2.out _ _ ((HL2.out.block _ (lt_of_blkD HX.out.1)).trans HX.out.1) (fun hS2 => ?_)
        refine wpAnyH_ready (rs := [7]) (by kernel_rfl) (by simp) ?_
        refine AllReadyH.cons rfl (fun K3 hK3 => ?_) AllReadyH.nil
        refine wanted_go rfl ?_
        simp only [List.getElem_toArray, List.getElem_cons_zero, List.getElem_cons_succ]
        obtain ⟨w3, hup, hm2, hg2⟩ := HM.out.add (W1 := w2) HL.out (by simp; omega) fn fb (w1.heap.size, cp) (by unfold maxLen; omega) hfb0 HL2.out HBY.out HL1.out.size HX.out.2.2.1
        have HM2 := Lib.hid hm2; have HG2 := Lib.hid hg2; clear hm2 hg2
        unfold sliceB at hup
        go_wp2
        clear hup
        refine hK3.out _ _ ((HG2.out.block _ (lt_of_blkD hS2) (by have := HX.out.2.1; simp; omega)).trans hS2) (fun _ => ?_)
        refine wpAnyH_done (by kernel_rfl) ?_ _
        have HBF : Hid (Below w.heap.size w w3) := (HX.out.2.2.2.trans (HL2.out.mono HX.out.2.2.1)).grown HG2.out (Nat.le_trans HX.out.2.2.1 HL2.out.size) (fun k hk => by cases hk; exact Nat.le_refl _)
        have HSF : Hid (w.heap.size < w3.heap.size) := Nat.lt_of_lt_of_le (Nat.lt_of_le_of_lt (Nat.le_of_lt HX.out.2.1) (Nat.lt_of_lt_of_le (lt_of_blkD HX.out.1) HL2.out.size)) HG2.out.size
        go_wp2
        go_roundw
        case rel => exact ⟨⟨i + 1, by omega, by go_num, HM2.out.same HNX.out⟩, HBF.out, HSF.out⟩
        case measure => simp [intOf]; omega
      · refine wanted_go rfl ?_
        simp only [List.getElem_toArray, List.getElem_cons_zero, List.getElem_cons_succ]
        obtain ⟨cp, w1, hcv, hby, hgr, hsz⟩ := conv_bytes WB.drew fb (by omega)
        have HBY := Lib.hid hby; have HSZ := Lib.hid hsz
        have HL1 : Hid (Below WB.heap.size WB w1) := ((Below.refl WB.heap.size WB).drew).grown hgr ((Below.refl WB.heap.size WB).drew).size (fun k hk => by cases hk)
        clear hby hgr hsz
        unfold sliceB at hcv
        go_wp2
        clear hcv
        refine hK1.out _ _ ((HL1.out.block _ (lt_of_blkD HX.out.1)).trans HX.out.1) (fun hS1 => ?_)
        refine wpAnyH_ready (rs := [3]) (by kernel_rfl) (by simp) ?_
        refine AllReadyH.cons rfl (fun K2 hK2 => ?_) AllReadyH.nil
        refine wanted_go rfl ?_
        simp only [List.getElem_toArray, List.getElem_cons_zero, List.getElem_cons_succ]
        have HC2 := Lib.hid (clone51 fn w1 (by omega))
        go_wp2_with (go_at_call 43; refine HC2.out.mono ?_; rintro e w2 ⟨rfl, hb2⟩; have HB2 := Lib.hid hb2; clear hb2)
        have HL2 : Hid (Below WB.heap.size WB w2) := (HL1.out).trans (HB2.out.mono (HL1.out).size)
        refine hK2.out _ _ ((HL2.out.block _ (lt_of_blkD HX.out.1)).trans HX.out.1) (fun hS2 => ?_)
        refine wpAnyH_ready (rs := [7]) (by kernel_rfl) (by simp) ?_
        refine AllReadyH.cons rfl (fun K3 hK3 => ?_) AllReadyH.nil
        refine wanted_go rfl ?_
        simp only [List.getElem_toArray, List.getElem_cons_zero, List.getElem_cons_succ]
        obtain ⟨w3, hup, hm2, hg2⟩ := HM.out.add (W1 := w2) HL.out (by simp; omega) fn fb (WB.heap.size, cp) (by unfold maxLen; omega) hfb0 HL2.out (HBY.out.block (HB2.out.block _ HBY.out.lt)) (Nat.le_refl _) HX.out.2.2.1
        have HM2 := Lib.hid hm2; have HG2 := Lib.hid hg2; clear hm2 hg2
        unfold sliceB at hup
        go_wp2
        clear hup
        refine hK3.out _ _ ((HG2.out.block _ (lt_of_blkD hS2) (by have := HX.out.2.1; simp; omega)).trans hS2) (fun _ => ?_)
        refine wpAnyH_done (by kernel_rfl) ?_ _
        have HBF : Hid (Below w.heap.size w w3) := (HX.out.2.2.2.trans (HL2.out.mono HX.out.2.2.1)).grown HG2.out (Nat.le_trans HX.out.2.2.1 HL2.out.size) (fun k hk => by cases hk; exact Nat.le_refl _)
        have HSF : Hid (w.heap.size < w3.heap.size) := Nat.lt_of_lt_of_le (Nat.lt_of_le_of_lt (Nat.le_of_lt HX.out.2.1) (Nat.lt_of_lt_of_le (lt_of_blkD HX.out.1) HL2.out.size)) HG2.out.size
        go_wp2
        go_roundw
        case rel => exact ⟨⟨i + 1, by omega, by go_num, HM2.out.same HNX.out⟩, HBF.out, HSF.out⟩
        case measure => simp [intOf]; omega
    · have hie : i = l.length := by omega
      subst hie
      rw [List.take_length] at HM0
      clear hbel
      go_wp2
      go_ret
      exact ⟨rfl, HM0.out, HB.out⟩

/-- A map is ranged over: some names are still to come. -/
structure RngG (W : World) (F : Nat → Prop) (m it : Nat) (r : ByteArray → ByteArray) (D : DataW Value) (G : ByteArray → Nat × Nat) (left : Lit → Bool) (cnt : Nat) : Prop where
  map : MapG W F m r D G
  rng : W.ranges Try.prog 9 RH m it (Maps.size D) D left cnt
/-- What is no longer to come. -/
def gone (r : ByteArray → ByteArray) (left : Lit → Bool) : ByteArray → ByteArray := fun s => if left (kS s) = true then ⟨#[]⟩ else r s
theorem gone_step (r : ByteArray → ByteArray) (left : Lit → Bool) (x : ByteArray) (s : ByteArray) : gone r (fun z => left z && !z.sameKey (kS x)) s = upd (gone r left) x (r x) s := by
  unfold gone upd
  by_cases e : s = x
  · subst e
    have : (kS s).sameKey (kS s) = true := WideAt.sameKey_self (kS_key _)
    simp [this]
  · rw [if_neg e]
    have : (kS s).sameKey (kS x) = false := Maps.sameKey_ne (fun e2 => e (kS_inj e2))
    simp [this]
/-- What an entry that comes is. -/
theorem MapG.entry {W : World} {F : Nat → Prop} {m : Nat} {r : ByteArray → ByteArray} {D : DataW Value} {G : ByteArray → Nat × Nat} (h : MapG W F m r D G) {x : List UInt8} {ca : Option Addr} {cn cc : Nat} {kl : Lit} {y : DataW Value × List MemPlace} (hk : keyOf Try.prog 9 (.string ⟨x.toArray⟩) = some kl) (hR : RH (.slice ca cn cc) = some y) (hat : ∀ zd, D.atKey kl zd = y.1) :
    kl = kS ⟨x.toArray⟩ ∧ (r ⟨x.toArray⟩).size ≠ 0 ∧ (.slice ca cn cc : Value) = sliceB (G ⟨x.toArray⟩) (r ⟨x.toArray⟩) ∧ x.length ≤ maxLen := by
  obtain ⟨x', ex, hkl, hxl⟩ := Maps.keyOf_str Try.underlying9 hk
  have hxx : x = x' := encStr_inj ex
  subst hxx
  have hkl2 : kl = kS ⟨x.toArray⟩ := by rw [hkl]; simp [kS]
  subst hkl2
  have hh := h.has ⟨x.toArray⟩
  rw [Maps.has_true_of_atKey hat] at hh
  have h0 : (r ⟨x.toArray⟩).size ≠ 0 := of_decide_eq_true hh.symm
  have hv := h.val _ h0 .nil
  rw [hat] at hv
  obtain ⟨hy, _⟩ := RH_inv hR
  rw [hy] at hv
  exact ⟨rfl, h0, by simpa using hv, hxl⟩
theorem gone_start (r : ByteArray → ByteArray) {D : DataW Value} (h : ∀ s, Maps.has D (kS s) = decide ((r s).size ≠ 0)) (s : ByteArray) : gone r (Maps.has D) s = ⟨#[]⟩ := by
  unfold gone
  rw [h]
  by_cases e : (r s).size = 0
  · rw [empty_of_size e]; simp
  · simp [e]
theorem gone_end (r : ByteArray → ByteArray) {left : Lit → Bool} (h : ∀ kl, left kl = false) (s : ByteArray) : gone r left s = r s := by
  unfold gone; rw [h]; simp

set_option maxRecDepth 100000 in
set_option maxHeartbeats 4000000 in
theorem again34 (m : Nat) (F : Nat → Prop) (r : ByteArray → ByteArray) (w : World) (h : MapAt w F m r) (L : List ByteArray) (hL : ∀ s, (r s).size ≠ 0 → s ∈ L) (hl : L.length ≤ 100000) (hmx : ∀ s, (r s).size ≤ 3000000) :
    Calls Try.prog 34 #[.map (some m)] w fun e w' => e = .returned (.map (some w.heap.size)) ∧ MapAt w' (Rng w.heap.size w'.heap.size) w.heap.size r ∧ Below w.heap.size w w' := by
  have hmm := @run_makeMap Try.prog
  obtain ⟨D, G, hG⟩ := h
  have hml := hG.lt
  have HG := Lib.hid hG
  have HL := Lib.hid hL
  have HMX := Lib.hid hmx
  clear hG hL hmx
  have e1 : (w.alloc (.map #[] 0)).heap.size = w.heap.size + 1 := by simp
  have hown1 : (w.alloc (.map #[] 0)).ownsMap Try.prog 9 RH m (Maps.size D) D := HG.out.own.alloc _
  go_enter Try.func34, Try.ntmps34
  go_wp2_with (first
    | (at_range; refine wpList_range_own _ rfl _ 63 rfl 9 72 keyed9 Try.underlying63 RH m _ D rfl hown1 ?_; intro w0 hrg0 hg0 hs0)
    | go_in)
  go_frame
  rw [e1] at hrg0 hs0 ⊢
  go_loopw [4] (fun _ wr => ∃ (left : Lit → Bool) (cnt : Nat), wr.ranges Try.prog 9 RH m (w.heap.size + 1) (Maps.size D) D left cnt ∧ MapAt wr (Rng w.heap.size wr.heap.size) w.heap.size (gone r left) ∧ Below w.heap.size w wr ∧ w.heap.size + 2 ≤ wr.heap.size)
    (fun _ wr => wr.rangeLeft m (w.heap.size + 1))
  case atStart =>
    refine ⟨_, _, hrg0, ?_, ((Below.refl _ _).alloc (Nat.le_refl _) _).grown hg0 (by simp) (fun j hj => by cases hj), by omega⟩
    have h1 := (MapAt.made w (Rng w.heap.size (w.heap.size + 1)) ⟨Nat.le_refl _, by omega⟩).keep (W' := w0) (F' := Rng w.heap.size w0.heap.size) (fun k hk _ => hg0.block k hk (by simp)) (fun k hk => ⟨hk.1, by have := hk.2; omega⟩)
    exact h1.same (fun s => gone_start r HG.out.has s)
  case round =>
    obtain ⟨left, cnt, hrg, hmap, hbel, hbs⟩ := hrel
    have HM := Lib.hid hmap
    have HB := Lib.hid hbel
    clear hmap hbel
    go_wp2_with (first
      | (at_next; refine wpList_next_ranges _ rfl _ rfl 9 keyed9 RH (fun x : List UInt8 => .string ⟨x.toArray⟩) (fun c : Option Addr × Nat × Nat => .slice c.1 c.2.1 c.2.2) (fun key kl hk => by obtain ⟨x, hx, _⟩ := Maps.keyOf_str Try.underlying9 hk; exact ⟨x, hx⟩) (fun v y hv => (RH_inv hv).2) m (w.heap.size + 1) _ D _ _ rfl hrg ?_ ?_)
      | go_in)
    · intro hc0 hl0
      have HM3 := Lib.hid (HM.out.same (fun s => (gone_end r hl0 s).symm))
      clear hl0 hc0
      go_wp2
      go_ret
      exact ⟨rfl, HM3.out, HB.out⟩
    · intro x ca cn cc kl yd yp w2 cnt2 hkey hlk hv hat hrg2 hlt hg2 hs2 hen
      obtain ⟨hkl, h0, hval, hxl⟩ := HG.out.entry hkey hv hat
      subst hkl
      have HG2 := HG.out.keep (W' := w2) (F' := F) (fun k hk _ => (hg2.block k (Nat.lt_of_lt_of_le hk HB.out.size) (by simp; omega)).trans (HB.out.block k hk)) (fun _ h => h)
      have hby := HG2.byt _ h0
      have hb3 := HMX.out ⟨x.toArray⟩
      have hit := ranges_iter hrg
      have HMW : Hid (MapAt w2 (Rng w.heap.size w2.heap.size) w.heap.size (gone r left)) := HM.out.keepT (fun k o ho hi _ => (hg2.block k (lt_of_blkD ho) (fun e => by
          obtain rfl : k = w.heap.size + 1 := by simpa using e
          obtain ⟨o2, ho2, hi2⟩ := hit
          rw [ho] at ho2; cases ho2; rw [hi] at hi2; cases hi2)).trans ho) (fun k hk => ⟨hk.1, by have := hk.2; omega⟩)
      have HS2 : Hid (w.heap.size + 2 ≤ w2.heap.size) := by show w.heap.size + 2 ≤ w2.heap.size; omega
      have HR2 := Lib.hid hrg2; have HBW : Hid (Below w.heap.size w w2) := HB.out.grown hg2 HB.out.size (fun k hk => by cases hk; omega)
      have HGS := Lib.hid (gone_step r left ⟨x.toArray⟩)
      have HLT : Hid (w2.rangeLeft m (w.heap.size + 1) < wr.rangeLeft m (w.heap.size + 1)) := by show w2.rangeLeft m (w.heap.size + 1) < wr.rangeLeft m (w.heap.size + 1); rw [hrg2.left_eq, hrg.left_eq]; exact hlt
      rw [hval] at hen ⊢
      have HXL : Hid ((⟨x.toArray⟩ : ByteArray).size ≤ maxLen) := by show (⟨x.toArray⟩ : ByteArray).size ≤ maxLen; simpa [ByteArray.size] using hxl
      generalize (⟨x.toArray⟩ : ByteArray) = nm at *
      generalize G nm = g at *
      generalize r nm = bs at *
      have HC := Lib.hid (clone45 g bs w2 hby h0 hb3)
      have H0 := Lib.hid h0
      have HGL : Hid (∀ s, (gone r left s).size ≠ 0 → s ∈ L) := fun s hs => HL.out s (by
        unfold gone at hs; split at hs
        · exact absurd rfl hs
        · exact hs)
      clear hs2 hv hat hkey hlk hval hby h0 hb3 hxl HG2 hg2 hrg2 hit hlt hrg hbs
      unfold sliceB at hen HC ⊢
      go_wp2_with (first
        | (go_at_call 45; refine HC.out.mono ?_; rintro e w3 ⟨g', rfl, hby3, hge3, hb3⟩
           have HB3 := Lib.hid hb3
           obtain ⟨w4, hup, hm4, hg4⟩ := HMW.out.add (W1 := w3) HGL.out hl nm bs g' HXL.out H0.out hb3 hby3 hge3 (by have := HS2.out; omega)
           have HM4 := Lib.hid hm4; have HG4 := Lib.hid hg4
           clear hby3 hge3 hb3 hm4 hg4
           unfold sliceB at hup)
        | go_in)
      have hb3 := HB3.out
      have hgr3 : w2.grownBy w3 none := ⟨hb3.os, hb3.tape, hb3.output, hb3.size, fun k hk _ => hb3.block k hk⟩
      have hrg4 := (HR2.out.kept hgr3 (by simp) (by simp)).kept HG4.out (fun e => by have := Option.some.inj e; omega) (fun e => by have := Option.some.inj e; omega)
      go_roundw
      case rel =>
        exact ⟨_, cnt2, hrg4, HM4.out.same HGS.out, (HBW.out.trans (hb3.mono (by have := HS2.out; omega))).grown HG4.out (by have := HS2.out; have := hb3.size; omega) (fun j hj => by cases hj; exact Nat.le_refl _), by have := HS2.out; have := hb3.size; have := HG4.out.size; omega⟩
      case measure => rw [hrg4.left_eq, ← HR2.out.left_eq]; exact HLT.out
end Go.Proofs.Ytcedkilgfoiifaa
