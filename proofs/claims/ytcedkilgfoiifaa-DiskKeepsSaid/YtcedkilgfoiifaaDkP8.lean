/- The program's list of a map's files; its cut; the making of a write. -/
import Derived.Test.YtcedkilgfoiifaaDkP7
import Derived.Test.YtcedkilgfoiifaaDkIter
import Derived.Test.YtcedkilgfoiifaaDkCut
import Derived.Sort.Walk0
namespace Go.Proofs.Ytcedkilgfoiifaa
open Go.RowKit Base Base2

set_option maxRecDepth 100000 in
theorem written42 (nm s : ByteArray) (pl : Nat) (w : World) :
    Calls Try.prog 42 #[.string nm, .int .i64 (pl : Int), .string s] w fun e w' => e = .returned (.func (.func 47) #[] #[.pointer (some ⟨w.heap.size, 0, none⟩), .pointer (some ⟨w.heap.size + 1, 0, none⟩), .pointer (some ⟨w.heap.size + 2, 0, none⟩)]) ∧
      (w'.heap[w.heap.size]? = some (.cells #[.string nm] 9 (0, 0)) ∧ w'.heap[w.heap.size + 1]? = some (.cells #[.int .i64 (pl : Int)] 3 (0, 0)) ∧ w'.heap[w.heap.size + 2]? = some (.cells #[.string s] 9 (0, 0))) ∧ Below w.heap.size w w' ∧ w'.heap.size = w.heap.size + 3 := by
  obtain ⟨h1, h2, h3, h4⟩ := three_alloc (w := w) (A := .cells #[.string nm] 9) (B := .cells #[.int .i64 (pl : Int)] 3) (C := .cells #[.string s] 9)
  have H1 := Lib.hid h1; have H2 := Lib.hid h2; have H3 := Lib.hid h3; have H4 := Lib.hid h4
  clear h1 h2 h3 h4
  go_enter Try.func42, Try.ntmps42
  go_wp2
  go_ret
  exact ⟨rfl, ⟨H1.out, H2.out, H3.out⟩, H4.out, by simp⟩

theorem wpList_delete_run {ops : Array Oper} {rest : List Oper} {o : Oper} {a : Act} {w : World} {Q : Exit → Act → World → Prop} (hg : o.guard = none) (m x : Operand) (ho : o.op = .call { callee := .builtin .delete, args := #[m, x], argTypes := #[63, 9] })
    (mv xv : Value) (W1 : World) (hm : a.eval m = mv) (hx : a.eval x = xv) (hrun : ∀ ty, (Builtin.delete_ #[63, 9] ty #[mv, xv]).run Try.prog w = .ok (.tuple #[]) W1) (h : wpList Try.prog ops Q rest (a.put o.dst (.tuple #[])) W1) : wpList Try.prog ops Q (o :: rest) a w := by
  refine wpList_plain hg fun K' hK' => ?_
  unfold Oper.wp
  simp [execOp, ho, resolve, invoke, builtin, hm, hx, hrun, Result.andThen]
  exact hK' _ _ h
/-- A file cut. -/
def cutR (r : ByteArray → ByteArray) (s : ByteArray) (n : Nat) : ByteArray → ByteArray := if n < (r s).size then upd r s ((r s).extract 0 n) else r
set_option maxRecDepth 100000 in
set_option maxHeartbeats 2000000 in
theorem cut37 (m : Nat) (F : Nat → Prop) (r : ByteArray → ByteArray) (nm : ByteArray) (n : Nat) (w : World) (h : MapAt w F m r) (L : List ByteArray) (hL : ∀ s, (r s).size ≠ 0 → s ∈ L) (hl : L.length ≤ 100000) (hnm : nm.size ≤ 100) (hn : (n : Int) ≤ 9223372036854775807) :
    Calls Try.prog 37 #[.map (some m), .string nm, .int .i64 (n : Int)] w fun e w' => e = .returned (.tuple #[]) ∧ MapAt w' (More F w.heap.size w'.heap.size) m (cutR r nm n) ∧ FrameM F w w' := by
  obtain ⟨D, G, hG⟩ := h
  have hlk := hG.look nm (by unfold maxLen; omega)
  have hmore : ∀ W', MapAt W' F m (cutR r nm n) → MapAt W' (More F w.heap.size W'.heap.size) m (cutR r nm n) := fun W' h => h.keep (fun _ _ _ => rfl) (fun k hk => .inl hk)
  by_cases hlt : n < (r nm).size
  · have h0 : (r nm).size ≠ 0 := by omega
    rw [if_neg h0] at hlk
    have hB := hG.byt nm h0
    have hle := hB.le
    by_cases hn0 : n = 0
    · subst hn0
      obtain ⟨W2, hrun0, hm2, hg2, hs2⟩ := hG.strike nm (by unfold maxLen; omega) 0
      have hrun : ∀ ty, (Builtin.delete_ #[63, 9] ty #[.map (some m), .string nm]).run Try.prog w = .ok (.tuple #[]) W2 := fun ty => hrun0
      have e : cutR r nm 0 = upd r nm ⟨#[]⟩ := by
        unfold cutR; rw [if_pos hlt, show (r nm).extract 0 0 = ⟨#[]⟩ from empty_of_size (by simp)]
      have HR := Lib.hid (hmore W2 (by rw [e]; exact hm2))
      have HF : Hid (FrameM F w W2) := ⟨hg2.os, hg2.tape, hg2.output, hg2.size, fun k o ho hn => (hg2.block k (lt_of_blkD ho) (fun e => by
        obtain rfl : k = m := by simpa using e
        obtain ⟨es, clock, hb, _⟩ := hG.own
        rw [ho] at hb; cases hb
        exact hn rfl hG.inF)).trans ho⟩
      have h00 : ¬ (r nm).size = 0 := h0
      unfold sliceB at hlk
      clear hmore hL hG hB hm2 hg2 hs2 hrun0 e h0 hlt
      go_enter Try.func37, Try.ntmps37
      go_wp2_with (at_builtin; refine wpList_delete_run rfl _ _ rfl _ _ W2 rfl rfl hrun ?_)
      go_end0
      exact ⟨rfl, HR.out, HF.out⟩
    · have hex : ((r nm).extract 0 n).size = n := by simp; omega
      have hsh : BytsAt w (G nm) ((r nm).extract 0 n) := ⟨hB.row, by omega, hB.max, hB.isc, hB.free, fun j u hu => hB.get j u (by
        obtain ⟨b, h1, rfl⟩ := bcell.1 hu
        refine bcell.2 ⟨b, ?_, rfl⟩
        have hj := (List.getElem?_eq_some_iff.1 h1).1
        rw [show ((r nm).extract 0 n).data.toList = (r nm).data.toList.take n from by simp] at h1
        rw [List.getElem?_take] at h1
        split at h1
        · exact h1
        · cases h1)⟩
      obtain ⟨W2, hrun, hm2, hg2, hfr⟩ := hG.put (W1 := w) hL hl nm ((r nm).extract 0 n) (G nm) (by unfold maxLen; omega) (by omega) hsh (World.grownBy.refl w _) (.inl ⟨h0, rfl⟩)
      have e : cutR r nm n = upd r nm ((r nm).extract 0 n) := by unfold cutR; rw [if_pos hlt]
      have HR : Hid (MapAt W2 (More F w.heap.size W2.heap.size) m (cutR r nm n)) := by show MapAt _ _ _ _; rw [e]; exact hm2
      have HF := Lib.hid hfr
      have hle2 : ¬ ((r nm).size : Int) ≤ (n : Int) := by omega
      have hnz : ¬ (n : Int) = 0 := by omega
      have hnc : n ≤ (G nm).2 := by omega
      unfold sliceB at hlk hrun
      rw [hex] at hrun
      clear hmore hL hG hB hm2 hg2 hfr e h0 hsh hex
      go_enter Try.func37, Try.ntmps37
      go_wp2
      go_end0
      exact ⟨rfl, HR.out, HF.out⟩
  · have e : cutR r nm n = r := by unfold cutR; rw [if_neg hlt]
    rw [e]
    have HR := Lib.hid (MapAt.keep ⟨D, G, hG⟩ (W' := w) (F' := More F w.heap.size w.heap.size) (fun _ _ _ => rfl) (fun k hk => .inl hk))
    clear hmore hL hG e
    by_cases h0 : (r nm).size = 0
    · rw [if_pos h0] at hlk
      clear hlt h0
      go_enter Try.func37, Try.ntmps37
      go_wp2
      go_end0
      exact ⟨rfl, HR.out, FrameM.refl _ _⟩
    · rw [if_neg h0] at hlk
      unfold sliceB at hlk
      have hle : ((r nm).size : Int) ≤ (n : Int) := by omega
      clear hlt h0
      go_enter Try.func37, Try.ntmps37
      go_wp2
      go_end0
      exact ⟨rfl, HR.out, FrameM.refl _ _⟩

theorem keys_sorted {W : World} {F : Nat → Prop} {m : Nat} {D : DataW Value} {G : ByteArray → Nat × Nat} {l : List FileT} (h : MapG W F m (readF l) D G) (hri : RiseF l) (hgo : GoodF l) {ss : List (List UInt8)} (hp : ss.Perm (strKeys D)) :
    ss.mergeSort (fun x y => decide (x ≤ y)) = l.map (fun f => f.1.data.toList) ∧ ss.length = l.length := by
  obtain ⟨es, he, hpa, _⟩ := h.own.entries keyed9
  obtain ⟨es', he', hk⟩ := h.own.keysOf
  subst he
  obtain rfl : es = es' := by simpa using he'
  have hlt : (l.map (fun f => f.1.data.toList)).Pairwise (fun x y => x < y) := by
    rw [List.pairwise_map]
    refine List.Pairwise.imp (fun {a b} hab => ?_) hri
    have : Op.bytesLess a.1.toList b.1.toList = true := hab
    rw [bytesLess_eq, ByteArray.toList_eq, ByteArray.toList_eq] at this
    exact of_decide_eq_true this
  have hmem : ∀ x, x ∈ l.map (fun f => f.1.data.toList) ↔ Maps.has (.map es) (.string x) = true := fun x => by
    have hh := h.has ⟨x.toArray⟩
    rw [show kS ⟨x.toArray⟩ = .string x by simp [kS]] at hh
    rw [hh, decide_eq_true_iff]
    constructor
    · intro hx
      obtain ⟨f, hf, e⟩ := List.mem_map.1 hx
      have : f.1 = ⟨x.toArray⟩ := by apply ByteArray.ext; rw [← e]
      rw [← this, readF_mem hri hf]; exact (hgo f hf).2
    · intro h0
      obtain ⟨f, hf, e, _⟩ := readF_some h0
      exact List.mem_map.2 ⟨f, hf, by rw [e]⟩
  have hnd : (l.map (fun f => f.1.data.toList)).Nodup := hlt.imp (fun {a b} hab e => by rw [e] at hab; exact absurd hab (List.lt_irrefl _))
  have hperm := perm_strKeys (es := es) hpa (fun p hpm => by
    obtain ⟨v, hv⟩ := hk p hpm
    obtain ⟨x, _, hx, _⟩ := Maps.keyOf_str Try.underlying9 hv
    exact ⟨x, hx⟩) hnd hmem
  have hpp := hp.trans hperm.symm
  refine ⟨(mergeSort_of_perm hpp).trans (List.mergeSort_of_pairwise (hlt.imp (fun {a b} hab => decide_eq_true (List.le_of_lt hab)))), ?_⟩
  rw [hpp.length_eq, List.length_map]
/-- A row of names. -/
def KeysAt (W : World) (a : Option Addr) (l : List FileT) : Prop := l = [] ∨ ∃ g cur, a = some ⟨g, 0, none⟩ ∧ W.heap[g]? = some (.cells cur 9 (0, 0)) ∧ ∀ (i : Nat) (f : FileT), l[i]? = some f → cur[i]? = some (.string f.1)
theorem own_keys {W : World} {base : Nat} {v : Value} {l : List FileT} (h : W.ownsRow base 9 1 v l.length ((l.map (fun f => f.1.data.toList)).map encStr)) : ∃ a c, v = .slice a l.length c ∧ KeysAt W a l := by
  obtain ⟨h1, h2⟩ := h
  rcases h2 with ⟨rfl, h0⟩ | ⟨g, cap, cur, rfl, a1, a2, a3, a4, a5, a6⟩
  · exact ⟨none, 0, by rw [h0], .inl (List.eq_nil_of_length_eq_zero h0)⟩
  · refine ⟨_, _, rfl, .inr ⟨g, cur, rfl, a2, fun i f hi => ?_⟩⟩
    rw [← Array.getElem?_toList]
    have hil := (List.getElem?_eq_some_iff.1 hi).1
    have h3 : (cur.toList.take (l.length * 1))[i]? = some (.string f.1) := by
      rw [a6, List.map_map, List.getElem?_map, hi]
      simp [encStr]
    rw [List.getElem?_take, if_pos (by omega)] at h3
    exact h3

theorem SetR.bel {w W W' : World} {out : List FileT} {v : Value} (h : SetR w out v W) (hb : Below W.heap.size W W') : SetR w out v W' := ⟨own_below' h.own hb, h.lo.trans (hb.mono h.lo.size)⟩
set_option maxRecDepth 100000 in
set_option maxHeartbeats 4000000 in
theorem list44 (m : Nat) (F : Nat → Prop) (l : List FileT) (w : World) (h : MapAt w F m (readF l)) (hl : l.length ≤ 1000) (hri : RiseF l) (hgo : GoodF l) (hmx : MaxF l) :
    Calls Try.prog 44 #[.map (some m)] w fun e w' => (∃ a c, e = .returned (.slice a l.length c) ∧ FilesAt w' a l) ∧ Below w.heap.size w w' := by
  obtain ⟨i0, hi0, hz0, hz1, hz2⟩ := info_parts infoFile
  obtain ⟨D, G, hG⟩ := h
  have HG := Lib.hid hG
  have HRI := Lib.hid hri; have HGO := Lib.hid hgo; have HMX := Lib.hid hmx
  have hD : Maps.size D ≤ l.length := by
    have := hG.size_le (L := l.map (fun f => f.1)) (fun s hs => readF_names hs)
    simpa using this
  have hK1 := Lib.hid (fun W => (callsIn_wide (n := 5)).1 (shmaps_Keys_51 (some m) W))
  have hK2 := Lib.hid ((callsIn_wide (n := 5)).1 (shslices_Sorted_keys_50_51 m (Maps.size D) D RH w HG.out.own (by unfold maxLen; omega) (by omega)))
  have HKS := Lib.hid (fun ss hp => keys_sorted (ss := ss) HG.out HRI.out HGO.out hp)
  have HEND := Lib.hid (fun (W : World) (v : Value) (hs : SetR w l v W) => files_own hs.own)
  clear hG hri hgo hmx hD
  go_enter Try.func44, Try.ntmps44
  go_wp2_with (first
    | (go_at_call 51; refine (hK1.out _).mono ?_; rintro e w' ⟨rfl, rfl⟩)
    | (go_at_call 50; refine hK2.out.mono ?_; rintro e w5 ⟨v5, ss, rfl, hS, hrow, hnil, hb⟩
       have hks := HKS.out ss hS
       rw [hks.1, hks.2] at hrow
       obtain ⟨ak, ck, rfl, hka⟩ := own_keys hrow
       have HKA := Lib.hid hka
       have HB5 : Hid (Below w.heap.size w w5) := ((Below.refl _ w).alloc (Nat.le_refl _) _).trans (hb.mono (by simp))
       clear hb hrow hks hS hnil hka))
  go_loopw [3, 10] (fun v vi W => ∃ i : Nat, i ≤ l.length ∧ vi = .int .i64 (i : Int) ∧ SetR w (l.take i) v W ∧ KeysAt W ak l) (fun _ vi _ => l.length - (intOf vi).toNat)
  case atStart => exact ⟨0, by omega, rfl, (SetR.nil w).bel HB5.out, HKA.out⟩
  case round =>
    obtain ⟨i, hi, rfl, hs, hka⟩ := hrel
    have HS := Lib.hid hs
    have HKW := Lib.hid hka
    clear hs
    by_cases hlt : i < l.length
    · obtain ⟨f, hf⟩ : ∃ f, l[i]? = Option.some f := ⟨l[i], by simp [hlt]⟩
      rcases hka with hka | ⟨g, cur, rfl, hgc, hcs⟩
      · rw [hka] at hlt; simp at hlt
      have hck := cellP hgc i _ (hcs i f hf)
      have HGC := Lib.hid hgc
      have HCS := Lib.hid hcs
      have hfm := List.mem_of_getElem? hf
      obtain ⟨hn0, hfb0⟩ := HGO.out f hfm
      have hfbm := HMX.out f hfm
      have hnm := named_size hn0
      have hrd := readF_mem HRI.out hfm
      have htk : l.take (i + 1) = l.take i ++ [f] := by rw [List.take_add_one, hf]; rfl
      obtain ⟨nm, bs⟩ := f
      dsimp only at hck hn0 hfb0 hfbm hnm hrd
      have HTK := Lib.hid htk
      have hrow := HG.out.byt nm (by rw [hrd]; exact hfb0)
      rw [hrd] at hrow
      have HLK : Hid (∀ W, Below w.heap.size w W → (Instr.lookup 63 (.map (some m)) (.string nm) false).run Try.prog W = .ok (sliceB (G nm) bs) W) := fun W hW => by
        have := (HG.out.keep (W' := W) (F' := F) (fun k hk _ => hW.block k hk) (fun _ h => h)).look nm (by unfold maxLen; omega)
        rw [hrd, if_neg hfb0] at this; exact this
      have HCV : Hid (∀ W, Below w.heap.size w W → (convert 72 9 (sliceB (G nm) bs)).run Try.prog W = .ok (.string bs) W) := fun W hW => conv_text W (G nm) bs (hrow.block (hW.block _ hrow.lt))
      have b1 : (l.take i).length + 1 ≤ maxLen := by rw [List.length_take]; unfold maxLen; omega
      have b2 : ((l.take i).length + 1) * 32 ≤ 140737488355328 := by rw [List.length_take]; omega
      have hlen : (l.take i).length = i := by rw [List.length_take]; omega
      clear hcs hgc hf hfm hn0 hrd htk hrow hlen
      go_upto_region 5 with (fail)
      refine wp_region_held_drew (S := fun W => Below w.heap.size w W) (by kernel_rfl) (HS.out.lo.drew) (fun hS => ?_)
      refine wpAnyH_take (i := 0) (v := u3) rfl (by kernel_rfl) (by kernel_rfl) (by kernel_rfl) (fun _ _ _ h => h) (Or.inl ⟨by simp [Region.wanted], fun W _ => by go_simp⟩) hS ?_
      simp only [List.getElem_toArray, List.getElem_cons_zero, Act.put, List.setIfInBounds_toArray, List.set_cons_zero, List.set_cons_succ]
      refine wpAnyH_take (i := 1) (v := .string nm) rfl (by kernel_rfl) (by kernel_rfl) (by kernel_rfl) (fun _ _ _ h => h) (Or.inl ⟨by simp [Region.wanted], fun W _ => by go_simp⟩) hS ?_
      simp only [List.getElem_toArray, List.getElem_cons_zero, List.getElem_cons_succ, Act.put, List.setIfInBounds_toArray, List.set_cons_zero, List.set_cons_succ]
      refine wpAnyH_take (i := 3) (v := .map (some m)) rfl (by kernel_rfl) (by kernel_rfl) (by kernel_rfl) (fun _ _ _ h => h) (Or.inl ⟨by simp [Region.wanted], fun W _ => by go_simp⟩) hS ?_
      simp only [List.getElem_toArray, List.getElem_cons_zero, List.getElem_cons_succ, Act.put, List.setIfInBounds_toArray, List.set_cons_zero, List.set_cons_succ]
      refine wpAnyH_take (i := 4) (v := .string nm) rfl (by kernel_rfl) (by kernel_rfl) (by kernel_rfl) (fun _ _ _ h => h) (Or.inl ⟨by simp [Region.wanted], fun W _ => by go_simp⟩) hS ?_
      simp only [List.getElem_toArray, List.getElem_cons_zero, List.getElem_cons_succ, Act.put, List.setIfInBounds_toArray, List.set_cons_zero, List.set_cons_succ]
      refine wpAnyH_take (i := 5) (v := sliceB (G nm) bs) rfl (by kernel_rfl) (by kernel_rfl) (by kernel_rfl) (fun _ _ _ h => h) (Or.inl ⟨by simp [Region.wanted], fun W hW => by have hq := HLK.out W hW; go_simp⟩) hS ?_
      simp only [List.getElem_toArray, List.getElem_cons_zero, List.getElem_cons_succ, Act.put, List.setIfInBounds_toArray, List.set_cons_zero, List.set_cons_succ]
      refine wpAnyH_take (i := 6) (v := .string bs) rfl (by kernel_rfl) (by kernel_rfl) (by kernel_rfl) (fun _ _ _ h => h) (Or.inl ⟨by simp [Region.wanted], fun W hW => by have hq := HCV.out W hW; go_simp⟩) hS ?_
      simp only [List.getElem_toArray, List.getElem_cons_zero, List.getElem_cons_succ, Act.put, List.setIfInBounds_toArray, List.set_cons_zero, List.set_cons_succ]
      refine wpAnyH_ready (rs := [2]) (by kernel_rfl) (by simp) ?_
      refine AllReadyH.cons rfl (fun K1 hK1 => ?_) AllReadyH.nil
      refine wanted_go rfl ?_
      simp only [List.getElem_toArray, List.getElem_cons_zero, List.getElem_cons_succ]
      have HC := Lib.hid (clone51 nm wr.drew (by omega))
      go_wp2_with (go_at_call 43; refine HC.out.mono ?_; rintro e w1 ⟨rfl, hb1⟩; have HB1 := Lib.hid hb1; clear hb1)
      have HS1 : Hid (SetR w (l.take i) u3 w1) := SetR.bel (W := wr.drew) ⟨HS.out.own, HS.out.lo.drew⟩ HB1.out
      have HG1 : Hid (w1.heap[g]? = some (.cells cur 9 (0, 0))) := (HB1.out.block g (lt_of_blkD HGC.out)).trans HGC.out
      refine hK1.out _ _ (HS1.out.lo) (fun hS1 => ?_)
      refine wpAnyH_take (i := 7) (v := .agg #[.string nm, .string bs]) rfl (by kernel_rfl) (by kernel_rfl) (by kernel_rfl) (fun _ _ _ h => h) (Or.inl ⟨by simp [Region.wanted], fun W _ => by go_simp⟩) hS1 ?_
      simp only [List.getElem_toArray, List.getElem_cons_zero, List.getElem_cons_succ, Act.put, List.setIfInBounds_toArray, List.set_cons_zero, List.set_cons_succ]
      refine wpAnyH_ready (rs := [8]) (by kernel_rfl) (by simp) ?_
      refine AllReadyH.cons rfl (fun K2 hK2 => ?_) AllReadyH.nil
      refine wanted_go rfl ?_
      simp only [List.getElem_toArray, List.getElem_cons_zero, List.getElem_cons_succ]
      go_wp2
      refine hK2.out _ _ (HS1.out.lo.alloc HS1.out.lo.size _) (fun hS2 => ?_)
      refine wpAnyH_ready (rs := [9]) (by kernel_rfl) (by simp) ?_
      refine AllReadyH.cons rfl (fun K3 hK3 => ?_) AllReadyH.nil
      refine wanted_go rfl ?_
      simp only [List.getElem_toArray, List.getElem_cons_zero, List.getElem_cons_succ]
      refine wp_append_own _ _ _ 22 rfl w.heap.size 58 i0 (.agg #[.string ⟨#[]⟩, .string ⟨#[]⟩]) 2 32 Try.underlying22 hi0 hz0 hz1 hz2 rfl (by decide) _ _ _ rfl (HS1.out.own.alloc _) ⟨w1.heap.size, 0, none⟩ 1 1 [.string nm, .string bs] rfl rfl (new_two _ _ _ _) (one_two _ _) b1 b2 (by have := HS1.out.lo.size; simp; omega) ?_
      intro v2 w2 hown hgrow _
      have HA2 := Lib.hid (HS1.out.app hown hgrow)
      have HG2 : Hid (w2.heap[g]? = some (.cells cur 9 (0, 0))) := (hgrow.block g (by have := lt_of_blkD HG1.out; simp; omega) (own_ne' HS1.out.own HG1.out (by decide))).trans ((Below.heap_alloc _ _ _ (lt_of_blkD HG1.out)).trans HG1.out)
      clear hown hgrow
      refine hK3.out _ _ (HA2.out.lo) (fun hS3 => ?_)
      refine wpAnyH_take (i := 10) (v := v2) rfl (by kernel_rfl) (by kernel_rfl) (by kernel_rfl) (fun _ _ _ h => h) (Or.inl ⟨by simp [Region.wanted], fun W _ => by go_simp⟩) hS3 ?_
      simp only [List.getElem_toArray, List.getElem_cons_zero, List.getElem_cons_succ, Act.put, List.setIfInBounds_toArray, List.set_cons_zero, List.set_cons_succ]
      refine wpAnyH_done (by kernel_rfl) ?_ _
      go_wp2
      go_roundw
      case rel => exact ⟨i + 1, by omega, by go_num, by rw [HTK.out]; exact HA2.out, .inr ⟨g, cur, rfl, HG2.out, HCS.out⟩⟩
      case measure => simp [intOf]; omega
    · have hie : i = l.length := by omega
      subst hie
      rw [List.take_length] at HS
      obtain ⟨a, c, hv, hc, hfa, _⟩ := HEND.out _ _ HS.out
      subst hv
      clear hka
      go_wp2
      go_ret
      exact ⟨⟨a, c, rfl, hfa⟩, HS.out.lo⟩

end Go.Proofs.Ytcedkilgfoiifaa
