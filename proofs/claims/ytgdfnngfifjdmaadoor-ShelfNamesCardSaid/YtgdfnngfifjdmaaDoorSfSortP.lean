/- The program's Sorted: numbers gathered in a map of rows. -/
import Derived.Test.YtgdfnngfifjdmaaDoorSfGrp
import Derived.Test.YtgdfnngfifjdmaaDoorSfKindP
import Derived.Carry
namespace Go.Proofs.YtgdfnngfifjdmaaDoor
open Go.RowKit Base Base2

theorem keyed3 : Maps.Keyed Tryd.prog 3 := Maps.int_keyed Tryd.underlying3
theorem zero34 (w : World) : (zeroValue 34).run Tryd.prog w = .ok (.slice none 0 0) w := by kernel_rfl
theorem key3 (k : Int) (h : 0 ≤ k) (h3 : k ≤ 3) : keyOf Tryd.prog 3 (.int .i64 k) = some (kI k) := Maps.keyOf_int_mk Tryd.underlying3 (WalkArith.wf_i64 (by omega))
theorem groups_below {W W' : World} {base b n : Nat} {D : DataW Unit} (h : W.ownsGroups Tryd.prog 3 base 3 .i64 b n D) (hb : Below W.heap.size W W') : W'.ownsGroups Tryd.prog 3 base 3 .i64 b n D :=
  h.kept (row := none) ⟨hb.os, hb.tape, hb.output, hb.size, fun k hk _ => hb.block k hk⟩ (by simp) (fun _ _ _ x _ => by cases x.val.ownBlock <;> simp)

set_option maxRecDepth 100000 in
set_option maxHeartbeats 4000000 in
theorem sorted13 (a : Option Addr) (c : Nat) (l : List ByteArray) (w : World) (hr : NameRows w a l) (hl : l.length ≤ 60) (hs : ∀ s ∈ l, s.size ≤ 100) :
    Calls Tryd.prog 13 #[.slice a l.length c] w fun e w' => e = .returned (.map (some w.heap.size)) ∧ (∃ D, Grp l D ∧ w'.ownsGroups Tryd.prog 3 (w.heap.size + 1) 3 .i64 w.heap.size l.length D) ∧ Below w.heap.size w w' := by
  have hmm := @run_makeMap Tryd.prog
  obtain ⟨i0, hi0, hz0, hz1, hz2⟩ := info_parts infoIntS
  go_enter Tryd.func13, Tryd.ntmps13
  go_wp2
  go_loopw [12] (fun vi W => ∃ (i : Nat) (D : DataW Unit), i ≤ l.length ∧ vi = .int .i64 (i : Int) ∧ Grp (l.take i) D ∧ W.ownsGroups Tryd.prog 3 (w.heap.size + 1) 3 .i64 w.heap.size i D ∧ Below w.heap.size w W ∧ w.heap.size + 1 ≤ W.heap.size)
    (fun vi _ => l.length - (intOf vi).toNat)
  case atStart => exact ⟨0, _, Nat.zero_le _, rfl, by rw [List.take_zero]; exact Grp.nil, World.ownsGroups_made _ _ _ _ _, (Below.refl _ _).alloc (Nat.le_refl _) _, by simp⟩
  case round =>
    obtain ⟨i, D, hi, rfl, hg, hown, hnx, hws⟩ := hrel
    by_cases hlt : i < l.length
    · obtain ⟨s, hsi⟩ : ∃ s, l[i]? = Option.some s := ⟨l[i], by simp [hlt]⟩
      have hss := hs s (List.mem_of_getElem? hsi)
      have htk : l.take (i + 1) = l.take i ++ [s] := by rw [List.take_add_one, hsi]; rfl
      rcases hr with hr | ⟨b, off, rfl, hbw, hcs⟩
      · rw [hr] at hlt; simp at hlt
      have hra : wr.rangeAt b (off + i * 2) [.string s, .string ⟨#[]⟩] := fun j v hj => (hnx.cell (p := ⟨b, off + i * 2 + j, none⟩) hbw).trans (hcs i s hsi j v hj)
      obtain ⟨q, n, bo, hk⟩ : ∃ q n bo, kindS s = (q, n, bo) := ⟨_, _, _, rfl⟩
      have hrg := kindS_rng s
      rw [hk] at hrg
      dsimp only at hrg
      obtain ⟨q0, q3, n0, n1⟩ := hrg
      have hput := hg.put hk
      have hat0 := hg.at' q q0 q3
      have HK : Hid (∀ W, Calls Tryd.prog 11 #[.string s] W fun e w' => e = .returned (.tuple #[.int .i64 q, .int .i64 n, .bool bo]) ∧ Below W.heap.size W w') := fun W => by
        have h := kind11 s W (by unfold maxLen; omega)
        rw [hk] at h
        exact h
      have hkey := key3 q q0 q3
      have HOWN := Lib.hid hown
      have HNX := Lib.hid hnx
      have c0 : wr.cell? ⟨b, off + i * 2, none⟩ = some (.string s) := hra 0 _ rfl
      have c1 : wr.cell? ⟨b, off + i * 2 + 1, none⟩ = some (.string ⟨#[]⟩) := hra 1 _ rfl
      have HPUT := Lib.hid hput
      have HAT := Lib.hid hat0
      have HTK := Lib.hid htk
      clear hg hput hat0 htk hown hnx hra hcs hsi hk hs
      go_wp2_with (first
        | (go_at_call 11; refine (HK.out _).mono ?_; rintro e w3 ⟨rfl, hb⟩; have HB : Hid (Below wr.heap.size wr w3) := ((Below.refl _ wr).alloc (Nat.le_refl _) _).trans (hb.mono (by simp)); have HG3 := Lib.hid (groups_below HOWN.out HB.out); have HN3 : Hid (Below w.heap.size w w3) := HNX.out.trans (HB.out.mono HNX.out.size); have hw3 := Nat.le_trans hws HB.out.size; clear hb HOWN HNX)
        | (at_lookup; refine wpList_lookup_groups _ rfl _ _ 32 rfl 3 34 3 .i64 keyed3 Tryd.underlying32 (zero34 _) (w.heap.size + 1) w.heap.size i _ rfl HG3.out (by unfold maxLen; omega) _ _ rfl hkey ?_; intro v zs hat hoi hzl hback; have HZ : Hid (zs = numsS q (l.take i)) := row_nums hoi (HAT.out.symm.trans hat); have HOI := Lib.hid hoi; have HBK := Lib.hid hback; clear hat hoi hback)
        | (at_builtin; refine wpList_append_own_at _ rfl _ _ 34 rfl (w.heap.size + 1) 3 i0 (.int .i64 0) 1 8 Tryd.underlying34 hi0 hz0 hz1 hz2 rfl (by decide) _ _ _ rfl (HOI.out.1.alloc _) ⟨w3.heap.size, 0, none⟩ 1 1 [.int .i64 n] rfl rfl (cell_one_new _ _ _) (one_i64 n) (by unfold maxLen; omega) (by omega) (by simp; omega) ?_; intro v' w1 hown' hgrow hnil hloc)
        | (at_mapUpdate; refine wpList_mapUpdate_back _ rfl _ _ _ 32 rfl HBK.out rfl rfl rfl ((World.grownBy_alloc _ _ _).trans hgrow) (HOI.out.appended hown' (WalkArith.wf_i64 (by omega))) (by simp; omega) (hloc.imp id (fun h => ⟨_, h, by simp⟩)) ?_; intro w2 hown2 hgrow2))
      have hall := (World.grownBy_alloc w3 _ _).trans hgrow
      have HW2 : Hid (w2.ownsGroups Tryd.prog 3 (w.heap.size + 1) 3 .i64 w.heap.size (i + 1) (D.put (kI q) (rowDatum .i64 v' (zs ++ [n])))) := hown2
      go_roundw
      case rel =>
        refine ⟨i + 1, _, by omega, by go_num, ?_, HW2.out, HN3.out.groups HOI.out hall hgrow2 HN3.out.size (Nat.le_succ _) (Nat.le_refl _), Nat.le_trans hw3 (Nat.le_trans hall.size hgrow2.size)⟩
        rw [HTK.out, (HOI.out.appended hown' (WalkArith.wf_i64 (by omega))).datum_pos (by simp), HZ.out]
        have h := HPUT.out
        rwa [numsD, if_neg (by simp)] at h
      case measure => simp [intOf]; omega
    · have hie : i = l.length := by omega
      subst hie
      rw [List.take_length] at hg
      have HG := Lib.hid hg
      have HOWN := Lib.hid hown
      clear hg hown hr
      go_wp2
      go_ret
      exact ⟨rfl, ⟨_, HG.out, HOWN.out⟩, hnx⟩

/-- A reader that keeps the value itself. -/
def RV : Value → Option (DataW Value × List MemPlace) := fun v => some (.held v, [])
theorem RV_inv {v : Value} {y : DataW Value × List MemPlace} (h : RV v = some y) : y.1 = .held v := by
  unfold RV at h; rw [← Option.some.inj h]
theorem fit_RV {R : Value → Option (DataW Unit × List MemPlace)} {es : Array MapEntry} {clock : Nat} (F : WideElems.Fit Tryd.prog 3 R es clock) : WideElems.Fit Tryd.prog 3 RV es clock :=
  ⟨F.size, F.stamped, fun x hx => by
    obtain ⟨y, hy⟩ := F.reads x hx
    have hk := WideElems.rd_key hy
    exact ⟨(y.1, .held x.val), by unfold WideElems.rd; rw [hk]; rfl⟩⟩
theorem groups_look {W : World} {base m N : Nat} {D : DataW Unit} (h : W.ownsGroups Tryd.prog 3 base 3 .i64 m N D) (k : Int) (h0 : 0 ≤ k) (h3 : k ≤ 3) :
    (Maps.has D (kI k) = false ∧ ∀ W', Below W.heap.size W W' → (Instr.lookup 32 (.map (some m)) (.int .i64 k) true).run Tryd.prog W' = .ok (.tuple #[.slice none 0 0, .bool false]) W') ∨
    (Maps.has D (kI k) = true ∧ ∃ v zs, W.ownsInts base 3 .i64 v zs ∧ D.atKey (kI k) .nil = rowDatum .i64 v zs ∧ ∀ W', Below W.heap.size W W' → (Instr.lookup 32 (.map (some m)) (.int .i64 k) true).run Tryd.prog W' = .ok (.tuple #[v, .bool true]) W') := by
  obtain ⟨es, clock, hb, F, hs, hD, hbb, hlen, hap⟩ := h
  have hlt : m < W.heap.size := (Array.getElem?_eq_some_iff.1 hb).1
  have FV := fit_RV F
  have hbW : ∀ W', Below W.heap.size W W' → W'.heap[m]? = some (.map es clock) := fun W' hB => (hB.block m hlt).trans hb
  rcases Maps.fit_look (w := W) true keyed3 Tryd.underlying32 (zero34 W) hb F (key3 k h0 h3) with ⟨hrun, _, hat⟩ | ⟨e0, y, _, _, hrun, hR, hat, _⟩
  · refine .inl ⟨by rw [hD]; exact Maps.has_false_of_atKey hat, fun W' hB => ?_⟩
    rcases Maps.fit_look (w := W) true keyed3 Tryd.underlying32 (zero34 W) hb FV (key3 k h0 h3) with ⟨_, _, hv⟩ | ⟨e1, y1, _, _, hr1, _⟩
    · rcases Maps.fit_look (w := W') true keyed3 Tryd.underlying32 (zero34 W') (hbW W' hB) FV (key3 k h0 h3) with ⟨hr2, _⟩ | ⟨e2, y2, _, _, _, hR2, hv2, _⟩
      · exact hr2
      · have e := hv2 .nil
        rw [hv, RV_inv hR2] at e; cases e
    · rw [hrun] at hr1; simp at hr1
  · obtain ⟨zs, ho, rfl⟩ := rowElem_inv hR
    refine .inr ⟨by rw [hD]; exact Maps.has_true_of_atKey hat, e0.val, zs, ho, by rw [hD]; exact hat _, fun W' hB => ?_⟩
    rcases Maps.fit_look (w := W) true keyed3 Tryd.underlying32 (zero34 W) hb FV (key3 k h0 h3) with ⟨hr1, _⟩ | ⟨e1, y1, _, _, hr1, hR1, hv1, _⟩
    · rw [hrun] at hr1; simp at hr1
    · have ev : e0.val = e1.val := by rw [hrun] at hr1; simpa using hr1
      rcases Maps.fit_look (w := W') true keyed3 Tryd.underlying32 (zero34 W') (hbW W' hB) FV (key3 k h0 h3) with ⟨_, _, hv2⟩ | ⟨e2, y2, _, _, hr2, hR2, hv2, _⟩
      · have e := hv2 .nil
        rw [hv1, RV_inv hR1] at e; cases e
      · have e := (hv1 .nil).symm.trans (hv2 .nil)
        rw [RV_inv hR1, RV_inv hR2] at e
        have e3 : e1.val = e2.val := by simpa using e
        rw [hr2, ev, e3]; rfl
theorem groups_sorted {W : World} {base m N : Nat} {D : DataW Unit} {l : List ByteArray} (hg : Grp l D) (h : W.ownsGroups Tryd.prog 3 base 3 .i64 m N D) : SortedAt W (.map (some m)) l := by
  refine ⟨fun W' hB ty => ?_, fun k hk => ?_⟩
  · obtain ⟨es, clock, hb, F, hs, hD, hbb, hlen, hap⟩ := h
    have hlt : m < W.heap.size := (Array.getElem?_eq_some_iff.1 hb).1
    have h1 := (show W'.ownsMap Tryd.prog 3 (rowElem (H := Unit) W base 3 .i64) m N D from ⟨es, clock, (hB.block m hlt).trans hb, F, hs, hD⟩).len Tryd.underlying32 ty
    rw [hg.size] at h1
    exact h1
  · have h0 : (0 : Int) ≤ (k : Int) := by omega
    have h3 : (k : Int) ≤ 3 := by omega
    have hh := hg.has (k : Int) h0 h3
    have ha := hg.at' (k : Int) h0 h3
    rcases groups_look h (k : Int) h0 h3 with ⟨h4, hrun⟩ | ⟨h4, v, zs, ho, hat, hrun⟩
    · rw [h4] at hh
      have hn : numsS (k : Int) l = [] := by simpa using of_decide_eq_false hh.symm
      exact ⟨none, 0, fun W' hB => by rw [hrun W' hB, hn]; simp, .inl hn⟩
    · rw [h4] at hh
      have hz := row_nums ho (ha.symm.trans hat)
      subst hz
      obtain ⟨a, c, hv, hi⟩ := ints_own ho.1
      subst hv
      exact ⟨a, c, fun W' hB => by rw [hrun W' hB, hh], hi⟩
theorem sortC : SortC := fun a c l W hr hl hs => by
  refine (sorted13 a c l W hr hl hs).mono ?_
  rintro e w' ⟨rfl, ⟨D, hg, hown⟩, hb⟩
  exact ⟨_, rfl, groups_sorted hg hown, hb⟩
end Go.Proofs.YtgdfnngfifjdmaaDoor
