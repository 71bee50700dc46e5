/- Contracts of what reads the numbers that a row points to, one for each kind of thing: what of any bytes is so many numbers, or the fault. -/
import Derived.Test.YtnakmlnjfjgghaaDoorEvPut
import Derived.Test.YtnakmlnjfjgghaaDoorFails
import Derived.Laws.ResultCell
namespace Go.Proofs.YtnakmlnjfjgghaaDoor
open Go.RowKit Base

/-- Two results, the first of which lies in a variable. -/
theorem ret_cell_tmp {P : Program} {fn : Func} {Q : Ending → World → Prop} {a : Act} {w : World} {p u : Tmp} {ty t : TypeId} {g : Nat} {cs : Array Value} {d : TypeDesc} {v : Value} (hr : fn.results = #[.cell p ty, .tmp u]) (hp : a.tmps.getD p undef = .pointer (some ⟨g, 0, none⟩)) (hu' : a.tmps.getD u undef = v) (hd : a.defers = [])
    (hg : w.heap[g]? = some (.cells cs t (0, 0))) (hu : P.underlying ty = some d) (hs : (match d with | .struct _ | .array _ _ => true | _ => false) = true) (hi : (P.info? ty).map (·.size) = some cs.size) (h : Q (.returned (.tuple #[.agg cs, v])) w) : bodyPost P fn Q .ret a w :=
  bodyPost_ret (v := .tuple #[.agg cs, v]) (by rw [results_cell_tmp hr, hp, hu']; simp [asAddr, Result.andThen, run_loadVar_row w g t ty cs (0, 0) d hg hu hs hi]) hd h

def rowI (L : List Int) : Array Value := (L.map (Value.int .i64)).toArray
theorem rowI_size (L : List Int) : (rowI L).size = L.length := by simp [rowI]
theorem rowI_one (L : List Int) : (rowI L).all (·.oneCell') = true := by
  simp [rowI]
  intro a _; rfl
theorem rowI_set (L : List Int) (k : Nat) (v : Int) : (rowI L).setIfInBounds k (.int .i64 v) = rowI (L.set k v) := by
  simp [rowI, List.map_set]

/-- While numbers are read: the variables of read, the reader, the row of pointers. -/
structure ReadS (w : World) (T n r g cap : Nat) (L : List Int) (s : ByteArray) (e : Int) (W : World) : Prop where
  res : W.heap[w.heap.size]? = some (.cells (rowI (List.replicate n 0)) T (0, 0))
  thing : W.heap[w.heap.size + 1]? = some (.cells (rowI L) T (0, 0))
  zero : W.heap[w.heap.size + 1 + 1]? = some (.cells (rowI (List.replicate n 0)) T (0, 0))
  rd : RdX W r s e
  row : W.ownsRow (w.heap.size + 1 + 1 + 1) 20 1 (.slice (some ⟨g, 0, none⟩) n cap) n (pts (w.heap.size + 1) n)
  lo : Below w.heap.size w W
  rne : w.heap.size + 1 + 1 < r
  gne : w.heap.size + 1 + 1 < g
  len : L.length = n
theorem ReadS.step {w W W' : World} {T n r g cap : Nat} {L : List Int} {s s' : ByteArray} {e e' : Int} (h : ReadS w T n r g cap L s e W) (hr : RdX W' r s' e') (hg : W.grownBy W' (some r)) : ReadS w T n r g cap L s' e' W' := by
  have hne := h.rne
  refine ⟨(hg.block _ (lt_of_blk h.res) (by simp; omega)).trans h.res, (hg.block _ (lt_of_blk h.thing) (by simp; omega)).trans h.thing, (hg.block _ (lt_of_blk h.zero) (by simp; omega)).trans h.zero, hr, h.row.kept hg (.inr (Ne.symm (own_ne' h.row h.rd (by decide)))), ?_, h.rne, h.gne, h.len⟩
  have := lt_of_blk h.res
  exact h.lo.grown hg (by omega) (fun k hk => by simp at hk; omega)
theorem ReadS.same {w W W' : World} {T n r g cap : Nat} {L : List Int} {s : ByteArray} {e : Int} (h : ReadS w T n r g cap L s e W) (hw : W = W') : ReadS w T n r g cap L s e W' := hw ▸ h
theorem ReadS.set {w W : World} {T n r g cap : Nat} {L : List Int} {s : ByteArray} {e : Int} (h : ReadS w T n r g cap L s e W) (hT : T ≠ 20) (k : Nat) (v : Int) : ReadS w T n r g cap (L.set k v) s e (W.setCell ⟨w.heap.size + 1, k, none⟩ (.int .i64 v)) := by
  have hne := h.rne
  refine ⟨(heap_setCell_ne _ (by omega)).trans h.res, by rw [← rowI_set]; exact set_blkN h.thing k _, (heap_setCell_ne _ (by omega)).trans h.zero, (heap_setCell_ne _ (by omega)).trans h.rd, own_set' h.row h.thing hT, h.lo.setCell (p := ⟨w.heap.size + 1, k, none⟩) (by simp) _, h.rne, h.gne, by simp [h.len]⟩
theorem ReadS.cellT {w W : World} {T n r g cap : Nat} {L : List Int} {s : ByteArray} {e : Int} (h : ReadS w T n r g cap L s e W) (k : Nat) (hk : k < n) : ∃ u, W.cell? ⟨w.heap.size + 1, k, none⟩ = some u := cell_of_blkN h.thing k (by rw [rowI_size, h.len]; exact hk)
theorem ReadS.cellG {w W : World} {T n r g cap : Nat} {L : List Int} {s : ByteArray} {e : Int} (h : ReadS w T n r g cap L s e W) (k : Nat) (hk : k < n) : W.cell? ⟨g, k, none⟩ = some (pt (kd k) (w.heap.size + 1) k) :=
  (h.row.cellAt k (by omega)).trans (pts_at _ n k hk)

/-- k of n numbers are read. -/
def begN (n k : Nat) (s : ByteArray) : List Int := (readN k s 0).1 ++ List.replicate (n - k) 0
theorem begN_zero (n : Nat) (s : ByteArray) : begN n 0 s = List.replicate n 0 := rfl
theorem begN_all (n : Nat) (s : ByteArray) : begN n n s = (readN n s 0).1 := by simp [begN]
theorem begN_set (n k : Nat) (s : ByteArray) (h : k < n) : (begN n k s).set k (orZ (readN k s 0).2.2 (M.zag (M.num (readN k s 0).2.1.data.toList).1) 0) = begN n (k + 1) s := by
  unfold begN
  rw [readN_snoc]
  obtain ⟨m, hm⟩ : ∃ m, n - k = m + 1 := ⟨n - k - 1, by omega⟩
  have hl := readN_len k s 0
  rw [hm, List.replicate_succ, List.set_append_right _ _ (by omega), hl, Nat.sub_self, List.set_cons_zero, show n - (k + 1) = m by omega, List.append_assoc]
  rfl

def GetRel (w : World) (T n r g cap : Nat) (s : ByteArray) (i : Value) (W : World) : Prop :=
  ∃ k : Nat, k ≤ n ∧ i = .int .i64 k ∧ ReadS w T n r g cap (begN n k s) (readN k s 0).2.1 (readN k s 0).2.2 W

/-- The results. -/
theorem getN_cells (n : Nat) (s : ByteArray) (h : endF (readN n s 0).2.1 (readN n s 0).2.2 = 0) : getN n s = (begN n n s, 0) := by unfold getN; rw [if_pos h, begN_all]
theorem getN_fault (n : Nat) (s : ByteArray) (h : endF (readN n s 0).2.1 (readN n s 0).2.2 ≠ 0) : getN n s = (List.replicate n 0, endF (readN n s 0).2.1 (readN n s 0).2.2) := by unfold getN; rw [if_neg h]

set_option maxRecDepth 100000 in
set_option maxHeartbeats 4000000 in
theorem read28 (s : ByteArray) (w : World) (hs : s.size ≤ 1000000) :
    Calls Tryd.prog 28 #[.string s, .func (.func 25) #[] #[]] w fun e w' => e = .returned (.tuple #[.agg (rowI (getN 2 s).1), .int .i64 (getN 2 s).2]) ∧ Below w.heap.size w w' := by
  have h3 := three_alloc (w := w) (A := .cells #[Value.int .i64 0, Value.int .i64 0] 25) (B := .cells #[Value.int .i64 0, Value.int .i64 0] 25) (C := .cells #[Value.int .i64 0, Value.int .i64 0] 25)
  obtain ⟨w3, hw3⟩ : ∃ w3, w3 = ((w.alloc (.cells #[Value.int .i64 0, Value.int .i64 0] 25)).alloc (.cells #[Value.int .i64 0, Value.int .i64 0] 25)).alloc (.cells #[Value.int .i64 0, Value.int .i64 0] 25) := ⟨_, rfl⟩
  rw [← hw3] at h3
  have e3 : w3.heap.size = w.heap.size + 1 + 1 + 1 := by rw [hw3]; simp
  have HE3 := Lib.hid e3
  have H3 := Lib.hid h3
  have hr := read18 s w3
  rw [e3] at hr
  have HR := Lib.hid hr
  have HO := Lib.hid (fun (W : World) (h : w.heap.size + 1 < W.heap.size) => ofVerdict25 (w.heap.size + 1) 0 W h)
  clear h3 e3 hr
  subst hw3
  go_enter Tryd.func28, Tryd.ntmps28
  go_wp2_with (first
    | (go_at_call 36; refine HR.out.mono ?_; rintro e w4 ⟨rfl, hr4, hb4⟩; have HR4 := Lib.hid hr4; have HB4 := Lib.hid hb4; clear hr4 hb4)
    | (go_at_call 25; refine (HO.out _ (by have := lt_of_blk HR4.out; omega)).mono ?_; rintro e w5 ⟨v, rfl, ho, hb5⟩; rw [ptsV0] at ho; obtain ⟨g, cap, rfl⟩ := own_shape' ho (by omega); have HO5 := Lib.hid ho; have HB5 := Lib.hid hb5; clear ho hb5))
  have hst : GetRel w 25 2 (w.heap.size + 1 + 1 + 1) g cap s (.int .i64 0) w5 := by
    have hr4 := lt_of_blk HR4.out
    have hg5 : w4.heap.size ≤ g := own_block_ge HO5.out g rfl
    refine ⟨0, by omega, rfl, ⟨?_, ?_, ?_, HR4.out.below HB5.out hr4, own_mono' HO5.out (by omega), ?_, by omega, by omega, rfl⟩⟩
    · exact (HB5.out.block _ (by omega)).trans ((HB4.out.block _ (by omega)).trans H3.out.1)
    · exact (HB5.out.block _ (by omega)).trans ((HB4.out.block _ (by omega)).trans H3.out.2.1)
    · exact (HB5.out.block _ (by omega)).trans ((HB4.out.block _ (by omega)).trans H3.out.2.2.1)
    · exact H3.out.2.2.2.trans ((HB4.out.mono (by omega)).trans (HB5.out.mono (by omega)))
  clear HR HO HR4 HB4 HO5 HB5 H3 HE3
  go_loopw [19] (fun i W => GetRel w 25 2 (w.heap.size + 1 + 1 + 1) g cap s i W) (fun i _ => 2 - (intOf i).toNat)
  case atStart => exact hst
  case round =>
    clear hst
    obtain ⟨k, hk, rfl, hS⟩ := hrel
    have hsz := readN_size k s 0
    by_cases hlt : k < 2
    · have cl := hS.cellG k hlt
      have hset := begN_set 2 k s hlt
      have hsn := readN_snoc k s 0
      obtain ⟨q, hq⟩ : ∃ q, readN k s 0 = q := ⟨_, rfl⟩
      rw [hq] at hS hset hsn hsz
      have HI := Lib.hid (int20 (w.heap.size + 1 + 1 + 1) q.2.1 q.2.2 wr (by omega) hS.rd)
      obtain ⟨v, hv⟩ : ∃ v, orZ q.2.2 (M.zag (M.num q.2.1.data.toList).1) 0 = v := ⟨_, rfl⟩
      rw [hv] at HI hset
      have HV : Hid ((begN 2 k s).set k v = begN 2 (k + 1) s ∧ AfterX q.2.1 q.2.2 (M.num q.2.1.data.toList).2.1 (M.num q.2.1.data.toList).2.2 = (readN (k + 1) s 0).2) := ⟨hset, by rw [hsn]⟩
      have HS := Lib.hid hS
      clear hset hsn hsz hq hv hS hs
      rcases kd_or k with hk7 | hk7
      · rw [hk7] at cl
        unfold pt at cl
        have ty := is67_yes
        go_wp2_with (go_at_call 37; refine HI.out.mono ?_; rintro e w1 ⟨rfl, hr1, hg1⟩; have HS1 := Lib.hid (HS.out.step hr1 hg1); obtain ⟨u1, c1⟩ := HS1.out.cellT k hlt; have f1 := free_of_blkN HS1.out.thing k; clear hr1 hg1)
        go_roundw
        case rel =>
          refine ⟨k + 1, by omega, by go_num, ?_⟩
          have h := HS1.out.set (by decide) k v
          rw [HV.out.1, HV.out.2] at h
          exact h
        case measure => simp [intOf]; omega
      · rw [hk7] at cl
        unfold pt at cl
        have ty := is67_no
        have ty2 := is72_yes
        go_wp2_with (go_at_call 37; refine HI.out.mono ?_; rintro e w1 ⟨rfl, hr1, hg1⟩; have HS1 := Lib.hid (HS.out.step hr1 hg1); obtain ⟨u1, c1⟩ := HS1.out.cellT k hlt; have f1 := free_of_blkN HS1.out.thing k; clear hr1 hg1)
        go_roundw
        case rel =>
          refine ⟨k + 1, by omega, by go_num, ?_⟩
          have h := HS1.out.set (by decide) k v
          rw [HV.out.1, HV.out.2] at h
          exact h
        case measure => simp [intOf]; omega
    · have hkn : k = 2 := by omega
      subst hkn
      obtain ⟨q, hq⟩ : ∃ q, readN 2 s 0 = q := ⟨_, rfl⟩
      have hgc := getN_cells 2 s
      have hgf := getN_fault 2 s
      rw [hq] at hS hgc hgf
      obtain ⟨⟨q1, s2, e2⟩, hq2⟩ : ∃ p, p = q := ⟨_, rfl⟩
      subst hq2
      simp only at hS hgc hgf
      have HL := Lib.hid (left23 _ s2 e2 wr hS.rd)
      have HS := Lib.hid hS
      have i1 : ∀ L : List Int, L.length = 2 → (Tryd.prog.info? 25).map (·.size) = some (rowI L).size := by intro L h; rw [rowI_size, h]; kernel_rfl
      have HN := Lib.hid i1
      by_cases hz : 0 < s2.size
      · have HF := Lib.hid (fail30 _ s2 e2 3 wr hS.rd)
        have he : orZ e2 3 e2 ≠ 0 := by
          by_cases h : e2 = 0
          · subst h; rw [orZ_ok]; decide
          · rw [orZ_no _ _ _ h]; exact h
        have hend : endF s2 e2 = orZ e2 3 e2 := if_pos hz
        rw [hend] at hgf
        have HG := Lib.hid (hgf he)
        obtain ⟨e3, he3⟩ : ∃ e, orZ e2 3 e2 = e := ⟨_, rfl⟩
        rw [he3] at HF HG he
        have hb : (e3 != 0) = true := by simpa using he
        clear hS hgc hgf he he3 hend hsz hq i1 hs
        go_wp2_with (first
          | (go_at_call 38; refine HL.out.mono ?_; rintro x w6 ⟨rfl, rfl⟩)
          | (go_at_call 39; refine HF.out.mono ?_; rintro x w7 ⟨rfl, hr7, hg7⟩; have HS7 := Lib.hid (HS.out.step hr7 hg7); clear hr7 hg7)
          | (go_at_call 40; refine (fault22 _ s2 e3 _ HS7.out.rd).mono ?_; rintro x w8 ⟨rfl, rfl⟩)
          | (refine wpList_load_row rfl 25 (.tmp 7) rfl (w.heap.size + 1 + 1) rfl 25 _ (0, 0) _ HS7.out.zero Tryd.underlying25 rfl (HN.out _ (by simp)) ?_)
          | (refine wpList_store_row rfl 25 (.tmp 4) (.tmp 48) rfl w.heap.size _ rfl rfl 25 _ HS7.out.res (HN.out _ (by simp)) rfl (rowI_one _) ?_))
        refine ret_cell_tmp rfl rfl rfl rfl (setRow_heap _ _ _ _ _ _ HS7.out.res) Tryd.underlying25 rfl (HN.out _ (by simp)) ?_
        rw [HG.out]
        exact ⟨rfl, below_row1 HS7.out.lo (Nat.le_refl _)⟩
      · have hend : endF s2 e2 = e2 := if_neg hz
        rw [hend] at hgf hgc
        have hF := Lib.hid (fault22 _ s2 e2 wr hS.rd)
        by_cases he : e2 = 0
        · have HG := Lib.hid (hgc he)
          subst he
          have hb : ((0 : Int) != 0) = false := rfl
          clear hS hgc hgf hend hsz hq i1 hs
          go_wp2_with (first
            | (go_at_call 38; refine HL.out.mono ?_; rintro x w6 ⟨rfl, rfl⟩)
            | (go_at_call 40; refine hF.out.mono ?_; rintro x w8 ⟨rfl, rfl⟩)
            | (refine wpList_load_row rfl 25 (.tmp 6) rfl (w.heap.size + 1) rfl 25 _ (0, 0) _ HS.out.thing Tryd.underlying25 rfl (HN.out _ HS.out.len) ?_)
            | (refine wpList_store_row rfl 25 (.tmp 4) (.tmp 50) rfl w.heap.size _ rfl rfl 25 _ HS.out.res (HN.out _ HS.out.len) (by rw [rowI_size, rowI_size, HS.out.len]; simp) (rowI_one _) ?_))
          refine ret_cell_tmp rfl rfl rfl rfl (setRow_heap _ _ _ _ _ _ HS.out.res) Tryd.underlying25 rfl (HN.out _ HS.out.len) ?_
          rw [HG.out]
          exact ⟨rfl, below_row1 HS.out.lo (Nat.le_refl _)⟩
        · have HG := Lib.hid (hgf he)
          have hb : (e2 != 0) = true := by simpa using he
          clear hS hgc hgf he hend hsz hq i1 hs
          go_wp2_with (first
            | (go_at_call 38; refine HL.out.mono ?_; rintro x w6 ⟨rfl, rfl⟩)
            | (go_at_call 40; refine hF.out.mono ?_; rintro x w8 ⟨rfl, rfl⟩)
            | (refine wpList_load_row rfl 25 (.tmp 7) rfl (w.heap.size + 1 + 1) rfl 25 _ (0, 0) _ HS.out.zero Tryd.underlying25 rfl (HN.out _ (by simp)) ?_)
            | (refine wpList_store_row rfl 25 (.tmp 4) (.tmp 48) rfl w.heap.size _ rfl rfl 25 _ HS.out.res (HN.out _ (by simp)) rfl (rowI_one _) ?_))
          refine ret_cell_tmp rfl rfl rfl rfl (setRow_heap _ _ _ _ _ _ HS.out.res) Tryd.underlying25 rfl (HN.out _ (by simp)) ?_
          rw [HG.out]
          exact ⟨rfl, below_row1 HS.out.lo (Nat.le_refl _)⟩

set_option maxRecDepth 100000 in
set_option maxHeartbeats 4000000 in
theorem read27 (s : ByteArray) (w : World) (hs : s.size ≤ 1000000) :
    Calls Tryd.prog 27 #[.string s, .func (.func 24) #[] #[]] w fun e w' => e = .returned (.tuple #[.agg (rowI (getN 7 s).1), .int .i64 (getN 7 s).2]) ∧ Below w.heap.size w w' := by
  have h3 := three_alloc (w := w) (A := .cells #[Value.int .i64 0, Value.int .i64 0, Value.int .i64 0, Value.int .i64 0, Value.int .i64 0, Value.int .i64 0, Value.int .i64 0] 23) (B := .cells #[Value.int .i64 0, Value.int .i64 0, Value.int .i64 0, Value.int .i64 0, Value.int .i64 0, Value.int .i64 0, Value.int .i64 0] 23) (C := .cells #[Value.int .i64 0, Value.int .i64 0, Value.int .i64 0, Value.int .i64 0, Value.int .i64 0, Value.int .i64 0, Value.int .i64 0] 23)
  obtain ⟨w3, hw3⟩ : ∃ w3, w3 = ((w.alloc (.cells #[Value.int .i64 0, Value.int .i64 0, Value.int .i64 0, Value.int .i64 0, Value.int .i64 0, Value.int .i64 0, Value.int .i64 0] 23)).alloc (.cells #[Value.int .i64 0, Value.int .i64 0, Value.int .i64 0, Value.int .i64 0, Value.int .i64 0, Value.int .i64 0, Value.int .i64 0] 23)).alloc (.cells #[Value.int .i64 0, Value.int .i64 0, Value.int .i64 0, Value.int .i64 0, Value.int .i64 0, Value.int .i64 0, Value.int .i64 0] 23) := ⟨_, rfl⟩
  rw [← hw3] at h3
  have e3 : w3.heap.size = w.heap.size + 1 + 1 + 1 := by rw [hw3]; simp
  have HE3 := Lib.hid e3
  have H3 := Lib.hid h3
  have hr := read18 s w3
  rw [e3] at hr
  have HR := Lib.hid hr
  have HO := Lib.hid (fun (W : World) (h : w.heap.size + 1 < W.heap.size) => ofEvent24 (w.heap.size + 1) 0 W h)
  clear h3 e3 hr
  subst hw3
  go_enter Tryd.func27, Tryd.ntmps27
  go_wp2_with (first
    | (go_at_call 36; refine HR.out.mono ?_; rintro e w4 ⟨rfl, hr4, hb4⟩; have HR4 := Lib.hid hr4; have HB4 := Lib.hid hb4; clear hr4 hb4)
    | (go_at_call 24; refine (HO.out _ (by have := lt_of_blk HR4.out; omega)).mono ?_; rintro e w5 ⟨v, rfl, ho, hb5⟩; rw [ptsE0] at ho; obtain ⟨g, cap, rfl⟩ := own_shape' ho (by omega); have HO5 := Lib.hid ho; have HB5 := Lib.hid hb5; clear ho hb5))
  have hst : GetRel w 23 7 (w.heap.size + 1 + 1 + 1) g cap s (.int .i64 0) w5 := by
    have hr4 := lt_of_blk HR4.out
    have hg5 : w4.heap.size ≤ g := own_block_ge HO5.out g rfl
    refine ⟨0, by omega, rfl, ⟨?_, ?_, ?_, HR4.out.below HB5.out hr4, own_mono' HO5.out (by omega), ?_, by omega, by omega, rfl⟩⟩
    · exact (HB5.out.block _ (by omega)).trans ((HB4.out.block _ (by omega)).trans H3.out.1)
    · exact (HB5.out.block _ (by omega)).trans ((HB4.out.block _ (by omega)).trans H3.out.2.1)
    · exact (HB5.out.block _ (by omega)).trans ((HB4.out.block _ (by omega)).trans H3.out.2.2.1)
    · exact H3.out.2.2.2.trans ((HB4.out.mono (by omega)).trans (HB5.out.mono (by omega)))
  clear HR HO HR4 HB4 HO5 HB5 H3 HE3
  go_loopw [19] (fun i W => GetRel w 23 7 (w.heap.size + 1 + 1 + 1) g cap s i W) (fun i _ => 7 - (intOf i).toNat)
  case atStart => exact hst
  case round =>
    clear hst
    obtain ⟨k, hk, rfl, hS⟩ := hrel
    have hsz := readN_size k s 0
    by_cases hlt : k < 7
    · have cl := hS.cellG k hlt
      have hset := begN_set 7 k s hlt
      have hsn := readN_snoc k s 0
      obtain ⟨q, hq⟩ : ∃ q, readN k s 0 = q := ⟨_, rfl⟩
      rw [hq] at hS hset hsn hsz
      have HI := Lib.hid (int20 (w.heap.size + 1 + 1 + 1) q.2.1 q.2.2 wr (by omega) hS.rd)
      obtain ⟨v, hv⟩ : ∃ v, orZ q.2.2 (M.zag (M.num q.2.1.data.toList).1) 0 = v := ⟨_, rfl⟩
      rw [hv] at HI hset
      have HV : Hid ((begN 7 k s).set k v = begN 7 (k + 1) s ∧ AfterX q.2.1 q.2.2 (M.num q.2.1.data.toList).2.1 (M.num q.2.1.data.toList).2.2 = (readN (k + 1) s 0).2) := ⟨hset, by rw [hsn]⟩
      have HS := Lib.hid hS
      clear hset hsn hsz hq hv hS hs
      rcases kd_or k with hk7 | hk7
      · rw [hk7] at cl
        unfold pt at cl
        have ty := is67_yes
        go_wp2_with (go_at_call 37; refine HI.out.mono ?_; rintro e w1 ⟨rfl, hr1, hg1⟩; have HS1 := Lib.hid (HS.out.step hr1 hg1); obtain ⟨u1, c1⟩ := HS1.out.cellT k hlt; have f1 := free_of_blkN HS1.out.thing k; clear hr1 hg1)
        go_roundw
        case rel =>
          refine ⟨k + 1, by omega, by go_num, ?_⟩
          have h := HS1.out.set (by decide) k v
          rw [HV.out.1, HV.out.2] at h
          exact h
        case measure => simp [intOf]; omega
      · rw [hk7] at cl
        unfold pt at cl
        have ty := is67_no
        have ty2 := is72_yes
        go_wp2_with (go_at_call 37; refine HI.out.mono ?_; rintro e w1 ⟨rfl, hr1, hg1⟩; have HS1 := Lib.hid (HS.out.step hr1 hg1); obtain ⟨u1, c1⟩ := HS1.out.cellT k hlt; have f1 := free_of_blkN HS1.out.thing k; clear hr1 hg1)
        go_roundw
        case rel =>
          refine ⟨k + 1, by omega, by go_num, ?_⟩
          have h := HS1.out.set (by decide) k v
          rw [HV.out.1, HV.out.2] at h
          exact h
        case measure => simp [intOf]; omega
    · have hkn : k = 7 := by omega
      subst hkn
      obtain ⟨q, hq⟩ : ∃ q, readN 7 s 0 = q := ⟨_, rfl⟩
      have hgc := getN_cells 7 s
      have hgf := getN_fault 7 s
      rw [hq] at hS hgc hgf
      obtain ⟨⟨q1, s2, e2⟩, hq2⟩ : ∃ p, p = q := ⟨_, rfl⟩
      subst hq2
      simp only at hS hgc hgf
      have HL := Lib.hid (left23 _ s2 e2 wr hS.rd)
      have HS := Lib.hid hS
      have i1 : ∀ L : List Int, L.length = 7 → (Tryd.prog.info? 23).map (·.size) = some (rowI L).size := by intro L h; rw [rowI_size, h]; kernel_rfl
      have HN := Lib.hid i1
      by_cases hz : 0 < s2.size
      · have HF := Lib.hid (fail30 _ s2 e2 3 wr hS.rd)
        have he : orZ e2 3 e2 ≠ 0 := by
          by_cases h : e2 = 0
          · subst h; rw [orZ_ok]; decide
          · rw [orZ_no _ _ _ h]; exact h
        have hend : endF s2 e2 = orZ e2 3 e2 := if_pos hz
        rw [hend] at hgf
        have HG := Lib.hid (hgf he)
        obtain ⟨e3, he3⟩ : ∃ e, orZ e2 3 e2 = e := ⟨_, rfl⟩
        rw [he3] at HF HG he
        have hb : (e3 != 0) = true := by simpa using he
        clear hS hgc hgf he he3 hend hsz hq i1 hs
        go_wp2_with (first
          | (go_at_call 38; refine HL.out.mono ?_; rintro x w6 ⟨rfl, rfl⟩)
          | (go_at_call 39; refine HF.out.mono ?_; rintro x w7 ⟨rfl, hr7, hg7⟩; have HS7 := Lib.hid (HS.out.step hr7 hg7); clear hr7 hg7)
          | (go_at_call 40; refine (fault22 _ s2 e3 _ HS7.out.rd).mono ?_; rintro x w8 ⟨rfl, rfl⟩)
          | (refine wpList_load_row rfl 23 (.tmp 7) rfl (w.heap.size + 1 + 1) rfl 23 _ (0, 0) _ HS7.out.zero Tryd.underlying23 rfl (HN.out _ (by simp)) ?_)
          | (refine wpList_store_row rfl 23 (.tmp 4) (.tmp 48) rfl w.heap.size _ rfl rfl 23 _ HS7.out.res (HN.out _ (by simp)) rfl (rowI_one _) ?_))
        refine ret_cell_tmp rfl rfl rfl rfl (setRow_heap _ _ _ _ _ _ HS7.out.res) Tryd.underlying23 rfl (HN.out _ (by simp)) ?_
        rw [HG.out]
        exact ⟨rfl, below_row1 HS7.out.lo (Nat.le_refl _)⟩
      · have hend : endF s2 e2 = e2 := if_neg hz
        rw [hend] at hgf hgc
        have hF := Lib.hid (fault22 _ s2 e2 wr hS.rd)
        by_cases he : e2 = 0
        · have HG := Lib.hid (hgc he)
          subst he
          have hb : ((0 : Int) != 0) = false := rfl
          clear hS hgc hgf hend hsz hq i1 hs
          go_wp2_with (first
            | (go_at_call 38; refine HL.out.mono ?_; rintro x w6 ⟨rfl, rfl⟩)
            | (go_at_call 40; refine hF.out.mono ?_; rintro x w8 ⟨rfl, rfl⟩)
            | (refine wpList_load_row rfl 23 (.tmp 6) rfl (w.heap.size + 1) rfl 23 _ (0, 0) _ HS.out.thing Tryd.underlying23 rfl (HN.out _ HS.out.len) ?_)
            | (refine wpList_store_row rfl 23 (.tmp 4) (.tmp 50) rfl w.heap.size _ rfl rfl 23 _ HS.out.res (HN.out _ HS.out.len) (by rw [rowI_size, rowI_size, HS.out.len]; simp) (rowI_one _) ?_))
          refine ret_cell_tmp rfl rfl rfl rfl (setRow_heap _ _ _ _ _ _ HS.out.res) Tryd.underlying23 rfl (HN.out _ HS.out.len) ?_
          rw [HG.out]
          exact ⟨rfl, below_row1 HS.out.lo (Nat.le_refl _)⟩
        · have HG := Lib.hid (hgf he)
          have hb : (e2 != 0) = true := by simpa using he
          clear hS hgc hgf he hend hsz hq i1 hs
          go_wp2_with (first
            | (go_at_call 38; refine HL.out.mono ?_; rintro x w6 ⟨rfl, rfl⟩)
            | (go_at_call 40; refine hF.out.mono ?_; rintro x w8 ⟨rfl, rfl⟩)
            | (refine wpList_load_row rfl 23 (.tmp 7) rfl (w.heap.size + 1 + 1) rfl 23 _ (0, 0) _ HS.out.zero Tryd.underlying23 rfl (HN.out _ (by simp)) ?_)
            | (refine wpList_store_row rfl 23 (.tmp 4) (.tmp 48) rfl w.heap.size _ rfl rfl 23 _ HS.out.res (HN.out _ (by simp)) rfl (rowI_one _) ?_))
          refine ret_cell_tmp rfl rfl rfl rfl (setRow_heap _ _ _ _ _ _ HS.out.res) Tryd.underlying23 rfl (HN.out _ (by simp)) ?_
          rw [HG.out]
          exact ⟨rfl, below_row1 HS.out.lo (Nat.le_refl _)⟩

set_option maxRecDepth 100000 in
set_option maxHeartbeats 4000000 in
theorem read29 (s : ByteArray) (w : World) (hs : s.size ≤ 1000000) :
    Calls Tryd.prog 29 #[.string s, .func (.func 26) #[] #[]] w fun e w' => e = .returned (.tuple #[.agg (rowI (getN 9 s).1), .int .i64 (getN 9 s).2]) ∧ Below w.heap.size w w' := by
  have h3 := three_alloc (w := w) (A := .cells #[Value.int .i64 0, Value.int .i64 0, Value.int .i64 0, Value.int .i64 0, Value.int .i64 0, Value.int .i64 0, Value.int .i64 0, Value.int .i64 0, Value.int .i64 0] 27) (B := .cells #[Value.int .i64 0, Value.int .i64 0, Value.int .i64 0, Value.int .i64 0, Value.int .i64 0, Value.int .i64 0, Value.int .i64 0, Value.int .i64 0, Value.int .i64 0] 27) (C := .cells #[Value.int .i64 0, Value.int .i64 0, Value.int .i64 0, Value.int .i64 0, Value.int .i64 0, Value.int .i64 0, Value.int .i64 0, Value.int .i64 0, Value.int .i64 0] 27)
  obtain ⟨w3, hw3⟩ : ∃ w3, w3 = ((w.alloc (.cells #[Value.int .i64 0, Value.int .i64 0, Value.int .i64 0, Value.int .i64 0, Value.int .i64 0, Value.int .i64 0, Value.int .i64 0, Value.int .i64 0, Value.int .i64 0] 27)).alloc (.cells #[Value.int .i64 0, Value.int .i64 0, Value.int .i64 0, Value.int .i64 0, Value.int .i64 0, Value.int .i64 0, Value.int .i64 0, Value.int .i64 0, Value.int .i64 0] 27)).alloc (.cells #[Value.int .i64 0, Value.int .i64 0, Value.int .i64 0, Value.int .i64 0, Value.int .i64 0, Value.int .i64 0, Value.int .i64 0, Value.int .i64 0, Value.int .i64 0] 27) := ⟨_, rfl⟩
  rw [← hw3] at h3
  have e3 : w3.heap.size = w.heap.size + 1 + 1 + 1 := by rw [hw3]; simp
  have HE3 := Lib.hid e3
  have H3 := Lib.hid h3
  have hr := read18 s w3
  rw [e3] at hr
  have HR := Lib.hid hr
  have HO := Lib.hid (fun (W : World) (h : w.heap.size + 1 < W.heap.size) => ofPair26 (w.heap.size + 1) W h)
  clear h3 e3 hr
  subst hw3
  go_enter Tryd.func29, Tryd.ntmps29
  go_wp2_with (first
    | (go_at_call 36; refine HR.out.mono ?_; rintro e w4 ⟨rfl, hr4, hb4⟩; have HR4 := Lib.hid hr4; have HB4 := Lib.hid hb4; clear hr4 hb4)
    | (go_at_call 26; refine (HO.out _ (by have := lt_of_blk HR4.out; omega)).mono ?_; rintro e w5 ⟨v, rfl, ho, hb5⟩; obtain ⟨g, cap, rfl⟩ := own_shape' ho (by omega); have HO5 := Lib.hid ho; have HB5 := Lib.hid hb5; clear ho hb5))
  have hst : GetRel w 27 9 (w.heap.size + 1 + 1 + 1) g cap s (.int .i64 0) w5 := by
    have hr4 := lt_of_blk HR4.out
    have hg5 : w4.heap.size ≤ g := own_block_ge HO5.out g rfl
    refine ⟨0, by omega, rfl, ⟨?_, ?_, ?_, HR4.out.below HB5.out hr4, own_mono' HO5.out (by omega), ?_, by omega, by omega, rfl⟩⟩
    · exact (HB5.out.block _ (by omega)).trans ((HB4.out.block _ (by omega)).trans H3.out.1)
    · exact (HB5.out.block _ (by omega)).trans ((HB4.out.block _ (by omega)).trans H3.out.2.1)
    · exact (HB5.out.block _ (by omega)).trans ((HB4.out.block _ (by omega)).trans H3.out.2.2.1)
    · exact H3.out.2.2.2.trans ((HB4.out.mono (by omega)).trans (HB5.out.mono (by omega)))
  clear HR HO HR4 HB4 HO5 HB5 H3 HE3
  go_loopw [19] (fun i W => GetRel w 27 9 (w.heap.size + 1 + 1 + 1) g cap s i W) (fun i _ => 9 - (intOf i).toNat)
  case atStart => exact hst
  case round =>
    clear hst
    obtain ⟨k, hk, rfl, hS⟩ := hrel
    have hsz := readN_size k s 0
    by_cases hlt : k < 9
    · have cl := hS.cellG k hlt
      have hset := begN_set 9 k s hlt
      have hsn := readN_snoc k s 0
      obtain ⟨q, hq⟩ : ∃ q, readN k s 0 = q := ⟨_, rfl⟩
      rw [hq] at hS hset hsn hsz
      have HI := Lib.hid (int20 (w.heap.size + 1 + 1 + 1) q.2.1 q.2.2 wr (by omega) hS.rd)
      obtain ⟨v, hv⟩ : ∃ v, orZ q.2.2 (M.zag (M.num q.2.1.data.toList).1) 0 = v := ⟨_, rfl⟩
      rw [hv] at HI hset
      have HV : Hid ((begN 9 k s).set k v = begN 9 (k + 1) s ∧ AfterX q.2.1 q.2.2 (M.num q.2.1.data.toList).2.1 (M.num q.2.1.data.toList).2.2 = (readN (k + 1) s 0).2) := ⟨hset, by rw [hsn]⟩
      have HS := Lib.hid hS
      clear hset hsn hsz hq hv hS hs
      rcases kd_or k with hk7 | hk7
      · rw [hk7] at cl
        unfold pt at cl
        have ty := is67_yes
        go_wp2_with (go_at_call 37; refine HI.out.mono ?_; rintro e w1 ⟨rfl, hr1, hg1⟩; have HS1 := Lib.hid (HS.out.step hr1 hg1); obtain ⟨u1, c1⟩ := HS1.out.cellT k hlt; have f1 := free_of_blkN HS1.out.thing k; clear hr1 hg1)
        go_roundw
        case rel =>
          refine ⟨k + 1, by omega, by go_num, ?_⟩
          have h := HS1.out.set (by decide) k v
          rw [HV.out.1, HV.out.2] at h
          exact h
        case measure => simp [intOf]; omega
      · rw [hk7] at cl
        unfold pt at cl
        have ty := is67_no
        have ty2 := is72_yes
        go_wp2_with (go_at_call 37; refine HI.out.mono ?_; rintro e w1 ⟨rfl, hr1, hg1⟩; have HS1 := Lib.hid (HS.out.step hr1 hg1); obtain ⟨u1, c1⟩ := HS1.out.cellT k hlt; have f1 := free_of_blkN HS1.out.thing k; clear hr1 hg1)
        go_roundw
        case rel =>
          refine ⟨k + 1, by omega, by go_num, ?_⟩
          have h := HS1.out.set (by decide) k v
          rw [HV.out.1, HV.out.2] at h
          exact h
        case measure => simp [intOf]; omega
    · have hkn : k = 9 := by omega
      subst hkn
      obtain ⟨q, hq⟩ : ∃ q, readN 9 s 0 = q := ⟨_, rfl⟩
      have hgc := getN_cells 9 s
      have hgf := getN_fault 9 s
      rw [hq] at hS hgc hgf
      obtain ⟨⟨q1, s2, e2⟩, hq2⟩ : ∃ p, p = q := ⟨_, rfl⟩
      subst hq2
      simp only at hS hgc hgf
      have HL := Lib.hid (left23 _ s2 e2 wr hS.rd)
      have HS := Lib.hid hS
      have i1 : ∀ L : List Int, L.length = 9 → (Tryd.prog.info? 27).map (·.size) = some (rowI L).size := by intro L h; rw [rowI_size, h]; kernel_rfl
      have HN := Lib.hid i1
      by_cases hz : 0 < s2.size
      · have HF := Lib.hid (fail30 _ s2 e2 3 wr hS.rd)
        have he : orZ e2 3 e2 ≠ 0 := by
          by_cases h : e2 = 0
          · subst h; rw [orZ_ok]; decide
          · rw [orZ_no _ _ _ h]; exact h
        have hend : endF s2 e2 = orZ e2 3 e2 := if_pos hz
        rw [hend] at hgf
        have HG := Lib.hid (hgf he)
        obtain ⟨e3, he3⟩ : ∃ e, orZ e2 3 e2 = e := ⟨_, rfl⟩
        rw [he3] at HF HG he
        have hb : (e3 != 0) = true := by simpa using he
        clear hS hgc hgf he he3 hend hsz hq i1 hs
        go_wp2_with (first
          | (go_at_call 38; refine HL.out.mono ?_; rintro x w6 ⟨rfl, rfl⟩)
          | (go_at_call 39; refine HF.out.mono ?_; rintro x w7 ⟨rfl, hr7, hg7⟩; have HS7 := Lib.hid (HS.out.step hr7 hg7); clear hr7 hg7)
          | (go_at_call 40; refine (fault22 _ s2 e3 _ HS7.out.rd).mono ?_; rintro x w8 ⟨rfl, rfl⟩)
          | (refine wpList_load_row rfl 27 (.tmp 7) rfl (w.heap.size + 1 + 1) rfl 27 _ (0, 0) _ HS7.out.zero Tryd.underlying27 rfl (HN.out _ (by simp)) ?_)
          | (refine wpList_store_row rfl 27 (.tmp 4) (.tmp 48) rfl w.heap.size _ rfl rfl 27 _ HS7.out.res (HN.out _ (by simp)) rfl (rowI_one _) ?_))
        refine ret_cell_tmp rfl rfl rfl rfl (setRow_heap _ _ _ _ _ _ HS7.out.res) Tryd.underlying27 rfl (HN.out _ (by simp)) ?_
        rw [HG.out]
        exact ⟨rfl, below_row1 HS7.out.lo (Nat.le_refl _)⟩
      · have hend : endF s2 e2 = e2 := if_neg hz
        rw [hend] at hgf hgc
        have hF := Lib.hid (fault22 _ s2 e2 wr hS.rd)
        by_cases he : e2 = 0
        · have HG := Lib.hid (hgc he)
          subst he
          have hb : ((0 : Int) != 0) = false := rfl
          clear hS hgc hgf hend hsz hq i1 hs
          go_wp2_with (first
            | (go_at_call 38; refine HL.out.mono ?_; rintro x w6 ⟨rfl, rfl⟩)
            | (go_at_call 40; refine hF.out.mono ?_; rintro x w8 ⟨rfl, rfl⟩)
            | (refine wpList_load_row rfl 27 (.tmp 6) rfl (w.heap.size + 1) rfl 27 _ (0, 0) _ HS.out.thing Tryd.underlying27 rfl (HN.out _ HS.out.len) ?_)
            | (refine wpList_store_row rfl 27 (.tmp 4) (.tmp 50) rfl w.heap.size _ rfl rfl 27 _ HS.out.res (HN.out _ HS.out.len) (by rw [rowI_size, rowI_size, HS.out.len]; simp) (rowI_one _) ?_))
          refine ret_cell_tmp rfl rfl rfl rfl (setRow_heap _ _ _ _ _ _ HS.out.res) Tryd.underlying27 rfl (HN.out _ HS.out.len) ?_
          rw [HG.out]
          exact ⟨rfl, below_row1 HS.out.lo (Nat.le_refl _)⟩
        · have HG := Lib.hid (hgf he)
          have hb : (e2 != 0) = true := by simpa using he
          clear hS hgc hgf he hend hsz hq i1 hs
          go_wp2_with (first
            | (go_at_call 38; refine HL.out.mono ?_; rintro x w6 ⟨rfl, rfl⟩)
            | (go_at_call 40; refine hF.out.mono ?_; rintro x w8 ⟨rfl, rfl⟩)
            | (refine wpList_load_row rfl 27 (.tmp 7) rfl (w.heap.size + 1 + 1) rfl 27 _ (0, 0) _ HS.out.zero Tryd.underlying27 rfl (HN.out _ (by simp)) ?_)
            | (refine wpList_store_row rfl 27 (.tmp 4) (.tmp 48) rfl w.heap.size _ rfl rfl 27 _ HS.out.res (HN.out _ (by simp)) rfl (rowI_one _) ?_))
          refine ret_cell_tmp rfl rfl rfl rfl (setRow_heap _ _ _ _ _ _ HS.out.res) Tryd.underlying27 rfl (HN.out _ (by simp)) ?_
          rw [HG.out]
          exact ⟨rfl, below_row1 HS.out.lo (Nat.le_refl _)⟩
end Go.Proofs.YtnakmlnjfjgghaaDoor
