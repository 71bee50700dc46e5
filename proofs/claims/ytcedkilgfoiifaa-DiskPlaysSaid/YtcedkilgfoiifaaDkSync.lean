/- The contracts of the document's Sync, Cut of a disk. -/
import Derived.Test.YtcedkilgfoiifaaDkSet
namespace Go.Proofs.Ytcedkilgfoiifaa
open Go.RowKit Base Base2

theorem infoDk : (Try.prog.info? 33).map (·.size) = some 4 := by kernel_rfl
theorem lt_of_blkD {W : World} {g : Nat} {o : Obj} (h : W.heap[g]? = some o) : g < W.heap.size := (Array.getElem?_eq_some_iff.1 h).1
/-- A disk's box (g) and the result's (q), of two rows. -/
structure DkS (w : World) (g q : Nat) (cs rs : Array Value) (W : World) : Prop where
  box : W.heap[g]? = some (.cells cs 33 (0, 0))
  res : W.heap[q]? = some (.cells rs 33 (0, 0))
  lo : Below w.heap.size w W
  gl : w.heap.size ≤ g
  ql : w.heap.size ≤ q
  ne : g ≠ q
theorem DkS.set {w W : World} {g q : Nat} {cs rs : Array Value} (h : DkS w g q cs rs W) (i : Nat) (v : Value) : DkS w g q (cs.setIfInBounds i v) rs (W.setCell ⟨g, i, none⟩ v) :=
  ⟨set_blkN h.box i v, (heap_setCell_ne _ (Ne.symm h.ne)).trans h.res, h.lo.setCell (p := ⟨g, i, none⟩) h.gl _, h.gl, h.ql, h.ne⟩
theorem DkS.cell {w W : World} {g q : Nat} {cs rs : Array Value} (h : DkS w g q cs rs W) (i : Nat) (v : Value) (hv : cs[i]? = some v) : W.cell? ⟨g, i, none⟩ = some v := by rw [cell_of_row W g i cs 33 (0, 0) h.box]; exact hv
theorem DkS.free {w W : World} {g q : Nat} {cs rs : Array Value} (h : DkS w g q cs rs W) (i : Nat) : W.frozen? ⟨g, i, none⟩ = false := free_of_blkN h.box i
theorem DkS.below {w W W' : World} {g q : Nat} {cs rs : Array Value} (h : DkS w g q cs rs W) (hb : Below W.heap.size W W') : DkS w g q cs rs W' :=
  ⟨(hb.block _ (lt_of_blkD h.box)).trans h.box, (hb.block _ (lt_of_blkD h.res)).trans h.res, h.lo.trans (hb.mono h.lo.size), h.gl, h.ql, h.ne⟩
theorem DkS.done {w W : World} {g q : Nat} {cs rs : Array Value} (h : DkS w g q cs rs W) (ks : Array Value) : (W.setRow q ks).heap[q]? = some (.cells ks 33 (0, 0)) ∧ Below w.heap.size w (W.setRow q ks) :=
  ⟨setRow_heap _ _ _ _ _ _ h.res, below_row1 h.lo h.ql⟩
theorem DkS.start (w : World) (cs rs : Array Value) : DkS w w.heap.size (w.heap.size + 1) cs rs ((w.alloc (.cells cs 33)).alloc (.cells rs 33)) :=
  ⟨(Below.heap_alloc _ _ _ (by simp)).trans (heap_alloc_new w _), by have := heap_alloc_new (w.alloc (.cells cs 33)) (.cells rs 33); simpa using this, ((Below.refl _ w).alloc (Nat.le_refl _) _).alloc (by simp) _, Nat.le_refl _, by omega, by omega⟩

set_option maxRecDepth 100000 in
set_option maxHeartbeats 2000000 in
theorem rsync13 (a1 a2 a3 : Option Addr) (n1 c1 n2 c2 n3 c3 : Nat) (r : Int) (w : World) :
    Calls Try.prog 13 #[.agg #[.slice a1 n1 c1, .slice a2 n2 c2, .slice a3 n3 c3, .int .i64 r]] w fun e w' => e = .returned (.agg #[.slice a1 n1 c1, .slice a1 n1 c1, .slice none 0 0, .int .i64 r]) ∧ Below w.heap.size w w' := by
  go_enter Try.func13, Try.ntmps13
  go_upto_region 1 with (fail)
  refine at_world (Φ := DkS w w.heap.size (w.heap.size + 1) #[.slice a1 n1 c1, .slice a2 n2 c2, .slice a3 n3 c3, .int .i64 r] #[.slice none 0 0, .slice none 0 0, .slice none 0 0, .int .i64 0]) (DkS.start w _ _) ?_
  rintro W hW
  have H0 := Lib.hid hW
  have e0 := hW.cell 0 (.slice a1 n1 c1) rfl
  have e1 := hW.cell 1 (.slice a2 n2 c2) rfl
  have f1 := hW.free 1
  have H1 := Lib.hid (H0.out.set 1 (.slice a1 n1 c1))
  have e2 := H1.out.cell 2 (.slice a3 n3 c3) rfl
  have f2 := H1.out.free 2
  have H2 := Lib.hid (H1.out.set 2 (.slice none 0 0))
  clear hW
  simp only [List.setIfInBounds_toArray, List.set_cons_zero, List.set_cons_succ] at H2
  clear H1
  have i4 := infoDk
  have o4 : (#[.slice a1 n1 c1, .slice a1 n1 c1, .slice none 0 0, .int .i64 r] : Array Value).all (·.oneCell') = true := by simp [Value.oneCell']
  go_wp2_with (first
    | ((with_reducible refine atLoad (ty := 33) (x := .tmp 1) rfl ?_); refine wpList_load_row rfl 33 (.tmp 1) rfl w.heap.size rfl 33 #[.slice a1 n1 c1, .slice a1 n1 c1, .slice none 0 0, .int .i64 r] (0, 0) _ H2.out.box Try.underlying33 rfl i4 ?_)
    | ((with_reducible refine atStore (ty := 33) (x := .tmp 2) (y := .tmp 7) rfl ?_); refine wpList_store_row rfl 33 (.tmp 2) (.tmp 7) rfl (w.heap.size + 1) #[.slice a1 n1 c1, .slice a1 n1 c1, .slice none 0 0, .int .i64 r] rfl rfl 33 _ H2.out.res i4 rfl o4 ?_))
  refine ret_cell rfl rfl rfl (H2.out.done #[.slice a1 n1 c1, .slice a1 n1 c1, .slice none 0 0, .int .i64 r]).1 Try.underlying33 rfl i4 ?_
  exact ⟨rfl, (H2.out.done _).2⟩
end Go.Proofs.Ytcedkilgfoiifaa
