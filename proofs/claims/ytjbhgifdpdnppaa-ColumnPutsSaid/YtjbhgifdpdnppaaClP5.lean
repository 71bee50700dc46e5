/- The program's reader of runs, an iterator that turns a reader and what lacks: its parts. -/
import Derived.Test.YtjbhgifdpdnppaaClP2
import Derived.Test.YtjbhgifdpdnppaaFails
namespace Go.Proofs.Ytjbhgifdpdnppaa
open Go.RowKit Go.Shelf Base Base2
attribute [local go_sem] Oper.semAt_some

/-- What lacks, as a function value over its cell. -/
def lessV (C : Nat) : Value := .func (.func 38) #[] #[.pointer (some ⟨C, 0, none⟩)]
/-- The iterator's own: a reader, what lacks, and the two boxes through which it knows them. -/
structure ItS (p C bR bL : Nat) (cur : ByteArray) (e : Int) (k : Nat) (W : World) : Prop where
  rd : RdX W p cur e
  ck : Boxed W C 47 (.int .u64 (k : Int))
  br : Boxed W bR 53 (.pointer (some ⟨p, 0, none⟩))
  bl : Boxed W bL 56 (lessV C)
/-- The two blocks that it turns. -/
def TwoT (p C : Nat) : Nat → Prop := fun k => k = p ∨ k = C
theorem blk_ne {W : World} {g b : Nat} {cs ds : Array Value} {s t : TypeId} {x y : Nat × Nat} (h : W.heap[g]? = some (.cells cs s x)) (k : W.heap[b]? = some (.cells ds t y)) (hne : s ≠ t) : b ≠ g := by
  rintro rfl; rw [h] at k; simp at k; exact hne k.2.1
theorem ItS.step {p C bR bL k : Nat} {cur cur' : ByteArray} {e e' : Int} {W W' : World} (h : ItS p C bR bL cur e k W) (hr : RdX W' p cur' e') (hg : W.grownBy W' (some p)) : ItS p C bR bL cur' e' k W' :=
  ⟨hr, h.ck.kept hg (fun e => blk_ne h.rd h.ck (by decide) (Option.some.inj e)), h.br.kept hg (fun e => blk_ne h.rd h.br (by decide) (Option.some.inj e)), h.bl.kept hg (fun e => blk_ne h.rd h.bl (by decide) (Option.some.inj e))⟩
theorem ItS.less {p C bR bL k : Nat} {cur : ByteArray} {e : Int} {W : World} (h : ItS p C bR bL cur e k W) (k' : Nat) : ItS p C bR bL cur e k' (W.setCell ⟨C, 0, none⟩ (.int .u64 (k' : Int))) :=
  have hg := grownBy_setCell' W C (.int .u64 (k' : Int))
  ⟨(hg.block p h.rd.lt (fun e => blk_ne h.ck h.rd (by decide) (Option.some.inj e))).trans h.rd, h.ck.set _, h.br.kept hg (fun e => blk_ne h.ck h.br (by decide) (Option.some.inj e)), h.bl.kept hg (fun e => blk_ne h.ck h.bl (by decide) (Option.some.inj e))⟩
theorem ItS.drewN {p C bR bL k : Nat} {cur : ByteArray} {e : Int} {W : World} (h : ItS p C bR bL cur e k W) (m : Nat) : ItS p C bR bL cur e k (W.drewN m) := ⟨h.rd, h.ck, h.br, h.bl⟩
theorem ItS.same {p C bR bL k : Nat} {cur : ByteArray} {e : Int} {W W' : World} (h : ItS p C bR bL cur e k W) (h1 : W'.heap[p]? = W.heap[p]?) (h2 : W'.heap[C]? = W.heap[C]?) (h3 : W'.heap[bR]? = W.heap[bR]?) (h4 : W'.heap[bL]? = W.heap[bL]?) : ItS p C bR bL cur e k W' := ⟨h1.trans h.rd, h2.trans h.ck, h3.trans h.br, h4.trans h.bl⟩

set_option maxRecDepth 100000 in
theorem less38 (C k t : Nat) (w : World) (h : Boxed w C 47 (.int .u64 (k : Int))) (ht : t ≤ k) (hk : k ≤ 1000000) :
    Calls Try.prog 38 #[.int .u64 (t : Int), .pointer (some ⟨C, 0, none⟩)] w fun e w' => e = .returned (.int .u64 ((k - t : Nat) : Int)) ∧ w' = w.setCell ⟨C, 0, none⟩ (.int .u64 ((k - t : Nat) : Int)) := by
  have hc := h.cell
  have hf := h.frozen
  obtain ⟨m, hm⟩ : ∃ m, k - t = m := ⟨_, rfl⟩
  have e1 : (k : Int) - (t : Int) = (m : Int) := by omega
  have e2 : IntKind.u64.wrap (m : Int) = (m : Int) := by rw [IntKind.wrap_u64]; omega
  rw [hm]
  clear hm h
  go_enter Try.func38, Try.ntmps38
  go_wp2
  go_ret
  exact ⟨rfl, rfl⟩
theorem countdown23 (k : Int) (w : World) : Calls Try.prog 23 #[.int .u64 k] w fun e w' => e = .returned (lessV w.heap.size) ∧ w' = w.alloc (.cells #[.int .u64 k] 47) := by
  go_enter Try.func23, Try.ntmps23
  go_wp2
  go_ret
  exact ⟨rfl, rfl⟩
theorem written22 (a : Option Addr) (C : Nat) (w : World) : Calls Try.prog 22 #[.pointer a, lessV C] w fun e w' => e = .returned (.func (.func 35) #[] #[.pointer (some ⟨w.heap.size + 1, 0, none⟩), .pointer (some ⟨w.heap.size, 0, none⟩)]) ∧ w' = (w.alloc (.cells #[.pointer a] 53)).alloc (.cells #[lessV C] 56) := by
  unfold lessV
  go_enter Try.func22, Try.ntmps22
  go_wp2
  go_ret
  exact ⟨rfl, rfl⟩
end Go.Proofs.Ytjbhgifdpdnppaa
