/- General laws of my own on walks and worlds; of no program. -/
import Derived.WalkKit
import Derived.Below
import Derived.OrdersHeld
import Derived.Deep.RegionHeld
import Derived.Deep.MidRow
import Derived.Laws.AppendOwn
import Derived.Laws.Tables
import Derived.Laws.EntriesVeiled
import Derived.Lib.Hide
import Derived.BigQuiet
import Derived.OwnWalk
import Derived.Laws.MakeOwn
import Derived.IntWalk
import Derived.Deep.Cut
import Derived.Deep.CutRange
import Derived.Deep.RegionWith
import Derived.Lib.Walk
namespace Go.Proofs.YtfodnadmabnacaaDoor.Base
open Go.RowKit

theorem at_world {P : Program} {c : Code} {Q : Exit → Act → World → Prop} {a : Act} {W : World} (Φ : World → Prop) (hΦ : Φ W) (h : ∀ W', Φ W' → Code.wp P c Q a W') : Code.wp P c Q a W := h W hΦ
theorem at_worldL {P : Program} {ops : Array Oper} {Q : Exit → Act → World → Prop} {rest : List Oper} {a : Act} {W : World} (Φ : World → Prop) (hΦ : Φ W) (h : ∀ W', Φ W' → wpList P ops Q rest a W') : wpList P ops Q rest a W := h W hΦ
theorem below_row1 {w W : World} {a : Nat} {ks : Array Value} (h : Below w.heap.size w W) (ha : w.heap.size ≤ a) : Below w.heap.size w (W.setRow a ks) :=
  ⟨h.os, h.tape, h.output, by have := h.size; simpa using this, fun k hk => by rw [setRow_other _ _ _ _ (by omega)]; exact h.block k hk⟩
theorem bt2 {a b c : World} (h : Below a.heap.size a b) (k : Below b.heap.size b c) : Below a.heap.size a c := h.trans (k.mono h.size)
theorem below_drews {a : World} (m : Nat) : Below a.heap.size a (a.drewN m) := ⟨rfl, rfl, rfl, Nat.le_refl _, fun _ _ => rfl⟩
theorem below_drewN' {a b : World} {B : Nat} (h : Below B a b) (m : Nat) : Below B a (b.drewN m) := h.trans ⟨rfl, rfl, rfl, Nat.le_refl _, fun _ _ => rfl⟩
theorem own_block_ge {w : World} {base : Nat} {e : TypeId} {size n : Nat} {v : Value} {xs : List Value} (h : w.ownsRow base e size v n xs) : ∀ k, v.ownBlock = some k → base ≤ k := by
  intro k hk
  rcases h.2 with ⟨rfl, _⟩ | ⟨g, cap, cur, rfl, hg, _⟩
  · simp [Value.ownBlock] at hk
  · simp [Value.ownBlock] at hk; omega
theorem new_one (W : World) (v : Value) (T : TypeId) : ∀ (j : Nat) (u : Value), [v][j]? = some u → (W.alloc (.cells #[v] T)).cell? ((⟨W.heap.size, 0, none⟩ : Addr).add j) = some u := by
  intro j u hj
  match j, hj with
  | 0, hj => simp at hj; subst hj; simp [Addr.add, cell_of_one (heap_alloc_new W _)]
theorem World_grown_alloc {w w' : World} {o : Obj} {r : Option Nat} (h : (w.alloc o).grownBy w' r) : w.grownBy w' r :=
  ⟨h.os, h.tape, h.output, by have := h.size; simp at this; omega, fun k hk hne => (h.block k (by simp; omega) hne).trans (Below.heap_alloc w o k hk)⟩
theorem cell_alloc1 (W : World) (v : Value) (T : TypeId) : (W.alloc (.cells #[v] T)).cell? ⟨W.heap.size, 0, none⟩ = some v := by
  rw [cell_of_row _ _ _ _ T (0, 0) (heap_alloc_new W _)]; rfl
theorem cell_of_one {W : World} {g : Nat} {v : Value} {T : TypeId} (h : W.heap[g]? = some (.cells #[v] T (0, 0))) : W.cell? ⟨g, 0, none⟩ = some v := by
  rw [cell_of_row _ _ _ _ T (0, 0) h]; rfl
theorem set_blkN {W : World} {g : Nat} {cs : Array Value} {t : TypeId} (h : W.heap[g]? = some (.cells cs t (0, 0))) (i : Nat) (u : Value) : (W.setCell ⟨g, i, none⟩ u).heap[g]? = some (.cells (cs.setIfInBounds i u) t (0, 0)) := by
  simp [World.setCell, Array.getElem?_modify, h]
theorem free_of_blkN {W : World} {g : Nat} {cs : Array Value} {t : TypeId} (h : W.heap[g]? = some (.cells cs t (0, 0))) (i : Nat) : W.frozen? ⟨g, i, none⟩ = false := by
  simp [World.frozen?, h]
theorem cell_of_blkN {W : World} {g : Nat} {cs : Array Value} {t : TypeId} (h : W.heap[g]? = some (.cells cs t (0, 0))) (i : Nat) (hi : i < cs.size) : ∃ u, W.cell? ⟨g, i, none⟩ = some u := by
  refine ⟨cs[i], ?_⟩
  rw [cell_of_row W g i cs t (0, 0) h]; simp [hi]
theorem heap_setCell_other {W : World} {g k : Nat} (u : Value) (h : k ≠ g) : (W.setCell ⟨g, 0, none⟩ u).heap[k]? = W.heap[k]? := by
  simp [World.setCell, Array.getElem?_modify]; intro e; exact absurd e.symm h
theorem results_run1 {P : Program} (ty : TypeId) (a : Addr) (w : World) {x v : Value} (hx : x = .pointer (some a)) (h1 : (loadVar ty a).run P w = .ok v w) :
    (((asAddr x).run P w).andThen fun a w1 => (loadVar ty a).run P w1) = .ok v w := by
  subst hx
  simp [asAddr, Result.andThen, h1]
theorem results_cell {fn : Func} {p : Tmp} {ty : TypeId} (h : fn.results = #[.cell p ty]) (tmps : Array Value) (P : Program) (w : World) :
    (results fn tmps).run P w = ((asAddr (tmps.getD p undef)).run P w).andThen fun a w1 => (loadVar ty a).run P w1 := by
  simp only [results, h]
  simp [Sem.run_bind, Result.andThen]
theorem three_alloc {w : World} {A B C : Obj} : (((w.alloc A).alloc B).alloc C).heap[w.heap.size]? = some A ∧ (((w.alloc A).alloc B).alloc C).heap[w.heap.size + 1]? = some B ∧ (((w.alloc A).alloc B).alloc C).heap[w.heap.size + 1 + 1]? = some C ∧ Below w.heap.size w (((w.alloc A).alloc B).alloc C) := by
  have e1 : (w.alloc A).heap.size = w.heap.size + 1 := by simp
  have e2 : ((w.alloc A).alloc B).heap.size = w.heap.size + 1 + 1 := by simp
  have h0 := heap_alloc_new w A
  have h1 := heap_alloc_new (w.alloc A) B
  have h2 := heap_alloc_new ((w.alloc A).alloc B) C
  rw [e1] at h1; rw [e2] at h2
  refine ⟨?_, ?_, h2, (((Below.refl _ w).alloc (Nat.le_refl _) _).alloc (by omega) _).alloc (by omega) _⟩
  · rw [Below.heap_alloc _ _ _ (by omega), Below.heap_alloc _ _ _ (by omega)]; exact h0
  · rw [Below.heap_alloc _ _ _ (by omega)]; exact h1
theorem wanted_go {ops : Array Oper} {o : Oper} {a : Act} {A B : Prop} (hgd : o.guard = none) (h : A) : if Region.wanted o (yielded ops a.tmps) = true then A else B := by
  rw [if_pos (by simp [Region.wanted, hgd])]; exact h
theorem yieldsIf_load {P : Program} {ops : Array Oper} {S : World → Prop} {op : Oper} {a : Act} (hgd : op.guard = none) (ty : TypeId) (x : Operand) (ho : op.op = .load ty x)
    (p v : Value) (hx : a.eval x = p) (hS : ∀ w, S w → (Instr.loadAt ty p).run P w = .ok v w) : YieldsIf P ops S op v a :=
  .inl ⟨by simp [Region.wanted, hgd], fun w hw' => by
    unfold execOp
    simp only [ho, hx, Sem.run_bind, Sem.run_pure, hS w hw', Result.andThen_ok]⟩
theorem ret_bool {a b : Bool} (h : a = b) : Ending.returned (.bool a) = .returned (.bool b) := by rw [h]
theorem grown_set (W : World) (p i : Nat) (v : Value) : W.grownBy (W.setCell ⟨p, i, none⟩ v) (some p) :=
  ⟨rfl, rfl, rfl, by simp [World.setCell], fun k _ hk => Below.heap_setCell W ⟨p, i, none⟩ v k (fun e => hk (by rw [e]))⟩
theorem ret_int {k : IntKind} {a b : Int} (h : a = b) : Ending.returned (.int k a) = .returned (.int k b) := by rw [h]
theorem load_at {P : Program} (W : World) (g o : Nat) (ty : TypeId) (cs : List Value) (d : TypeDesc) (hc : W.rangeAt g o cs) (hu : P.underlying ty = some d) (hd : d.isRow = true) (hi : (P.info? ty).map (·.size) = some cs.length) :
    (Instr.loadAt ty (.pointer (some ⟨g, o, none⟩))).run P W = .ok (.agg cs.toArray) W := run_loadAt_mid W g o ty cs d hc hu hd hi
theorem four_alloc {w : World} {A B C D : Obj} : ((((w.alloc A).alloc B).alloc C).alloc D).heap[w.heap.size]? = some A ∧ ((((w.alloc A).alloc B).alloc C).alloc D).heap[w.heap.size + 1]? = some B ∧ ((((w.alloc A).alloc B).alloc C).alloc D).heap[w.heap.size + 1 + 1]? = some C ∧
    ((((w.alloc A).alloc B).alloc C).alloc D).heap[w.heap.size + 1 + 1 + 1]? = some D ∧ Below w.heap.size w ((((w.alloc A).alloc B).alloc C).alloc D) := by
  obtain ⟨h1, h2, h3, h4⟩ := three_alloc (w := w) (A := A) (B := B) (C := C)
  have hs : (((w.alloc A).alloc B).alloc C).heap.size = w.heap.size + 1 + 1 + 1 := by simp
  have h5 := heap_alloc_new (((w.alloc A).alloc B).alloc C) D
  rw [hs] at h5
  exact ⟨(Below.heap_alloc _ _ _ (by omega)).trans h1, (Below.heap_alloc _ _ _ (by omega)).trans h2, (Below.heap_alloc _ _ _ (by omega)).trans h3, h5, h4.alloc (by omega) _⟩
theorem own_below' {w w' : World} {base n : Nat} {e : TypeId} {sz : Nat} {v : Value} {xs : List Value} (h : w.ownsRow base e sz v n xs) (hb : Below w.heap.size w w') : w'.ownsRow base e sz v n xs :=
  h.kept (row := none) ⟨hb.os, hb.tape, hb.output, hb.size, fun k hk _ => hb.block k hk⟩ (by cases v.ownBlock <;> simp)
theorem own_ne' {W : World} {B n k : Nat} {e : TypeId} {sz : Nat} {v : Value} {xs : List Value} {cs : Array Value} {T : TypeId} (h : W.ownsRow B e sz v n xs) (hk : W.heap[k]? = some (.cells cs T (0, 0))) (hT : T ≠ e) : some k ≠ v.ownBlock := by
  rcases h.2 with ⟨rfl, _⟩ | ⟨g, cap, cur, rfl, _, hg, _⟩
  · simp [Value.ownBlock]
  · rintro e
    simp [Value.ownBlock] at e
    subst e
    rw [hg] at hk
    simp only [Option.some.injEq, Obj.cells.injEq] at hk
    exact hT hk.2.1.symm
theorem own_set' {W : World} {B n g i : Nat} {e : TypeId} {sz : Nat} {v u : Value} {xs : List Value} {T : TypeId} {cs : Array Value} (h : W.ownsRow B e sz v n xs) (hg : W.heap[g]? = some (.cells cs T (0, 0))) (hT : T ≠ e) : (W.setCell ⟨g, i, none⟩ u).ownsRow B e sz v n xs := by
  have hne := own_ne' h hg hT
  refine ⟨h.1, ?_⟩
  rcases h.2 with hn | ⟨b, cap, cur, rfl, h1, h2, rest⟩
  · exact .inl hn
  · refine .inr ⟨b, cap, cur, rfl, h1, ?_, rest⟩
    have hbg : b ≠ g := by rintro rfl; exact hne rfl
    have : (W.setCell ⟨g, i, none⟩ u).heap[b]? = W.heap[b]? := by
      simp [World.setCell, Array.getElem?_modify]; intro e; exact absurd e.symm hbg
    rw [this]; exact h2
theorem own_shape' {W : World} {B n : Nat} {e : TypeId} {sz : Nat} {v : Value} {xs : List Value} (h : W.ownsRow B e sz v n xs) (hn : 1 ≤ n) : ∃ g cap, v = .slice (some ⟨g, 0, none⟩) n cap := by
  rcases h.2 with ⟨_, h0⟩ | ⟨g, cap, cur, hv, _⟩
  · omega
  · exact ⟨g, cap, hv⟩
theorem heap_setCell_ne {W : World} {g i k : Nat} (u : Value) (h : k ≠ g) : (W.setCell ⟨g, i, none⟩ u).heap[k]? = W.heap[k]? := by
  simp [World.setCell, Array.getElem?_modify]; intro e; exact absurd e.symm h
theorem below_rowB {B : Nat} {w W : World} {a : Nat} {ks : Array Value} (h : Below B w W) (ha : B ≤ a) : Below B w (W.setRow a ks) :=
  h.trans ⟨rfl, rfl, rfl, by simp, fun k hk => by rw [setRow_other _ _ _ _ (by omega)]⟩
theorem bB {B : Nat} {w W W' : World} (hB : B = w.heap.size) (h : Below B w W) (k : Below W.heap.size W W') : Below B w W' := by subst hB; exact bt2 h k
/-- A result that lies in a variable. -/
theorem ret_cell {P : Program} {fn : Func} {Q : Ending → World → Prop} {a : Act} {w : World} {p : Tmp} {ty t : TypeId} {g : Nat} {cs : Array Value} {d : TypeDesc} (hr : fn.results = #[.cell p ty]) (hp : a.tmps.getD p undef = .pointer (some ⟨g, 0, none⟩)) (hd : a.defers = [])
    (hg : w.heap[g]? = some (.cells cs t (0, 0))) (hu : P.underlying ty = some d) (hs : (match d with | .struct _ | .array _ _ => true | _ => false) = true) (hi : (P.info? ty).map (·.size) = some cs.size) (h : Q (.returned (.agg cs)) w) : bodyPost P fn Q .ret a w :=
  bodyPost_ret (v := .agg cs) (by rw [results_cell hr]; exact results_run1 ty _ w hp (run_loadVar_row w g t ty cs (0, 0) d hg hu hs hi)) hd h

end Go.Proofs.YtfodnadmabnacaaDoor.Base
