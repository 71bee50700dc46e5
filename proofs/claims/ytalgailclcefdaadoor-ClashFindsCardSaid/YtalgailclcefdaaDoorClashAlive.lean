/- The document's key in a variable; the document's example: the contract of alive. -/
import Derived.Test.YtalgailclcefdaaDoorClashCall
import Derived.Test.YtalgailclcefdaaDoorClashRefC
import Derived.Test.YtalgailclcefdaaDoorShaLaid
namespace Go.Proofs.YtalgailclcefdaaDoor
open Go.RowKit

/-- The key lies in a variable. -/
def KeyG (w : World) (g : Nat) (kc : Array Value) (W : World) : Prop := W.heap[g]? = some (.cells kc 32 (0, 0)) ∧ Below w.heap.size w W ∧ w.heap.size ≤ g ∧ g < W.heap.size
theorem KeyG.below {w W W' : World} {g : Nat} {kc : Array Value} (h : KeyG w g kc W) (hb : Below W.heap.size W W') : KeyG w g kc W' :=
  ⟨(hb.block _ h.2.2.2).trans h.1, bt2 h.2.1 hb, h.2.2.1, Nat.lt_of_lt_of_le h.2.2.2 hb.size⟩
theorem KeyG.drews {w W : World} {g : Nat} {kc : Array Value} (h : KeyG w g kc W) (m : Nat) : KeyG w g kc (W.drewN m) := h.below (below_drews m)
theorem KeyG.lo {w W : World} {g : Nat} {kc : Array Value} (h : KeyG w g kc W) : Below w.heap.size w W := h.2.1
theorem key_made {w w1 : World} {Z kc : Array Value} (hb : Below w.heap.size w w1) : KeyG w w1.heap.size kc ((w1.alloc (.cells Z 32)).setRow w1.heap.size kc) :=
  ⟨setRow_heap _ _ _ _ 32 (0, 0) (heap_alloc_new w1 _), below_row1 (hb.alloc hb.size _) hb.size, hb.size, by simp⟩
theorem wpList_load_rowG {P : Program} {ops : Array Oper} {rest : List Oper} {o : Oper} {a : Act} {w : World} {Q : Exit → Act → World → Prop} (hw : Region.wanted o (yielded ops a.tmps) = true) (ty : TypeId) (x : Operand) (ho : o.op = .load ty x)
    (g : Nat) (hx : a.eval x = .pointer (some ⟨g, 0, none⟩)) (t : TypeId) (cs : Array Value) (fr : Nat × Nat) (d : TypeDesc) (hg : w.heap[g]? = some (.cells cs t fr))
    (hu : P.underlying ty = some d) (hd : (match d with | .struct _ | .array _ _ => true | _ => false) = true) (hi : (P.info? ty).map (·.size) = some cs.size)
    (h : wpList P ops Q rest (a.put o.dst (.agg cs)) w) : wpList P ops Q (o :: rest) a w :=
  BigFrame.wpList_want hw fun _ hK => wp_load_row ty x ho g hx t cs fr d hg hu hd hi (hK _ _ h)
theorem yieldsIf_loadG {P : Program} {ops : Array Oper} {S : World → Prop} {op : Oper} {a : Act} (hw : Region.wanted op (yielded ops a.tmps) = true) (ty : TypeId) (x : Operand) (ho : op.op = .load ty x)
    (p v : Value) (hx : a.eval x = p) (hS : ∀ w, S w → (Instr.loadAt ty p).run P w = .ok v w) : YieldsIf P ops S op v a :=
  .inl ⟨hw, fun w hw' => by
    unfold execOp
    simp only [ho, hx, Sem.run_bind, Sem.run_pure, hS w hw', Result.andThen_ok]⟩

def tA : ByteArray := ⟨#[97]⟩
def tB : ByteArray := ⟨#[98]⟩
set_option maxRecDepth 100000 in
theorem dig_unlike : digB [0, 97] ≠ digB [0, 98] := by decide +kernel
theorem root_unlike : rootS (cutH 32) [tA] ≠ rootS (cutH 32) [tB] := by
  rw [rootS_one _ rfl, rootS_one _ rfl]
  show cutH 32 (⟨#[0, 97]⟩ : ByteArray) ≠ cutH 32 ⟨#[0, 98]⟩
  intro e
  have k : ∀ s : ByteArray, cutH 32 s = digS s := fun s => by
    unfold cutH
    have := digS_size s
    apply ByteArray.ext
    rw [ByteArray.data_extract, ← this]
    exact Array.extract_size ..
  rw [k, k] at e
  have e2 := congrArg (fun s : ByteArray => s.data.toList) e
  exact dig_unlike (by simpa [digS] using e2)

set_option maxRecDepth 100000 in
set_option maxHeartbeats 1000000 in
theorem alive6c (w : World) (hK : KHeld w) : Calls Tryd.prog 6 #[] w fun e w' => e = .returned (.bool true) ∧ Below w.heap.size w w' := by
  have hzA : ∀ t ∈ [tA], t.size ≤ 700000 := by decide
  have hzB : ∀ t ∈ [tB], t.size ≤ 700000 := by decide
  have HF1 := Lib.hid (fun (a a2 : Option Addr) (W : World) (hb : Below w.heap.size w W) (h1 : StrsAt W a [tA]) (h2 : StrsAt W a2 [tA]) => top8 a a2 1 1 1 1 32 W _ _ _ (clash17R 32 (by omega) (by omega) 1 [tA] [tA] a a2 1 1 W rfl rfl (by omega) hzA hzA h1 h2 (by omega) (by omega) (KHeld_of hK hb)))
  rw [resR_none] at HF1
  have HF2 := Lib.hid (fun (a a2 : Option Addr) (W : World) (hb : Below w.heap.size w W) (h1 : StrsAt W a [tA]) (h2 : StrsAt W a2 [tB]) => top8 a a2 1 1 1 1 32 W _ _ _ (clash17R 32 (by omega) (by omega) 1 [tA] [tB] a a2 1 1 W rfl rfl (by omega) hzA hzB h1 h2 (by omega) (by omega) (KHeld_of hK hb)))
  rw [resR_twin root_unlike] at HF2
  have HF3 := Lib.hid (fun (W : World) (hb : Below w.heap.size w W) => top13 none none 0 0 0 0 32 W _ _ _ (clash17C 32 (by omega) (by omega) 0 [] [] none none 0 0 W rfl rfl (by omega) (by simp) (by simp) (.inl rfl) (.inl rfl) (by omega) (by omega) (KHeld_of hK hb)))
  rw [resC_none] at HF3
  have HS := Lib.hid (fun (W : World) (t u : ByteArray) => show StrsAt ((W.alloc (.cells #[.string t] 9)).alloc (.cells #[.string u] 9)) (some ⟨W.heap.size, 0, none⟩) [t] from (strs_new W [t]).below ((Below.refl _ _).alloc (Nat.le_refl _) _))
  have HS2 := Lib.hid (fun (W : World) (t u : ByteArray) => show StrsAt ((W.alloc (.cells #[.string t] 9)).alloc (.cells #[.string u] 9)) (some ⟨W.heap.size + 1, 0, none⟩) [u] from by
    have := strs_new (W.alloc (.cells #[.string t] 9)) [u]
    rwa [show (W.alloc (.cells #[.string t] 9)).heap.size = W.heap.size + 1 by simp] at this)
  have HBA := Lib.hid (fun (W : World) (hb : Below w.heap.size w W) (t u : ByteArray) => show Below w.heap.size w ((W.alloc (.cells #[.string t] 9)).alloc (.cells #[.string u] 9)) from (hb.alloc hb.size _).alloc (by simp; have := hb.size; omega) _)
  clear hK
  go_enter Tryd.func6, Tryd.ntmps6
  go_upto_region 2 with (go_at_call 8; refine (HF1.out _ _ _ (HBA.out w (Below.refl _ w) tA tA) (HS.out w tA tA) (HS2.out w tA tA)).mono ?_; rintro e w1 ⟨rfl, hb1⟩; have HB1 := Lib.hid (bt2 (HBA.out w (Below.refl _ w) tA tA) hb1); clear hb1)
  go_upto_region 3 with (go_at_call 8; refine (HF2.out _ _ _ (HBA.out w1 HB1.out tA tB) (HS.out w1 tA tB) (HS2.out w1 tA tB)).mono ?_; rintro e w2 ⟨rfl, hb2⟩; have HB2 := Lib.hid (bt2 (HBA.out w1 HB1.out tA tB) hb2); clear hb2)
  go_wp2_with (go_at_call 13; refine (HF3.out _ HB2.out).mono ?_; rintro e w3 ⟨rfl, hb3⟩; have HB3 := Lib.hid (bt2 HB2.out hb3); clear hb3)
  go_ret
  exact ⟨rfl, HB3.out⟩
end Go.Proofs.YtalgailclcefdaaDoor
