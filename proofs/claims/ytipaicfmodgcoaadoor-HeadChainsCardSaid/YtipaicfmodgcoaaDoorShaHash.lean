/- The memory of a hash; laws on what goes into its middle. -/
import Derived.Test.YtipaicfmodgcoaaDoorShaBytes
import Derived.Test.YtipaicfmodgcoaaDoorShaPure
namespace Go.Proofs.YtipaicfmodgcoaaDoor
open Go.RowKit

/-- The cells of a hash. -/
def hC (s : St) (b : List UInt8) (n : Nat) : Array Value := ((stA s).toList ++ Lib.byteCells b ++ [Value.int .u64 (n : Int)]).toArray
theorem hC_size (s : St) (b : List UInt8) (n : Nat) (h : b.length = 64) : (hC s b n).size = 73 := by simp [hC, Lib.byteCells, stA, h]
theorem bc_len (b : List UInt8) : (Lib.byteCells b).length = b.length := by simp [Lib.byteCells]
theorem hC_take8 (s : St) (b : List UInt8) (n : Nat) : (hC s b n).toList.take 8 = (stA s).toList := by
  simp only [hC, List.append_assoc]
  rw [List.take_append_of_le_length (by simp [stA]), List.take_of_length_le (by simp [stA])]
theorem hC_72 (s : St) (b : List UInt8) (n : Nat) (h : b.length = 64) : (hC s b n)[72]? = some (.int .u64 (n : Int)) := by
  simp only [hC, List.getElem?_toArray]
  rw [List.getElem?_append_right (by simp [stA, Lib.byteCells, h])]
  simp [stA, Lib.byteCells, h]
theorem hC_set72 (s : St) (b : List UInt8) (n k : Nat) (h : b.length = 64) : (hC s b n).setIfInBounds 72 (.int .u64 (k : Int)) = hC s b k := by
  apply Array.ext'
  rw [Array.toList_setIfInBounds]
  simp only [hC]
  rw [List.set_append_right _ _ (by simp [stA, Lib.byteCells, h])]
  simp [stA, Lib.byteCells, h]
theorem hC_at (s : St) (b : List UInt8) (n j : Nat) (h : b.length = 64) (hj : j < 64) : (hC s b n)[8 + j]? = some (.int .u8 (byteAt b j : Int)) := by
  simp only [hC, List.getElem?_toArray]
  rw [List.getElem?_append_left (by simp [stA, Lib.byteCells, h]; omega), List.getElem?_append_right (by simp [stA])]
  simp [stA, Lib.byteCells, byteAt, h, hj, List.getD]
theorem bA_bc (b : List UInt8) : bA b = (Lib.byteCells b).toArray := rfl
theorem hC_splice (s : St) (b x : List UInt8) (n m : Nat) (h : b.length = 64) (hm : m + x.length ≤ 64) :
    ((hC s b n).toList.take (8 + m) ++ Lib.byteCells x ++ (hC s b n).toList.drop (8 + m + x.length)).toArray = hC s (laid b m x) n := by
  have hs8 : (stA s).toList.length = 8 := rfl
  apply Array.ext'
  simp only [hC, laid, Lib.byteCells, List.map_append, List.map_take, List.map_drop]
  simp only [List.append_assoc]
  rw [List.take_append, List.take_of_length_le (by rw [hs8]; omega), hs8, show 8 + m - 8 = m by omega, List.take_append_of_le_length (by simp; omega),
    List.drop_append, List.drop_of_length_le (by rw [hs8]; omega), hs8, show 8 + m + x.length - 8 = m + x.length by omega, List.drop_append_of_le_length (by simp; omega)]
  simp
theorem hC_state (s t : St) (b : List UInt8) (n : Nat) : ((hC s b n).toList.take 0 ++ (stA t).toList ++ (hC s b n).toList.drop (0 + (stA t).toList.length)).toArray = hC t b n := by
  have hs8 : (stA s).toList.length = 8 := rfl
  have ht8 : (stA t).toList.length = 8 := rfl
  apply Array.ext'
  simp only [hC, ht8, List.append_assoc]
  rw [List.drop_append, List.drop_of_length_le (by rw [hs8]; omega), hs8]
  simp

/-- A hash lies in a block: it has all these bytes. -/
def HashAt (W : World) (g : Nat) (all : List UInt8) : Prop := ∃ b : List UInt8, tailOk all b ∧ W.heap[g]? = some (.cells (hC (sOf all) b all.length) 125 (0, 0))

theorem run_copy_str {P : Program} (w : World) (dT sT ty elem : TypeId) (g o dLen dCap m : Nat) (s : ByteArray) (cur : Array Value) (t : TypeId)
    (hu : P.underlying dT = some (.slice elem)) (hs : (P.info? elem).map (·.size) = some 1) (hg : w.heap[g]? = some (.cells cur t (0, 0))) (hm : Nat.min s.size dLen = m) (hfit : o + m ≤ cur.size) :
    (Builtin.copy_ #[dT, sT] ty #[.slice (some ⟨g, o, none⟩) dLen dCap, .string s]).run P w =
      .ok (goInt m) (w.setRow g (cur.toList.take o ++ Lib.byteCells (s.data.toList.take m) ++ cur.toList.drop (o + m)).toArray) := by
  have hsz : s.data.toList.length = s.size := by simp
  have hlen : (Lib.byteCells (s.data.toList.take m)).length = m := by
    rw [bc_len, List.length_take, hsz]
    have : m ≤ s.size := by rw [← hm]; exact Nat.min_le_left _ _
    omega
  have hst := run_storeCells_at P g o t (Lib.byteCells (s.data.toList.take m)) 0 cur w hg (by rw [hlen]; simpa using hfit) (Lib.byteCells_one _)
  have htk : List.take m (List.map (fun b : UInt8 => Value.int IntKind.u8 (b.toNat : Int)) s.data.toList) = Lib.byteCells (s.data.toList.take m) := by
    rw [Lib.byteCells, List.map_take]
  rw [hlen] at hst
  simp only [Nat.add_zero] at hst
  cases hq : P.info? elem with
  | none => simp [hq] at hs
  | some i =>
    simp [Builtin.copy_, run_underlying hu, Builtin.lenOf, Builtin.firstCells, sizeOf, typeInfo, hq, hm]
    rw [htk, hst]
    simp [Result.andThen]

theorem wpList_copy_str {P : Program} {w : World} {ops : Array Oper} {rest : List Oper} {o : Oper} {a : Act} {Q : Exit → Act → World → Prop} (hgd : o.guard = none) (d x : Operand) (dT sT : TypeId)
    (ho : o.op = .call { callee := .builtin .copy, args := #[d, x], argTypes := #[dT, sT] }) (elem : TypeId) (hu : P.underlying dT = some (.slice elem)) (hsz : (P.info? elem).map (·.size) = some 1)
    (g off dLen dCap m : Nat) (s : ByteArray) (hd : a.eval d = .slice (some ⟨g, off, none⟩) dLen dCap) (hx : a.eval x = .string s)
    (cur : Array Value) (t : TypeId) (hg : w.heap[g]? = some (.cells cur t (0, 0))) (hm : Nat.min s.size dLen = m) (hfit : off + m ≤ cur.size)
    (h : wpList P ops Q rest (a.put o.dst (goInt m)) (w.setRow g (cur.toList.take off ++ Lib.byteCells (s.data.toList.take m) ++ cur.toList.drop (off + m)).toArray)) : wpList P ops Q (o :: rest) a w := by
  refine wpList_plain hgd fun K hK => ?_
  have hrun := run_copy_str (P := P) w dT sT o.type elem g off dLen dCap m s cur t hu hsz hg hm hfit
  unfold Oper.wp
  rw [List.append_assoc] at h
  simp [execOp, ho, resolve, invoke, builtin, hd, hx, hrun, Result.andThen]
  exact hK _ _ h

theorem wpList_store_at {P : Program} {ops : Array Oper} {rest : List Oper} {op : Oper} {a : Act} {w : World} {Q : Exit → Act → World → Prop} (hgd : op.guard = none) (ty : TypeId) (x y : Operand) (ho : op.op = .store ty x y)
    (g o : Nat) (cells : Array Value) (hx : a.eval x = .pointer (some ⟨g, o, none⟩)) (hy : a.eval y = .agg cells)
    (cur : Array Value) (t : TypeId) (hg : w.heap[g]? = some (.cells cur t (0, 0))) (hfit : o + cells.toList.length ≤ cur.size) (hi : (P.info? ty).map (·.size) = some cells.size) (h1 : cells.all (·.oneCell') = true)
    (h : wpList P ops Q rest (a.put op.dst undef) (w.setRow g (cur.toList.take o ++ cells.toList ++ cur.toList.drop (o + cells.toList.length)).toArray)) : wpList P ops Q (op :: rest) a w := by
  refine wpList_plain hgd fun _ hK => ?_
  have hst := run_storeCells_at P g o t cells.toList 0 cur w hg (by simpa using hfit) (fun v hv => (Array.all_eq_true_iff_forall_mem.1 h1) v (by simpa using hv))
  simp only [Nat.add_zero] at hst
  have hrun : (Instr.storeAt ty (.pointer (some ⟨g, o, none⟩)) (.agg cells)).run P w = .ok () (w.setRow g (cur.toList.take o ++ cells.toList ++ cur.toList.drop (o + cells.toList.length)).toArray) := by
    cases hq : P.info? ty with
    | none => simp [hq] at hi
    | some i =>
      have hs : cells.size = i.size := by simp [hq] at hi; omega
      simp [Instr.storeAt, Instr.sureAddr, Sem.run_bind, storeVar, sizeOf, typeInfo, hq, Value.cells, hs, hst, Result.andThen]
  unfold Oper.wp execOp
  simp only [ho, hx, hy, Sem.run_bind, hrun, Result.andThen_ok, Sem.run_pure]
  exact hK _ _ h

theorem still_load {P : Program} {ops : Array Oper} {o : Oper} {a : Act} {w : World} {K : Act → Prop} (hgd : o.guard = none) (ty : TypeId) (x : Operand) (ho : o.op = .load ty x) (p v : Value) (hx : a.eval x = p)
    (hr : (Instr.loadAt ty p).run P w = .ok v w) (h : K (a.put o.dst v)) : if Region.wanted o (yielded ops a.tmps) = true then o.still P a w K else K (a.put o.dst undef) := by
  rw [if_pos (by simp [Region.wanted, hgd])]
  unfold Oper.still execOp
  simp only [ho, hx, Sem.run_bind, Sem.run_pure, hr, Result.andThen_ok]
  exact ⟨rfl, h⟩
theorem load_at {P : Program} (W : World) (g o : Nat) (ty : TypeId) (cs : List Value) (d : TypeDesc) (hc : W.rangeAt g o cs) (hu : P.underlying ty = some d) (hd : d.isRow = true) (hi : (P.info? ty).map (·.size) = some cs.length) :
    (Instr.loadAt ty (.pointer (some ⟨g, o, none⟩))).run P W = .ok (.agg cs.toArray) W := run_loadAt_mid W g o ty cs d hc hu hd hi
theorem hash_state {W : World} {g : Nat} {s : St} {b : List UInt8} {n : Nat} (h : W.heap[g]? = some (.cells (hC s b n) 125 (0, 0))) : (Instr.loadAt 35 (.pointer (some ⟨g, 0, none⟩))).run Tryd.prog W = .ok (.agg (stA s)) W := by
  have hr := World.rangeAt_of_block h 0 8
  have e : ((hC s b n).extract 0 (0 + 8)).toList = (stA s).toList := by
    rw [Array.toList_extract]; simpa using hC_take8 s b n
  rw [e] at hr
  have := load_at (P := Tryd.prog) W g 0 35 (stA s).toList _ hr Tryd.underlying35 rfl (by rw [info41]; rfl)
  simpa using this
theorem hash_block {W : World} {g : Nat} {s : St} {b : List UInt8} {n : Nat} (h : W.heap[g]? = some (.cells (hC s b n) 125 (0, 0))) (hb : b.length = 64) : (Instr.loadAt 123 (.pointer (some ⟨g, 8, none⟩))).run Tryd.prog W = .ok (.agg (bA b)) W := by
  have hr : W.rangeAt g 8 (Lib.byteCells b) := by
    intro j v hv
    have hj : j < 64 := by have := (List.getElem?_eq_some_iff.1 hv).1; rw [bc_len, hb] at this; exact this
    rw [cell_of_row W g (8 + j) _ 125 (0, 0) h, hC_at s b n j hb hj, ← hv]
    simp [Lib.byteCells, byteAt, hb, hj, List.getD]
  have := load_at (P := Tryd.prog) W g 8 123 (Lib.byteCells b) _ hr Tryd.underlying123 rfl (by rw [bc_len, hb]; exact info46)
  simpa [bA_bc] using this
end Go.Proofs.YtipaicfmodgcoaaDoor
