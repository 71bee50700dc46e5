/- What has no partner is told with none: the program's contract. -/
import Derived.Test.YtellifcjamedkaaGreatDpSearch
import Derived.Test.YtellifcjamedkaaGreatMRd
namespace Go.Proofs.YtellifcjamedkaaGreat
open Go.RowKit Go.Shelf Base Base2
attribute [local go_sem] Oper.semAt_some
class ChQ where
  q : ChV → Prop
def ChOk [ChQ] (_ : World) (y : ChV) : Prop := ChQ.q y
def RowOkW (W : World) (y : RowV) : Prop := ValAt W y.a y.r.v
theorem ChOk.turn [ChQ] {W W' : World} {y : ChV} {S : Nat → Obj → Prop} (h : ChOk W y) (_ : NoT [2] S) (_ : TurnsK S W W') : ChOk W' y := h
theorem RowOkW.turn {W W' : World} {y : RowV} {S : Nat → Obj → Prop} (h : RowOkW W y) (hT : NoT [2] S) (ht : TurnsK S W W') : RowOkW W' y := ValAt.turn h hT ht
theorem NoT.tlr {ts : List TypeId} {R : Nat → Obj → Prop} (h : NoT ts R) (l : Nat) : NoT ts (TLR l R) := fun k cs t fz a => by
  rcases a with ⟨_, a⟩ | a
  · cases a
  · exact h k cs t fz a
theorem NoT.false (ts : List TypeId) : NoT ts (fun _ _ => False) := fun _ _ _ _ a => a.elim
def rowArr (x : Option RowV) : Array Value := match x with | some x => x.cells.toArray | none => #[.int .i64 0, .int .i64 0, .int .i64 0, .slice none 0 0]
/-- A pair, and what it is. -/
abbrev PRow := Option RowV × Option RowV
def plainRow (z : PRow) : Option RowT × Option RowT := (z.1.map RowV.r, z.2.map RowV.r)
def encRow2 (z : PRow) : Array Value := #[.agg (rowArr z.1), .agg (rowArr z.2)]
def TlPRow (FULL : List (Option RowT × Option RowT)) (pre : List PRow) (z : PRow) (W : World) : Prop := (∃ s, (pre ++ [z]).map plainRow ++ s = FULL) ∧ (∀ x, z.1 = some x → RowOkW W x) ∧ (∀ y, z.2 = some y → RowOkW W y)
def YieldPRow (l : Nat) (R : Nat → Obj → Prop) (FULL : List (Option RowT × Option RowT)) (J Jx : List PRow → World → Prop) : Prop :=
  ∀ pre z W, J pre W → TlPRow FULL pre z W → YieldAt Fence.wide 0 Tryz.prog l (encRow2 z) W fun e W' => ((e = .returned (.bool true) ∧ J (pre ++ [z]) W') ∨ (e = .returned (.bool false) ∧ Jx (pre ++ [z]) W')) ∧ TurnsK (TLR l R) W W'
def soleSRow (y : RowV) : PRow := (none, some y)
theorem sole_nextRow {pre : List PRow} {Y : List RowV} {FULL : List (Option RowT × Option RowT)} {i : Nat} {x : RowV} (hp : ∃ s, (pre ++ Y.map soleSRow).map plainRow ++ s = FULL) (hx : Y[i]? = some x) : (∃ s, (pre ++ (Y.take i).map soleSRow ++ [soleSRow x]).map plainRow ++ s = FULL) ∧ pre ++ (Y.take i).map soleSRow ++ [soleSRow x] = pre ++ (Y.take (i + 1)).map soleSRow := by
  have e : pre ++ (Y.take i).map soleSRow ++ [soleSRow x] = pre ++ (Y.take (i + 1)).map soleSRow := by rw [take_oneD hx, List.map_append, List.map_singleton, List.append_assoc]
  refine ⟨?_, e⟩
  rw [e]
  obtain ⟨s, hs⟩ := hp
  refine ⟨((Y.drop (i + 1)).map soleSRow).map plainRow ++ s, ?_⟩
  rw [← hs, ← List.append_assoc, ← List.map_append, List.append_assoc, ← List.map_append, List.take_append_drop]
set_option maxRecDepth 100000 in
set_option maxHeartbeats 8000000 in
theorem aloneRow (l : Nat) (R : Nat → Obj → Prop) (hR : NoT [58, 58, 2, 117] R) (FULL : List (Option RowT × Option RowT)) (J Jx : List PRow → World → Prop) (HJ : BearsK (fun _ _ => False) J) (HY : YieldPRow l R FULL J Jx)
    (W : World) (aa : Option Addr) (c : Nat) (Y : List RowV) (hr : RowsK 58 4 W aa (Y.map RowV.cells)) (hv : ∀ y ∈ Y, RowOkW W y) (hL : Y.length ≤ 10000) (bY : Nat) (hbY : Boxed W bY 117 (.func (.yield l) #[] #[])) (pre : List PRow) (hpre : ∃ s, (pre ++ Y.map soleSRow).map plainRow ++ s = FULL) (h0 : J pre W) :
    Calls Tryz.prog 66 #[.slice aa Y.length c, .pointer (some ⟨bY, 0, none⟩)] W fun e W' => TurnsK (TLR l R) W W' ∧ ((e = .returned (.bool true) ∧ J (pre ++ Y.map soleSRow) W') ∨ (e = .returned (.bool false) ∧ ∃ zs, Jx zs W')) := by
  refine (callsIn_wide (n := 10)).1 ?_
  have HROW := Lib.hid hr
  have HVV := Lib.hid hv
  have HJJ := Lib.hid HJ
  have HYY := Lib.hid HY
  have HPP := Lib.hid hpre
  have HRR := Lib.hid (hR.tlr l)
  have HBY := Lib.hid hbY
  have HJ0 := Lib.hid (HJ.below h0 ((Below.refl _ W).alloc (Nat.le_refl _) (.cells #[.int .i64 0, .int .i64 0, .int .i64 0, .slice none 0 0] 58)))
  have HT0 := Lib.hid (show TurnsK (TLR l R) W (W.alloc (.cells #[.int .i64 0, .int .i64 0, .int .i64 0, .slice none 0 0] 58)) from (TurnsK.refl _ _).alloc _)
  have HN0 := Lib.hid (heap_alloc_new W (.cells #[.int .i64 0, .int .i64 0, .int .i64 0, .slice none 0 0] 58))
  obtain ⟨n, hn⟩ : ∃ n, Y.length = n := ⟨_, rfl⟩
  have HN := Lib.hid hn
  rw [hn] at hL ⊢
  clear hr hv HJ HY hpre hR hbY h0 hn
  refine callsIn_of_wp Tryz.func66 rfl trivial ?_ rfl
  simp only [Tryz.ntmps66, List.size_toArray, List.length_cons, List.length_nil, Nat.reduceAdd, Nat.reduceSub, Array.replicate_succ, Array.replicate_zero, List.push_toArray, List.append_toArray, List.nil_append, List.cons_append]
  gi_wp2
  gi_loopw [9] (fun vi W' => ∃ i : Nat, vi = .int .i64 (i : Int) ∧ i ≤ n ∧ J (pre ++ (Y.take i).map soleSRow) W' ∧ TurnsK (TLR l R) W W' ∧ W'.heap[W.heap.size]? = some (.cells #[.int .i64 0, .int .i64 0, .int .i64 0, .slice none 0 0] 58 (0, 0))) (fun vi _ => n - (intOf vi).toNat)
  case atStart => exact ⟨0, rfl, Nat.zero_le _, by rw [List.take_zero, List.map_nil, List.append_nil]; exact HJ0.out, HT0.out, HN0.out⟩
  case round =>
    clear HJ0 HT0 HN0
    obtain ⟨i, rfl, hi, hj, ht, hno⟩ := hrel
    have HJ1 := Lib.hid hj
    have HT1 := Lib.hid ht
    have HNO := Lib.hid hno
    clear hj ht hno
    by_cases hlt : i < n
    · obtain ⟨x, hx⟩ : ∃ x, Y[i]? = some x := ⟨Y[i]'(by have := HN.out; omega), by simp [show i < Y.length by have := HN.out; omega]⟩
      obtain ⟨⟨xl, xa, xb, xv⟩, A, C⟩ := x
      have HX := Lib.hid hx
      obtain ⟨g, off, ha, hcs⟩ := (HROW.out.turn (HRR.out.sub (by simp)) HT1.out).at (i := i) (xs := #[.int .i64 xl, .int .i64 xa, .int .i64 xb, .slice A xv.length C].toList) (by rw [List.getElem?_map, hx]; rfl)
      subst ha
      have HCS := Lib.hid hcs
      clear hx hcs
      have k0 := HCS.out wr (Below.refl _ _) 0 _ rfl
      have k1 := HCS.out wr (Below.refl _ _) 1 _ rfl
      have k2 := HCS.out wr (Below.refl _ _) 2 _ rfl
      have k3 := HCS.out wr (Below.refl _ _) 3 _ rfl
      rw [Nat.add_zero] at k0
      have HNX := Lib.hid (sole_nextRow HPP.out HX.out)
      have hbl := (Below.refl _ wr).alloc (Nat.le_refl _) (.cells #[.int .i64 xl, .int .i64 xa, .int .i64 xb, .slice A xv.length C] 58)
      have HJ2 := Lib.hid (HJJ.out.below HJ1.out hbl)
      have HT2 := Lib.hid (HT1.out.trans (.below hbl))
      have HNO2 := Lib.hid ((hbl.block _ (lt_of_blk HNO.out)).trans HNO.out)
      have HV2 := Lib.hid ((HVV.out _ (List.mem_of_getElem? HX.out)).turn (HRR.out.sub (by simp)) HT2.out)
      obtain ⟨fn, tmps, assign, body, hy, hRd⟩ := HYY.out _ (soleSRow ⟨⟨xl, xa, xb, xv⟩, A, C⟩) _ HJ2.out ⟨HNX.out.1, (fun _ h => by cases h), (fun _ h => by cases h; exact HV2.out)⟩
      replace hy : (Instr.yield l #[.agg #[.int .i64 0, .int .i64 0, .int .i64 0, .slice none 0 0], .agg #[.int .i64 xl, .int .i64 xa, .int .i64 xb, .slice A xv.length C]]).run Tryz.prog (wr.alloc (.cells #[.int .i64 xl, .int .i64 xa, .int .i64 xb, .slice A xv.length C] 58)) = .ok (.round l fn tmps assign body) (wr.alloc (.cells #[.int .i64 xl, .int .i64 xa, .int .i64 xb, .slice A xv.length C] 58)) := hy
      have hb1 := ((HRR.out.sub (by simp)).at HT2.out HBY.out (List.mem_singleton.2 rfl) : (wr.alloc (.cells #[.int .i64 xl, .int .i64 xa, .int .i64 xb, .slice A xv.length C] 58)).heap[bY]? = some (.cells #[.func (.yield l) #[] #[]] 117 (0, 0)))
      have cb := cell_of_one hb1
      have n0 : (wr.alloc (.cells #[.int .i64 xl, .int .i64 xa, .int .i64 xb, .slice A xv.length C] 58)).cell? ⟨W.heap.size, 0, none⟩ = some (.int .i64 0) := by rw [cell_of_row _ _ _ _ _ _ HNO2.out]; rfl
      have n1 : (wr.alloc (.cells #[.int .i64 xl, .int .i64 xa, .int .i64 xb, .slice A xv.length C] 58)).cell? ⟨W.heap.size, 1, none⟩ = some (.int .i64 0) := by rw [cell_of_row _ _ _ _ _ _ HNO2.out]; rfl
      have n2 : (wr.alloc (.cells #[.int .i64 xl, .int .i64 xa, .int .i64 xb, .slice A xv.length C] 58)).cell? ⟨W.heap.size, 2, none⟩ = some (.int .i64 0) := by rw [cell_of_row _ _ _ _ _ _ HNO2.out]; rfl
      have n3 : (wr.alloc (.cells #[.int .i64 xl, .int .i64 xa, .int .i64 xb, .slice A xv.length C] 58)).cell? ⟨W.heap.size, 3, none⟩ = some (.slice none 0 0) := by rw [cell_of_row _ _ _ _ _ _ HNO2.out]; rfl
      clear hb1 hbl
      gi_wp2
      refine (roundIn_wide hRd).mono ?_
      rintro e W3 ⟨⟨rfl, hJ3⟩ | ⟨rfl, hJx3⟩, ht3⟩
      · rw [HNX.out.2] at hJ3
        have HJ3 := Lib.hid hJ3
        have HT3 := Lib.hid (HT2.out.trans ht3)
        have HNO3 := Lib.hid ((HRR.out.sub (by simp : ∀ t ∈ [58], t ∈ _)).at ht3 HNO2.out (List.mem_singleton.2 rfl))
        clear hJ3 ht3 hy hRd k0 cb n0 n1 n2 n3
        gi_wp2
        go_roundw
        case rel => exact ⟨i + 1, by go_num, hlt, HJ3.out, HT3.out, HNO3.out⟩
        case measure => simp [intOf]; omega
      · have HJ3 := Lib.hid hJx3
        have HT3 := Lib.hid (HT2.out.trans ht3)
        clear hJx3 ht3 hy hRd k0 cb n0 n1 n2 n3
        gi_wp2
        go_ret
        exact ⟨HT3.out, .inr ⟨rfl, _, HJ3.out⟩⟩
    · have HJE := Lib.hid (show J (pre ++ Y.map soleSRow) wr by have h := HJ1.out; rw [List.take_of_length_le (by have := HN.out; omega)] at h; exact h)
      gi_wp2
      go_ret
      exact ⟨HT1.out, .inl ⟨rfl, HJE.out⟩⟩
def chArr (x : Option ChV) : Array Value := match x with | some x => x.cells.toArray | none => #[.int .i64 0, .int .i64 0, .int .i64 0, .slice none 0 0, .slice none 0 0]
/-- A pair, and what it is. -/
abbrev PCh := Option RowV × Option ChV
def plainCh (z : PCh) : Option RowT × Option ChT := (z.1.map RowV.r, z.2.map ChV.c)
def encCh2 (z : PCh) : Array Value := #[.agg (rowArr z.1), .agg (chArr z.2)]
def TlPCh [ChQ] (FULL : List (Option RowT × Option ChT)) (pre : List PCh) (z : PCh) (W : World) : Prop := (∃ s, (pre ++ [z]).map plainCh ++ s = FULL) ∧ (∀ x, z.1 = some x → RowOkW W x) ∧ (∀ y, z.2 = some y → ChOk W y)
def YieldPCh [ChQ] (l : Nat) (R : Nat → Obj → Prop) (FULL : List (Option RowT × Option ChT)) (J Jx : List PCh → World → Prop) : Prop :=
  ∀ pre z W, J pre W → TlPCh FULL pre z W → YieldAt Fence.wide 0 Tryz.prog l (encCh2 z) W fun e W' => ((e = .returned (.bool true) ∧ J (pre ++ [z]) W') ∨ (e = .returned (.bool false) ∧ Jx (pre ++ [z]) W')) ∧ TurnsK (TLR l R) W W'
def soleSCh (y : ChV) : PCh := (none, some y)
theorem sole_nextCh {pre : List PCh} {Y : List ChV} {FULL : List (Option RowT × Option ChT)} {i : Nat} {x : ChV} (hp : ∃ s, (pre ++ Y.map soleSCh).map plainCh ++ s = FULL) (hx : Y[i]? = some x) : (∃ s, (pre ++ (Y.take i).map soleSCh ++ [soleSCh x]).map plainCh ++ s = FULL) ∧ pre ++ (Y.take i).map soleSCh ++ [soleSCh x] = pre ++ (Y.take (i + 1)).map soleSCh := by
  have e : pre ++ (Y.take i).map soleSCh ++ [soleSCh x] = pre ++ (Y.take (i + 1)).map soleSCh := by rw [take_oneD hx, List.map_append, List.map_singleton, List.append_assoc]
  refine ⟨?_, e⟩
  rw [e]
  obtain ⟨s, hs⟩ := hp
  refine ⟨((Y.drop (i + 1)).map soleSCh).map plainCh ++ s, ?_⟩
  rw [← hs, ← List.append_assoc, ← List.map_append, List.append_assoc, ← List.map_append, List.take_append_drop]
set_option maxRecDepth 100000 in
set_option maxHeartbeats 8000000 in
theorem aloneCh [ChQ] (l : Nat) (R : Nat → Obj → Prop) (hR : NoT [59, 58, 2, 91] R) (FULL : List (Option RowT × Option ChT)) (J Jx : List PCh → World → Prop) (HJ : BearsK (fun _ _ => False) J) (HY : YieldPCh l R FULL J Jx)
    (W : World) (aa : Option Addr) (c : Nat) (Y : List ChV) (hr : RowsK 59 5 W aa (Y.map ChV.cells)) (hv : ∀ y ∈ Y, ChOk W y) (hL : Y.length ≤ 10000) (bY : Nat) (hbY : Boxed W bY 91 (.func (.yield l) #[] #[])) (pre : List PCh) (hpre : ∃ s, (pre ++ Y.map soleSCh).map plainCh ++ s = FULL) (h0 : J pre W) :
    Calls Tryz.prog 46 #[.slice aa Y.length c, .pointer (some ⟨bY, 0, none⟩)] W fun e W' => TurnsK (TLR l R) W W' ∧ ((e = .returned (.bool true) ∧ J (pre ++ Y.map soleSCh) W') ∨ (e = .returned (.bool false) ∧ ∃ zs, Jx zs W')) := by
  refine (callsIn_wide (n := 10)).1 ?_
  have HROW := Lib.hid hr
  have HVV := Lib.hid hv
  have HJJ := Lib.hid HJ
  have HYY := Lib.hid HY
  have HPP := Lib.hid hpre
  have HRR := Lib.hid (hR.tlr l)
  have HBY := Lib.hid hbY
  have HJ0 := Lib.hid (HJ.below h0 ((Below.refl _ W).alloc (Nat.le_refl _) (.cells #[.int .i64 0, .int .i64 0, .int .i64 0, .slice none 0 0] 58)))
  have HT0 := Lib.hid (show TurnsK (TLR l R) W (W.alloc (.cells #[.int .i64 0, .int .i64 0, .int .i64 0, .slice none 0 0] 58)) from (TurnsK.refl _ _).alloc _)
  have HN0 := Lib.hid (heap_alloc_new W (.cells #[.int .i64 0, .int .i64 0, .int .i64 0, .slice none 0 0] 58))
  obtain ⟨n, hn⟩ : ∃ n, Y.length = n := ⟨_, rfl⟩
  have HN := Lib.hid hn
  rw [hn] at hL ⊢
  clear hr hv HJ HY hpre hR hbY h0 hn
  refine callsIn_of_wp Tryz.func46 rfl trivial ?_ rfl
  simp only [Tryz.ntmps46, List.size_toArray, List.length_cons, List.length_nil, Nat.reduceAdd, Nat.reduceSub, Array.replicate_succ, Array.replicate_zero, List.push_toArray, List.append_toArray, List.nil_append, List.cons_append]
  gi_wp2
  gi_loopw [9] (fun vi W' => ∃ i : Nat, vi = .int .i64 (i : Int) ∧ i ≤ n ∧ J (pre ++ (Y.take i).map soleSCh) W' ∧ TurnsK (TLR l R) W W' ∧ W'.heap[W.heap.size]? = some (.cells #[.int .i64 0, .int .i64 0, .int .i64 0, .slice none 0 0] 58 (0, 0))) (fun vi _ => n - (intOf vi).toNat)
  case atStart => exact ⟨0, rfl, Nat.zero_le _, by rw [List.take_zero, List.map_nil, List.append_nil]; exact HJ0.out, HT0.out, HN0.out⟩
  case round =>
    clear HJ0 HT0 HN0
    obtain ⟨i, rfl, hi, hj, ht, hno⟩ := hrel
    have HJ1 := Lib.hid hj
    have HT1 := Lib.hid ht
    have HNO := Lib.hid hno
    clear hj ht hno
    by_cases hlt : i < n
    · obtain ⟨x, hx⟩ : ∃ x, Y[i]? = some x := ⟨Y[i]'(by have := HN.out; omega), by simp [show i < Y.length by have := HN.out; omega]⟩
      obtain ⟨⟨xl, xa, xb, xv, yv⟩, A, C, D, E⟩ := x
      have HX := Lib.hid hx
      obtain ⟨g, off, ha, hcs⟩ := (HROW.out.turn (HRR.out.sub (by simp)) HT1.out).at (i := i) (xs := #[.int .i64 xl, .int .i64 xa, .int .i64 xb, .slice A xv.length C, .slice D yv.length E].toList) (by rw [List.getElem?_map, hx]; rfl)
      subst ha
      have HCS := Lib.hid hcs
      clear hx hcs
      have k0 := HCS.out wr (Below.refl _ _) 0 _ rfl
      have k1 := HCS.out wr (Below.refl _ _) 1 _ rfl
      have k2 := HCS.out wr (Below.refl _ _) 2 _ rfl
      have k3 := HCS.out wr (Below.refl _ _) 3 _ rfl
      have k4 := HCS.out wr (Below.refl _ _) 4 _ rfl
      rw [Nat.add_zero] at k0
      have HNX := Lib.hid (sole_nextCh HPP.out HX.out)
      have hbl := (Below.refl _ wr).alloc (Nat.le_refl _) (.cells #[.int .i64 xl, .int .i64 xa, .int .i64 xb, .slice A xv.length C, .slice D yv.length E] 59)
      have HJ2 := Lib.hid (HJJ.out.below HJ1.out hbl)
      have HT2 := Lib.hid (HT1.out.trans (.below hbl))
      have HNO2 := Lib.hid ((hbl.block _ (lt_of_blk HNO.out)).trans HNO.out)
      have HV2 := Lib.hid ((HVV.out _ (List.mem_of_getElem? HX.out)).turn (HRR.out.sub (by simp)) HT2.out)
      obtain ⟨fn, tmps, assign, body, hy, hRd⟩ := HYY.out _ (soleSCh ⟨⟨xl, xa, xb, xv, yv⟩, A, C, D, E⟩) _ HJ2.out ⟨HNX.out.1, (fun _ h => by cases h), (fun _ h => by cases h; exact HV2.out)⟩
      replace hy : (Instr.yield l #[.agg #[.int .i64 0, .int .i64 0, .int .i64 0, .slice none 0 0], .agg #[.int .i64 xl, .int .i64 xa, .int .i64 xb, .slice A xv.length C, .slice D yv.length E]]).run Tryz.prog (wr.alloc (.cells #[.int .i64 xl, .int .i64 xa, .int .i64 xb, .slice A xv.length C, .slice D yv.length E] 59)) = .ok (.round l fn tmps assign body) (wr.alloc (.cells #[.int .i64 xl, .int .i64 xa, .int .i64 xb, .slice A xv.length C, .slice D yv.length E] 59)) := hy
      have hb1 := ((HRR.out.sub (by simp)).at HT2.out HBY.out (List.mem_singleton.2 rfl) : (wr.alloc (.cells #[.int .i64 xl, .int .i64 xa, .int .i64 xb, .slice A xv.length C, .slice D yv.length E] 59)).heap[bY]? = some (.cells #[.func (.yield l) #[] #[]] 91 (0, 0)))
      have cb := cell_of_one hb1
      have n0 : (wr.alloc (.cells #[.int .i64 xl, .int .i64 xa, .int .i64 xb, .slice A xv.length C, .slice D yv.length E] 59)).cell? ⟨W.heap.size, 0, none⟩ = some (.int .i64 0) := by rw [cell_of_row _ _ _ _ _ _ HNO2.out]; rfl
      have n1 : (wr.alloc (.cells #[.int .i64 xl, .int .i64 xa, .int .i64 xb, .slice A xv.length C, .slice D yv.length E] 59)).cell? ⟨W.heap.size, 1, none⟩ = some (.int .i64 0) := by rw [cell_of_row _ _ _ _ _ _ HNO2.out]; rfl
      have n2 : (wr.alloc (.cells #[.int .i64 xl, .int .i64 xa, .int .i64 xb, .slice A xv.length C, .slice D yv.length E] 59)).cell? ⟨W.heap.size, 2, none⟩ = some (.int .i64 0) := by rw [cell_of_row _ _ _ _ _ _ HNO2.out]; rfl
      have n3 : (wr.alloc (.cells #[.int .i64 xl, .int .i64 xa, .int .i64 xb, .slice A xv.length C, .slice D yv.length E] 59)).cell? ⟨W.heap.size, 3, none⟩ = some (.slice none 0 0) := by rw [cell_of_row _ _ _ _ _ _ HNO2.out]; rfl
      clear hb1 hbl
      gi_wp2
      refine (roundIn_wide hRd).mono ?_
      rintro e W3 ⟨⟨rfl, hJ3⟩ | ⟨rfl, hJx3⟩, ht3⟩
      · rw [HNX.out.2] at hJ3
        have HJ3 := Lib.hid hJ3
        have HT3 := Lib.hid (HT2.out.trans ht3)
        have HNO3 := Lib.hid ((HRR.out.sub (by simp : ∀ t ∈ [58], t ∈ _)).at ht3 HNO2.out (List.mem_singleton.2 rfl))
        clear hJ3 ht3 hy hRd k0 cb n0 n1 n2 n3
        gi_wp2
        go_roundw
        case rel => exact ⟨i + 1, by go_num, hlt, HJ3.out, HT3.out, HNO3.out⟩
        case measure => simp [intOf]; omega
      · have HJ3 := Lib.hid hJx3
        have HT3 := Lib.hid (HT2.out.trans ht3)
        clear hJx3 ht3 hy hRd k0 cb n0 n1 n2 n3
        gi_wp2
        go_ret
        exact ⟨HT3.out, .inr ⟨rfl, _, HJ3.out⟩⟩
    · have HJE := Lib.hid (show J (pre ++ Y.map soleSCh) wr by have h := HJ1.out; rw [List.take_of_length_le (by have := HN.out; omega)] at h; exact h)
      gi_wp2
      go_ret
      exact ⟨HT1.out, .inl ⟨rfl, HJE.out⟩⟩
end Go.Proofs.YtellifcjamedkaaGreat
