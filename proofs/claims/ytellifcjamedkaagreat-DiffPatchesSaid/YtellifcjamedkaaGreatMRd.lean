/- The document's diff of two books: the contract. The document's value of a key in rows: the contract. What values of a change may be: the contract. The law's Plain: the contract. -/
import Derived.Test.YtellifcjamedkaaGreatMRa
import Derived.Test.YtellifcjamedkaaGreatMCl
import Derived.BigQuiet
namespace Go.Proofs.YtellifcjamedkaaGreat
open Go.RowKit Base Base2
/-- A change, and where its values lie. -/
structure ChV where
  c : ChT
  a1 : Option Addr
  c1 : Nat
  a2 : Option Addr
  c2 : Nat
def ChV.cells (x : ChV) : List Value := [.int .i64 x.c.l, .int .i64 x.c.a, .int .i64 x.c.b, .slice x.a1 x.c.was.length x.c1, .slice x.a2 x.c.now.length x.c2]
def flatK (l : List ChV) : List Value := (l.map ChV.cells).flatten
theorem flatK_app (l m : List ChV) : flatK (l ++ m) = flatK l ++ flatK m := by simp [flatK]
theorem flatK_one (x : ChV) : flatK [x] = x.cells := by simp [flatK]
theorem one_chV (x : ChV) : ∀ u ∈ x.cells, u.oneCell' = true := by
  intro u hu
  simp only [ChV.cells, List.mem_cons, List.not_mem_nil, or_false] at hu
  rcases hu with rfl | rfl | rfl | rfl | rfl <;> rfl
theorem infoCh : (Tryz.prog.info? 43).map (fun i => (i.zero, i.size, i.bytes)) = some (some (.agg #[.int .i64 0, .int .i64 0, .int .i64 0, .slice none 0 0, .slice none 0 0]), 5, 72) := by kernel_rfl
/-- Changes that are being made. -/
structure ChS (B : Nat) (W0 : World) (o : List ChV) (v : Value) (W : World) : Prop where
  row : W.ownsRow B 43 5 v o.length (flatK o)
  val : ∀ x ∈ o, ValAt W x.a1 x.c.was ∧ ValAt W x.a2 x.c.now
  lo : Below B W0 W
  sz : B ≤ W.heap.size
theorem ChS.nil {B : Nat} {W0 : World} (h : B ≤ W0.heap.size) : ChS B W0 [] (.slice none 0 0) W0 := ⟨⟨by simp [flatK], .inl ⟨rfl, rfl⟩⟩, (fun x hx => by cases hx), Below.refl _ _, h⟩
theorem ChS.below {B : Nat} {W0 W W' : World} {o : List ChV} {v : Value} (h : ChS B W0 o v W) (hb : Below W.heap.size W W') : ChS B W0 o v W' :=
  ⟨own_below' h.row hb, fun x hx => ⟨(h.val x hx).1.below hb, (h.val x hx).2.below hb⟩, h.lo.trans (hb.mono h.sz), Nat.le_trans h.sz hb.size⟩
theorem ChS.app {B : Nat} {W0 W w2 : World} {o : List ChV} {v v' : Value} {x : ChV} {ob : Obj} (h : ChS B W0 o v W) (hx : ValAt W x.a1 x.c.was ∧ ValAt W x.a2 x.c.now) (hr : w2.ownsRow B 43 5 v' (o.length + 1) (flatK o ++ x.cells)) (hg : (W.alloc ob).grownBy w2 v.ownBlock) : ChS B W0 (o ++ [x]) v' w2 := by
  have hg2 := World_grown_alloc hg
  have hk : ∀ (k : Nat) (cs : Array Value), W.heap[k]? = some (.cells cs 2 (0, 0)) → w2.heap[k]? = some (.cells cs 2 (0, 0)) := fun k cs hk => (hg2.block k (lt_of_blk hk) (own_ne' h.row hk (by decide))).trans hk
  refine ⟨by rw [flatK_app, flatK_one, List.length_append]; exact hr, fun y hy => ?_, h.lo.grown hg2 h.sz (own_block_ge h.row), Nat.le_trans h.sz hg2.size⟩
  rcases List.mem_append.1 hy with hy | hy
  · exact ⟨(h.val y hy).1.keep hk, (h.val y hy).2.keep hk⟩
  · rw [List.mem_singleton.1 hy]; exact ⟨hx.1.keep hk, hx.2.keep hk⟩
theorem flatW_len : ∀ l : List RowV, (flatW l).length = l.length * 4
  | [] => rfl
  | x :: l => by
    show (x.cells ++ flatW l).length = _
    rw [List.length_append, flatW_len l, List.length_cons, Nat.add_mul]; simp [RowV.cells]; omega
theorem flatW_at : ∀ (l : List RowV) (i : Nat) (x : RowV), l[i]? = some x → (flatW l)[i * 4]? = some (.int .i64 x.r.l) ∧ (flatW l)[i * 4 + 1]? = some (.int .i64 x.r.a) ∧ (flatW l)[i * 4 + 2]? = some (.int .i64 x.r.b) ∧ (flatW l)[i * 4 + 3]? = some (.slice x.a x.r.v.length x.c)
  | [], i, x, h => by simp at h
  | y :: l, 0, x, h => by
    obtain rfl : y = x := by simpa using h
    exact ⟨rfl, rfl, rfl, rfl⟩
  | y :: l, i + 1, x, h => by
    have ih := flatW_at l i x (by simpa using h)
    have e : flatW (y :: l) = y.cells ++ flatW l := rfl
    have hl : y.cells.length = 4 := rfl
    rw [e, List.getElem?_append_right (by omega), List.getElem?_append_right (by omega), List.getElem?_append_right (by omega), List.getElem?_append_right (by omega), hl, show (i + 1) * 4 - 4 = i * 4 by omega, show (i + 1) * 4 + 1 - 4 = i * 4 + 1 by omega, show (i + 1) * 4 + 2 - 4 = i * 4 + 2 by omega, show (i + 1) * 4 + 3 - 4 = i * 4 + 3 by omega]
    exact ih
theorem RwS.at {B : Nat} {W0 W : World} {o : List RowV} {v : Value} {i g n cap : Nat} {x : RowV} (h : RwS B W0 o v W) (hx : o[i]? = some x) (hv : v = .slice (some ⟨g, 0, none⟩) n cap) : W.cell? ⟨g, i * 4, none⟩ = some (.int .i64 x.r.l) ∧ W.cell? ⟨g, i * 4 + 1, none⟩ = some (.int .i64 x.r.a) ∧ W.cell? ⟨g, i * 4 + 2, none⟩ = some (.int .i64 x.r.b) ∧ W.cell? ⟨g, i * 4 + 3, none⟩ = some (.slice x.a x.r.v.length x.c) := by
  have ho := h.row
  obtain ⟨a, c, hf⟩ : ∃ a c, v = .slice a o.length c := by
    rcases ho.2 with ⟨rfl, hn⟩ | ⟨g', cap', cur, rfl, _⟩
    · exact ⟨none, 0, by rw [hn]⟩
    · exact ⟨_, _, rfl⟩
  rw [hv] at hf
  simp only [Value.slice.injEq] at hf
  obtain ⟨_, rfl, _⟩ := hf
  rw [hv] at ho
  have hi := (List.getElem?_eq_some_iff.1 hx).1
  have hc : ∀ m u, (flatW o)[m]? = some u → W.cell? ⟨g, m, none⟩ = some u := fun m u hu => by
    have hm := (List.getElem?_eq_some_iff.1 hu).1
    rw [flatW_len] at hm
    rw [ho.cellAt m hm]; exact hu
  obtain ⟨e0, e1, e2, e3⟩ := flatW_at o i x hx
  exact ⟨hc _ _ e0, hc _ _ e1, hc _ _ e2, hc _ _ e3⟩
theorem drop_at {α : Type} {l : List α} {i : Nat} {x : α} (h : l[i]? = some x) : l.drop i = x :: l.drop (i + 1) := by
  obtain ⟨hlt, he⟩ := List.getElem?_eq_some_iff.1 h
  rw [← he, ← List.drop_eq_getElem_cons hlt]
theorem yields_atD {P : Program} {ops : Array Oper} {S : World → Prop} {op : Oper} {a : Act} (hw : Region.wanted op (yielded ops a.tmps) = true) (ty : TypeId) (x : Operand) (ho : op.op = .load ty x) (p v : Value) (hx : a.eval x = p) (hS : ∀ w, S w → (Instr.loadAt ty p).run P w = .ok v w) : YieldsIf P ops S op v a :=
  .inl ⟨hw, fun w hw' => by
    unfold execOp
    simp only [ho, hx, Sem.run_bind, Sem.run_pure, hS w hw', Result.andThen_ok]⟩
theorem wanted_noneD {ops : Array Oper} {o : Oper} {a : Act} (hgd : o.guard = none) : Region.wanted o (yielded ops a.tmps) = true := by simp [Region.wanted, hgd]
theorem quietD {P : Program} {f : FuncId} {args : Array Value} {v : Value} (h : ∀ W, Calls P f args W fun e w' => e = .returned v ∧ W = w') (w : World) (n : Nat) : Calls P f args (w.drewN n) fun e w'' => e = .returned v ∧ ∃ m, w'' = w.drewN m :=
  (h _).mono fun _ _ ⟨he, hm⟩ => ⟨he, n, hm.symm⟩
theorem quietS {P : Program} {f : FuncId} {args : Array Value} {v : Value} {w : World} (h : ∀ n, Calls P f args (w.drewN n) fun e w' => e = .returned v ∧ ∃ k, w' = (w.drewN n).drewN k) (n : Nat) : Calls P f args (w.drewN n) fun e w'' => e = .returned v ∧ ∃ m, w'' = w.drewN m :=
  (h n).mono fun _ _ ⟨he, k, hm⟩ => ⟨he, n + k, by rw [hm, World.drewN_drewN]⟩
theorem rowsD_len {b : BookT} (h : BookOk 2000 b) : 0 < (rowsD b).length ∧ (rowsD b).length ≤ 8001 := by
  have h1 := h.hs.1
  have h2 := h.ss.1
  have h3 := h.os.1
  have h4 := h.rs.1
  unfold rowsD
  simp only [List.length_append, List.length_map, List.length_cons, List.length_nil]
  omega
end Go.Proofs.YtellifcjamedkaaGreat
namespace Go.Proofs.YtellifcjamedkaaGreat
open Go.RowKit Base Base2
theorem value_at {ox : List RowV} {c : ChT} {i : Nat} {x : RowV} (h : ∀ (j : Nat) (r : RowV), j < i → ox[j]? = some r → isKey c r.r = false) (hx : ox[i]? = some x) (hk : isKey c x.r = true) : valueT (ox.map RowV.r) c = x.r.v := by
  have hs : ox = ox.take i ++ x :: ox.drop (i + 1) := by rw [← drop_at hx, List.take_append_drop]
  have hf : (ox.map RowV.r).find? (isKey c) = some x.r := by
    rw [hs, List.map_append, List.find?_append, List.find?_eq_none.2 ?_]
    · simp [hk]
    · intro r hr
      obtain ⟨y, hy, rfl⟩ := List.mem_map.1 hr
      obtain ⟨j, hj⟩ := List.getElem?_of_mem hy
      have hji : j < i := by
        have := (List.getElem?_eq_some_iff.1 hj).1
        rw [List.length_take] at this
        omega
      rw [List.getElem?_take_of_lt hji] at hj
      simp [h j y hji hj]
  unfold valueT
  rw [hf]
theorem value_end {ox : List RowV} {c : ChT} (h : ∀ (j : Nat) (r : RowV), j < ox.length → ox[j]? = some r → isKey c r.r = false) : valueT (ox.map RowV.r) c = [] := by
  have hf : (ox.map RowV.r).find? (isKey c) = none := by
    refine List.find?_eq_none.2 fun r hr => ?_
    obtain ⟨y, hy, rfl⟩ := List.mem_map.1 hr
    obtain ⟨j, hj⟩ := List.getElem?_of_mem hy
    simp [h j y (List.getElem?_eq_some_iff.1 hj).1 hj]
  unfold valueT
  rw [hf]
theorem keys_one {ox : List RowV} {c : ChT} {i : Nat} {x : RowV} (h : ∀ (j : Nat) (r : RowV), j < i → ox[j]? = some r → isKey c r.r = false) (hx : ox[i]? = some x) (hk : isKey c x.r = false) : ∀ (j : Nat) (r : RowV), j < i + 1 → ox[j]? = some r → isKey c r.r = false := by
  intro j r hj hr
  rcases Nat.lt_succ_iff_lt_or_eq.1 hj with hj | rfl
  · exact h j r hj hr
  · rw [hx] at hr
    obtain rfl := Option.some.inj hr
    exact hk
set_option maxRecDepth 100000 in
set_option maxHeartbeats 8000000 in
theorem rvalue34 (gx nx px : Nat) (ox : List RowV) (l a b : Int) (p q : Value) (was now : List Int) (w : World) (hn : ox.length = nx) (h8 : nx ≤ 8001) (hc : ∀ W, Below w.heap.size w W → ∀ (i : Nat) (x : RowV), ox[i]? = some x → W.cell? ⟨gx, i * 4, none⟩ = some (.int .i64 x.r.l) ∧ W.cell? ⟨gx, i * 4 + 1, none⟩ = some (.int .i64 x.r.a) ∧ W.cell? ⟨gx, i * 4 + 2, none⟩ = some (.int .i64 x.r.b) ∧ W.cell? ⟨gx, i * 4 + 3, none⟩ = some (.slice x.a x.r.v.length x.c)) :
    Calls Tryz.prog 34 #[.slice (some ⟨gx, 0, none⟩) nx px, .agg #[.int .i64 l, .int .i64 a, .int .i64 b, p, q]] w fun e w' => ∃ A v c, e = .returned (.slice A (List.length v) c) ∧ v = valueT (ox.map RowV.r) ⟨l, a, b, was, now⟩ ∧ (v = [] ∨ ∃ r ∈ ox, A = r.a ∧ v = r.r.v) ∧ Below w.heap.size w w' := by
  obtain ⟨W0, hW0⟩ : ∃ W0, W0 = w.alloc (.cells #[.int .i64 l, .int .i64 a, .int .i64 b, p, q] 43) := ⟨_, rfl⟩
  have hA : Below w.heap.size w W0 := by rw [hW0]; exact (Below.refl _ w).alloc (Nat.le_refl _) _
  have hsz : W0.heap.size = w.heap.size + 1 := by rw [hW0]; simp
  have hg : W0.heap[w.heap.size]? = some (.cells #[.int .i64 l, .int .i64 a, .int .i64 b, p, q] 43 (0, 0)) := by rw [hW0]; exact heap_alloc_new w _
  have HLO := Lib.hid (fun W (h : Below W0.heap.size W0 W) => hA.trans (h.mono (by omega : w.heap.size ≤ W0.heap.size)))
  have HC := Lib.hid (fun W (h : Below W0.heap.size W0 W) => hc W (HLO.out W h))
  have HB := Lib.hid (fun W (h : Below W0.heap.size W0 W) => (h.block w.heap.size (by omega)).trans hg)
  have HNX := Lib.hid (show ∀ i, i < nx → ∃ x, ox[i]? = some x from fun i h => ⟨ox[i]'(by omega), by simp [show i < ox.length by omega]⟩)
  have HN := Lib.hid hn
  have HS0 := Lib.hid (Below.refl W0.heap.size W0)
  go_enter Tryz.func34, Tryz.ntmps34
  go_wp2
  rw [← hW0]
  clear hA hsz hg hc hn hW0
  go_loopw [5] (fun vi W => ∃ i : Nat, vi = .int .i64 (i : Int) ∧ i ≤ nx ∧ (∀ (j : Nat) (r : RowV), j < i → ox[j]? = some r → isKey ⟨l, a, b, was, now⟩ r.r = false) ∧ Below W0.heap.size W0 W) (fun vi _ => nx - (intOf vi).toNat)
  case atStart => exact ⟨0, rfl, Nat.zero_le _, fun j r hj => absurd hj (Nat.not_lt_zero _), HS0.out⟩
  case round =>
    clear HS0
    obtain ⟨i, rfl, hi, hk, hs⟩ := hrel
    have HK := Lib.hid hk
    have HS := Lib.hid hs
    clear hk hs
    by_cases hlx : i < nx
    · obtain ⟨⟨⟨xl, xa, xb, xv⟩, xA, xC⟩, hx⟩ := HNX.out i hlx
      have HX := Lib.hid hx
      obtain ⟨k0, k1, k2, k3⟩ := HC.out _ HS.out i _ hx
      clear hx
      dsimp only at k0 k1 k2 k3
      have c0 := cell_of_row _ _ 0 _ _ (0, 0) (HB.out _ HS.out)
      have c1 := cell_of_row _ _ 1 _ _ (0, 0) (HB.out _ HS.out)
      have c2 := cell_of_row _ _ 2 _ _ (0, 0) (HB.out _ HS.out)
      have KF := Lib.hid (fun (hh : isKey ⟨l, a, b, was, now⟩ (⟨xl, xa, xb, xv⟩ : RowT) = false) => keys_one HK.out HX.out hh)
      have KT := Lib.hid (fun (hh : isKey ⟨l, a, b, was, now⟩ (⟨xl, xa, xb, xv⟩ : RowT) = true) => value_at HK.out HX.out hh)
      have HIK := Lib.hid (show isKey ⟨l, a, b, was, now⟩ (⟨xl, xa, xb, xv⟩ : RowT) = ((xl == l) && (xa == a) && (xb == b)) by simp [isKey])
      have HMX := Lib.hid (List.mem_of_getElem? HX.out)
      clear HX
      cases h1 : (xl == l) with
      | false =>
        have H1 := Lib.hid h1
        go_upto_region 4 with (fail)
        go_quiet (fail)
        have HS2 := Lib.hid (HS.out.trans ((below_drews nq).mono HS.out.size))
        go_wp2
        go_roundw
        case rel => exact ⟨i + 1, by go_num, by omega, KF.out (by rw [HIK.out]; rw [H1.out]; rfl), HS2.out⟩
        case measure => simp [intOf]; omega
      | true =>
        have H1 := Lib.hid h1
        cases h2 : (xa == a) with
        | false =>
          have H2 := Lib.hid h2
          go_upto_region 4 with (fail)
          go_quiet (fail)
          have HS2 := Lib.hid (HS.out.trans ((below_drews nq).mono HS.out.size))
          go_wp2
          go_roundw
          case rel => exact ⟨i + 1, by go_num, by omega, KF.out (by rw [HIK.out]; rw [H1.out, H2.out]; rfl), HS2.out⟩
          case measure => simp [intOf]; omega
        | true =>
          have H2 := Lib.hid h2
          cases h3 : (xb == b) with
          | false =>
            have H3 := Lib.hid h3
            go_upto_region 4 with (fail)
            go_quiet (fail)
            have HS2 := Lib.hid (HS.out.trans ((below_drews nq).mono HS.out.size))
            go_wp2
            go_roundw
            case rel => exact ⟨i + 1, by go_num, by omega, KF.out (by rw [HIK.out]; rw [H1.out, H2.out, H3.out]; rfl), HS2.out⟩
            case measure => simp [intOf]; omega
          | true =>
            have H3 := Lib.hid h3
            go_upto_region 4 with (fail)
            go_quiet (fail)
            have HS2 := Lib.hid (HS.out.trans ((below_drews nq).mono HS.out.size))
            go_wp2
            go_ret
            exact ⟨xA, xv, ⟨xC, rfl⟩, (KT.out (by rw [HIK.out, H1.out, H2.out, H3.out]; rfl)).symm, .inr ⟨_, HMX.out, rfl, rfl⟩, HLO.out _ HS2.out⟩
    · have HE := Lib.hid (value_end (fun j r hj => HK.out j r (by have := HN.out; omega)))
      go_wp2
      go_ret
      exact ⟨none, [], 0, rfl, HE.out.symm, .inl rfl, HLO.out _ HS.out⟩
end Go.Proofs.YtellifcjamedkaaGreat
namespace Go.Proofs.YtellifcjamedkaaGreat
open Go.RowKit Base Base2
set_option maxRecDepth 100000 in
set_option maxHeartbeats 8000000 in
theorem rvalues33 (l : Int) (v : List Int) (a : Option Addr) (c : Nat) (w : World) (h1 : 1 ≤ l) (h5 : l ≤ 5) (hv : I64s w a v) : Calls Tryz.prog 31 #[.int .i64 l, .slice a v.length c] w fun e w' => e = .returned (.bool (valuesT l v)) ∧ Below w.heap.size w w' := by
  have hA : Below w.heap.size w (w.alloc (.cells #[.int .i64 0, .int .i64 3, .int .i64 1, .int .i64 5, .int .i64 1, .int .i64 1] 3)) := (Below.refl _ w).alloc (Nat.le_refl _) _
  have HA := Lib.hid hA
  have HV := Lib.hid (hv.below hA)
  obtain ⟨n, hn⟩ : ∃ n, v.length = n := ⟨_, rfl⟩
  have HN := Lib.hid hn
  have hl : l = 1 ∨ l = 2 ∨ l = 3 ∨ l = 4 ∨ l = 5 := by omega
  have HG := Lib.hid (heap_alloc_new w (.cells #[.int .i64 0, .int .i64 3, .int .i64 1, .int .i64 5, .int .i64 1, .int .i64 1] 3))
  rw [hn]
  clear hA hv hn h1 h5
  by_cases hz : n = 0
  · subst hz
    have hv0 : v = [] := List.eq_nil_of_length_eq_zero HN.out
    rcases hl with rfl | rfl | rfl | rfl | rfl <;>
      (go_enter Tryz.func31, Tryz.ntmps31
       go_wp2
       go_ret
       exact ⟨by rw [hv0]; rfl, HA.out⟩)
  · have hz1 : ((n : Int) == 0) = false := by simp; omega
    have hv0 : v ≠ [] := fun e => hz (by rw [← HN.out, e]; rfl)
    have HV0 := Lib.hid hv0
    clear hv0
    rcases hl with rfl | rfl | rfl | rfl | rfl
    · have hc := cell_of_row _ _ 1 _ _ (0, 0) HG.out
      have HE := Lib.hid (show valuesT 1 v = ((v.length == 3) && ((1 : Int) != 3 || key 2 v == 0 || key 2 v == 1)) by unfold valuesT; rw [if_neg HV0.out]; rfl)
      by_cases hq : n = 3
      · have HQ := Lib.hid (show v.length = 3 by rw [HN.out, hq])
        subst hq
        go_enter Tryz.func31, Tryz.ntmps31
        go_wp2
        go_ret
        exact ⟨by rw [HE.out, HQ.out]; rfl, HA.out⟩
      · have hq1 : ((n : Int) != 3) = true := by simp; omega
        have HQ := Lib.hid (show (v.length == 3) = false by rw [HN.out]; simpa using hq)
        go_enter Tryz.func31, Tryz.ntmps31
        go_wp2
        go_ret
        exact ⟨by rw [HE.out, HQ.out]; rfl, HA.out⟩
    · have hc := cell_of_row _ _ 2 _ _ (0, 0) HG.out
      have HE := Lib.hid (show valuesT 2 v = ((v.length == 1) && ((2 : Int) != 3 || key 2 v == 0 || key 2 v == 1)) by unfold valuesT; rw [if_neg HV0.out]; rfl)
      by_cases hq : n = 1
      · have HQ := Lib.hid (show v.length = 1 by rw [HN.out, hq])
        subst hq
        go_enter Tryz.func31, Tryz.ntmps31
        go_wp2
        go_ret
        exact ⟨by rw [HE.out, HQ.out]; rfl, HA.out⟩
      · have hq1 : ((n : Int) != 1) = true := by simp; omega
        have HQ := Lib.hid (show (v.length == 1) = false by rw [HN.out]; simpa using hq)
        go_enter Tryz.func31, Tryz.ntmps31
        go_wp2
        go_ret
        exact ⟨by rw [HE.out, HQ.out]; rfl, HA.out⟩
    · have hc := cell_of_row _ _ 3 _ _ (0, 0) HG.out
      have HE := Lib.hid (show valuesT 3 v = ((v.length == 5) && ((3 : Int) != 3 || key 2 v == 0 || key 2 v == 1)) by unfold valuesT; rw [if_neg HV0.out]; rfl)
      by_cases hq : n = 5
      · have HQ := Lib.hid (show v.length = 5 by rw [HN.out, hq])
        subst hq
        obtain ⟨b, off, rfl, _, hcs⟩ := HV.out.resolve_left HV0.out
        obtain ⟨z, hz2⟩ : ∃ z, v[2]? = some z := ⟨v[2]'(by rw [HQ.out]; omega), by simp [HQ.out]⟩
        have k2 := hcs 2 z hz2
        have HKY := Lib.hid (show key 2 v = z by unfold key; simp [hz2])
        clear hcs hz2
        cases h0 : (z == 0) with
        | true =>
          have H0 := Lib.hid h0
          go_enter Tryz.func31, Tryz.ntmps31
          go_wp2
          go_ret
          exact ⟨by rw [HE.out, HQ.out, HKY.out, H0.out]; rfl, HA.out⟩
        | false =>
          have H0 := Lib.hid h0
          cases h1 : (z == 1) with
          | true =>
            have H1 := Lib.hid h1
            go_enter Tryz.func31, Tryz.ntmps31
            go_wp2
            go_ret
            exact ⟨by rw [HE.out, HQ.out, HKY.out, H0.out, H1.out]; rfl, HA.out⟩
          | false =>
            have H1 := Lib.hid h1
            go_enter Tryz.func31, Tryz.ntmps31
            go_wp2
            go_ret
            exact ⟨by rw [HE.out, HQ.out, HKY.out, H0.out, H1.out]; rfl, HA.out⟩
      · have hq1 : ((n : Int) != 5) = true := by simp; omega
        have HQ := Lib.hid (show (v.length == 5) = false by rw [HN.out]; simpa using hq)
        go_enter Tryz.func31, Tryz.ntmps31
        go_wp2
        go_ret
        exact ⟨by rw [HE.out, HQ.out]; rfl, HA.out⟩
    · have hc := cell_of_row _ _ 4 _ _ (0, 0) HG.out
      have HE := Lib.hid (show valuesT 4 v = ((v.length == 1) && ((4 : Int) != 3 || key 2 v == 0 || key 2 v == 1)) by unfold valuesT; rw [if_neg HV0.out]; rfl)
      by_cases hq : n = 1
      · have HQ := Lib.hid (show v.length = 1 by rw [HN.out, hq])
        subst hq
        go_enter Tryz.func31, Tryz.ntmps31
        go_wp2
        go_ret
        exact ⟨by rw [HE.out, HQ.out]; rfl, HA.out⟩
      · have hq1 : ((n : Int) != 1) = true := by simp; omega
        have HQ := Lib.hid (show (v.length == 1) = false by rw [HN.out]; simpa using hq)
        go_enter Tryz.func31, Tryz.ntmps31
        go_wp2
        go_ret
        exact ⟨by rw [HE.out, HQ.out]; rfl, HA.out⟩
    · have hc := cell_of_row _ _ 5 _ _ (0, 0) HG.out
      have HE := Lib.hid (show valuesT 5 v = ((v.length == 1) && ((5 : Int) != 3 || key 2 v == 0 || key 2 v == 1)) by unfold valuesT; rw [if_neg HV0.out]; rfl)
      by_cases hq : n = 1
      · have HQ := Lib.hid (show v.length = 1 by rw [HN.out, hq])
        subst hq
        go_enter Tryz.func31, Tryz.ntmps31
        go_wp2
        go_ret
        exact ⟨by rw [HE.out, HQ.out]; rfl, HA.out⟩
      · have hq1 : ((n : Int) != 1) = true := by simp; omega
        have HQ := Lib.hid (show (v.length == 1) = false by rw [HN.out]; simpa using hq)
        go_enter Tryz.func31, Tryz.ntmps31
        go_wp2
        go_ret
        exact ⟨by rw [HE.out, HQ.out]; rfl, HA.out⟩
end Go.Proofs.YtellifcjamedkaaGreat
namespace Go.Proofs.YtellifcjamedkaaGreat
open Go.RowKit Base Base2
open List renaming getElem_toArray → lgT, getElem_cons_zero → lgZ, getElem_cons_succ → lgS, setIfInBounds_toArray → lsT, set_cons_zero → lsZ, set_cons_succ → lsS
theorem take_oneD {α : Type} {l : List α} {i : Nat} {x : α} (h : l[i]? = some x) : l.take (i + 1) = l.take i ++ [x] := by rw [List.take_add_one, h]; rfl
/-- Changes that lie in a row of structs. -/
def ChAt (W : World) (a : Option Addr) (l : List ChV) : Prop := ∀ (i : Nat) (x : ChV), l[i]? = some x → ∃ g o, a = some ⟨g, o, none⟩ ∧ W.cell? ⟨g, o + i * 5, none⟩ = some (.int .i64 x.c.l) ∧ W.cell? ⟨g, o + i * 5 + 1, none⟩ = some (.int .i64 x.c.a) ∧ W.cell? ⟨g, o + i * 5 + 2, none⟩ = some (.int .i64 x.c.b) ∧ W.cell? ⟨g, o + i * 5 + 3, none⟩ = some (.slice x.a1 x.c.was.length x.c1) ∧ W.cell? ⟨g, o + i * 5 + 4, none⟩ = some (.slice x.a2 x.c.now.length x.c2)
set_option maxRecDepth 100000 in
set_option maxHeartbeats 8000000 in
theorem plain11 (a : Option Addr) (p : Nat) (l : List ChV) (w : World) (h8 : l.length ≤ 100000) (hc : ∀ W, Below w.heap.size w W → ChAt W a l) (hv : ∀ x ∈ l, ValAt w x.a1 x.c.was ∧ ValAt w x.a2 x.c.now) :
    Calls Tryz.prog 9 #[.slice a l.length p] w fun e w' => ∃ vo, e = .returned vo ∧ ChS w.heap.size w l vo w' := by
  obtain ⟨i0, hi0, hz0, hz1, hz2⟩ := info_parts infoCh
  have HC := Lib.hid hc
  have HV := Lib.hid hv
  have HS0 := Lib.hid (ChS.nil (W0 := w) (Nat.le_refl w.heap.size))
  obtain ⟨n, hn⟩ : ∃ n, l.length = n := ⟨_, rfl⟩
  have HN := Lib.hid hn
  have HNX := Lib.hid (show ∀ i, i < n → ∃ x, l[i]? = some x from fun i h => ⟨l[i]'(by omega), by simp [show i < l.length by omega]⟩)
  rw [hn] at h8 ⊢
  clear hc hv hn
  go_enter Tryz.func9, Tryz.ntmps9
  go_wp2
  go_loopw [3, 4] (fun vo vi W => ∃ i : Nat, vi = .int .i64 (i : Int) ∧ i ≤ n ∧ ChS w.heap.size w (l.take i) vo W) (fun _ vi _ => n - (intOf vi).toNat)
  case atStart => exact ⟨0, rfl, Nat.zero_le _, HS0.out⟩
  case round =>
    clear HS0
    obtain ⟨i, rfl, hi, hs⟩ := hrel
    have HS := Lib.hid hs
    clear hs
    by_cases hlx : i < n
    · obtain ⟨⟨⟨xl, xa, xb, xv, yv⟩, A1, C1, A2, C2⟩, hx⟩ := HNX.out i hlx
      obtain ⟨g, o, ha, _⟩ := HC.out w (Below.refl _ _) i _ hx
      have HCC := Lib.hid (fun W (h : Below w.heap.size w W) => show W.cell? ⟨g, o + i * 5, none⟩ = some (.int .i64 xl) ∧ W.cell? ⟨g, o + i * 5 + 1, none⟩ = some (.int .i64 xa) ∧ W.cell? ⟨g, o + i * 5 + 2, none⟩ = some (.int .i64 xb) ∧ W.cell? ⟨g, o + i * 5 + 3, none⟩ = some (.slice A1 xv.length C1) ∧ W.cell? ⟨g, o + i * 5 + 4, none⟩ = some (.slice A2 yv.length C2) by
        obtain ⟨g', o', ha', h'⟩ := HC.out W h i _ hx
        rw [ha] at ha'
        obtain ⟨rfl, rfl⟩ : g = g' ∧ o = o' := by simpa using ha'
        exact h')
      have HVX := Lib.hid (HV.out _ (List.mem_of_getElem? hx))
      have HTK := Lib.hid (take_oneD hx)
      have HLN := Lib.hid (show (l.take i).length = i by rw [List.length_take, HN.out]; omega)
      subst ha
      clear hx
      go_upto_region 5 with (fail)
      refine at_world (Φ := fun W => ChS w.heap.size w (l.take i) u3 W) HS.out ?_
      clear HS
      rintro W9 hs9
      have HSD := Lib.hid (show ChS w.heap.size w (l.take i) u3 W9.drew from hs9.below ((Below.refl _ _).drew))
      clear hs9
      have b1 : (l.take i).length + 1 ≤ maxLen := by rw [HLN.out]; unfold maxLen; omega
      have b2 : ((l.take i).length + 1) * 72 ≤ 140737488355328 := by rw [HLN.out]; omega
      have HVA := Lib.hid (show ValAt W9.drew A1 xv ∧ ValAt W9.drew A2 yv from ⟨HVX.out.1.below HSD.out.lo, HVX.out.2.below HSD.out.lo⟩)
      refine wp_region_held_drew (S := fun W => Below w.heap.size w W) (by kernel_rfl) (HSD.out.lo) (fun hS => ?_)
      refine wpAnyH_take (i := 0) (v := u3) rfl (by kernel_rfl) (by kernel_rfl) (by kernel_rfl) (fun _ _ _ h => h) (Or.inl ⟨by simp [Region.wanted], fun W _ => by go_simp⟩) hS ?_
      simp only [lgT, lgZ, Act.put, lsT, lsZ, lsS]
      refine wpAnyH_take (i := 1) (v := .slice (some ⟨g, o, none⟩) n p) rfl (by kernel_rfl) (by kernel_rfl) (by kernel_rfl) (fun _ _ _ h => h) (Or.inl ⟨by simp [Region.wanted], fun W _ => by go_simp⟩) hS ?_
      simp only [lgT, lgZ, lgS, Act.put, lsT, lsZ, lsS]
      refine wpAnyH_take (i := 2) (v := .int .i64 (i : Int)) rfl (by kernel_rfl) (by kernel_rfl) (by kernel_rfl) (fun _ _ _ h => h) (Or.inl ⟨by simp [Region.wanted], fun W _ => by go_simp⟩) hS ?_
      simp only [lgT, lgZ, lgS, Act.put, lsT, lsZ, lsS]
      refine wpAnyH_take (i := 3) (v := .pointer (some ⟨g, o + i * 5, none⟩)) rfl (by kernel_rfl) (by kernel_rfl) (by kernel_rfl) (fun _ _ _ h => h) (Or.inl ⟨by simp [Region.wanted], fun W _ => by go_simp⟩) hS ?_
      simp only [lgT, lgZ, lgS, Act.put, lsT, lsZ, lsS]
      refine wpAnyH_take (i := 4) (v := .pointer (some ⟨g, o + i * 5, none⟩)) rfl (by kernel_rfl) (by kernel_rfl) (by kernel_rfl) (fun _ _ _ h => h) (Or.inl ⟨by simp [Region.wanted], fun W _ => by go_simp⟩) hS ?_
      simp only [lgT, lgZ, lgS, Act.put, lsT, lsZ, lsS]
      refine wpAnyH_take (i := 5) (v := .int .i64 xl) rfl (by kernel_rfl) (by kernel_rfl) (by kernel_rfl) (fun _ _ _ h => h) (Or.inl ⟨by simp [Region.wanted], fun W hW => by have kc := (HCC.out W hW).1; go_simp⟩) hS ?_
      simp only [lgT, lgZ, lgS, Act.put, lsT, lsZ, lsS]
      refine wpAnyH_take (i := 6) (v := .slice (some ⟨g, o, none⟩) n p) rfl (by kernel_rfl) (by kernel_rfl) (by kernel_rfl) (fun _ _ _ h => h) (Or.inl ⟨by simp [Region.wanted], fun W _ => by go_simp⟩) hS ?_
      simp only [lgT, lgZ, lgS, Act.put, lsT, lsZ, lsS]
      refine wpAnyH_take (i := 7) (v := .int .i64 (i : Int)) rfl (by kernel_rfl) (by kernel_rfl) (by kernel_rfl) (fun _ _ _ h => h) (Or.inl ⟨by simp [Region.wanted], fun W _ => by go_simp⟩) hS ?_
      simp only [lgT, lgZ, lgS, Act.put, lsT, lsZ, lsS]
      refine wpAnyH_take (i := 8) (v := .pointer (some ⟨g, o + i * 5, none⟩)) rfl (by kernel_rfl) (by kernel_rfl) (by kernel_rfl) (fun _ _ _ h => h) (Or.inl ⟨by simp [Region.wanted], fun W _ => by go_simp⟩) hS ?_
      simp only [lgT, lgZ, lgS, Act.put, lsT, lsZ, lsS]
      refine wpAnyH_take (i := 9) (v := .pointer (some ⟨g, o + i * 5 + 1, none⟩)) rfl (by kernel_rfl) (by kernel_rfl) (by kernel_rfl) (fun _ _ _ h => h) (Or.inl ⟨by simp [Region.wanted], fun W _ => by go_simp⟩) hS ?_
      simp only [lgT, lgZ, lgS, Act.put, lsT, lsZ, lsS]
      refine wpAnyH_take (i := 10) (v := .int .i64 xa) rfl (by kernel_rfl) (by kernel_rfl) (by kernel_rfl) (fun _ _ _ h => h) (Or.inl ⟨by simp [Region.wanted], fun W hW => by have kc := (HCC.out W hW).2.1; go_simp⟩) hS ?_
      simp only [lgT, lgZ, lgS, Act.put, lsT, lsZ, lsS]
      refine wpAnyH_take (i := 11) (v := .slice (some ⟨g, o, none⟩) n p) rfl (by kernel_rfl) (by kernel_rfl) (by kernel_rfl) (fun _ _ _ h => h) (Or.inl ⟨by simp [Region.wanted], fun W _ => by go_simp⟩) hS ?_
      simp only [lgT, lgZ, lgS, Act.put, lsT, lsZ, lsS]
      refine wpAnyH_take (i := 12) (v := .int .i64 (i : Int)) rfl (by kernel_rfl) (by kernel_rfl) (by kernel_rfl) (fun _ _ _ h => h) (Or.inl ⟨by simp [Region.wanted], fun W _ => by go_simp⟩) hS ?_
      simp only [lgT, lgZ, lgS, Act.put, lsT, lsZ, lsS]
      refine wpAnyH_take (i := 13) (v := .pointer (some ⟨g, o + i * 5, none⟩)) rfl (by kernel_rfl) (by kernel_rfl) (by kernel_rfl) (fun _ _ _ h => h) (Or.inl ⟨by simp [Region.wanted], fun W _ => by go_simp⟩) hS ?_
      simp only [lgT, lgZ, lgS, Act.put, lsT, lsZ, lsS]
      refine wpAnyH_take (i := 14) (v := .pointer (some ⟨g, o + i * 5 + 2, none⟩)) rfl (by kernel_rfl) (by kernel_rfl) (by kernel_rfl) (fun _ _ _ h => h) (Or.inl ⟨by simp [Region.wanted], fun W _ => by go_simp⟩) hS ?_
      simp only [lgT, lgZ, lgS, Act.put, lsT, lsZ, lsS]
      refine wpAnyH_take (i := 15) (v := .int .i64 xb) rfl (by kernel_rfl) (by kernel_rfl) (by kernel_rfl) (fun _ _ _ h => h) (Or.inl ⟨by simp [Region.wanted], fun W hW => by have kc := (HCC.out W hW).2.2.1; go_simp⟩) hS ?_
      simp only [lgT, lgZ, lgS, Act.put, lsT, lsZ, lsS]
      refine wpAnyH_take (i := 16) (v := .slice (some ⟨g, o, none⟩) n p) rfl (by kernel_rfl) (by kernel_rfl) (by kernel_rfl) (fun _ _ _ h => h) (Or.inl ⟨by simp [Region.wanted], fun W _ => by go_simp⟩) hS ?_
      simp only [lgT, lgZ, lgS, Act.put, lsT, lsZ, lsS]
      refine wpAnyH_take (i := 17) (v := .int .i64 (i : Int)) rfl (by kernel_rfl) (by kernel_rfl) (by kernel_rfl) (fun _ _ _ h => h) (Or.inl ⟨by simp [Region.wanted], fun W _ => by go_simp⟩) hS ?_
      simp only [lgT, lgZ, lgS, Act.put, lsT, lsZ, lsS]
      refine wpAnyH_take (i := 18) (v := .pointer (some ⟨g, o + i * 5, none⟩)) rfl (by kernel_rfl) (by kernel_rfl) (by kernel_rfl) (fun _ _ _ h => h) (Or.inl ⟨by simp [Region.wanted], fun W _ => by go_simp⟩) hS ?_
      simp only [lgT, lgZ, lgS, Act.put, lsT, lsZ, lsS]
      refine wpAnyH_take (i := 19) (v := .pointer (some ⟨g, o + i * 5 + 3, none⟩)) rfl (by kernel_rfl) (by kernel_rfl) (by kernel_rfl) (fun _ _ _ h => h) (Or.inl ⟨by simp [Region.wanted], fun W _ => by go_simp⟩) hS ?_
      simp only [lgT, lgZ, lgS, Act.put, lsT, lsZ, lsS]
      refine wpAnyH_take (i := 20) (v := .slice A1 xv.length C1) rfl (by kernel_rfl) (by kernel_rfl) (by kernel_rfl) (fun _ _ _ h => h) (Or.inl ⟨by simp [Region.wanted], fun W hW => by have kc := (HCC.out W hW).2.2.2.1; go_simp⟩) hS ?_
      simp only [lgT, lgZ, lgS, Act.put, lsT, lsZ, lsS]
      refine wpAnyH_take (i := 21) (v := .slice (some ⟨g, o, none⟩) n p) rfl (by kernel_rfl) (by kernel_rfl) (by kernel_rfl) (fun _ _ _ h => h) (Or.inl ⟨by simp [Region.wanted], fun W _ => by go_simp⟩) hS ?_
      simp only [lgT, lgZ, lgS, Act.put, lsT, lsZ, lsS]
      refine wpAnyH_take (i := 22) (v := .int .i64 (i : Int)) rfl (by kernel_rfl) (by kernel_rfl) (by kernel_rfl) (fun _ _ _ h => h) (Or.inl ⟨by simp [Region.wanted], fun W _ => by go_simp⟩) hS ?_
      simp only [lgT, lgZ, lgS, Act.put, lsT, lsZ, lsS]
      refine wpAnyH_take (i := 23) (v := .pointer (some ⟨g, o + i * 5, none⟩)) rfl (by kernel_rfl) (by kernel_rfl) (by kernel_rfl) (fun _ _ _ h => h) (Or.inl ⟨by simp [Region.wanted], fun W _ => by go_simp⟩) hS ?_
      simp only [lgT, lgZ, lgS, Act.put, lsT, lsZ, lsS]
      refine wpAnyH_take (i := 24) (v := .pointer (some ⟨g, o + i * 5 + 4, none⟩)) rfl (by kernel_rfl) (by kernel_rfl) (by kernel_rfl) (fun _ _ _ h => h) (Or.inl ⟨by simp [Region.wanted], fun W _ => by go_simp⟩) hS ?_
      simp only [lgT, lgZ, lgS, Act.put, lsT, lsZ, lsS]
      refine wpAnyH_take (i := 25) (v := .slice A2 yv.length C2) rfl (by kernel_rfl) (by kernel_rfl) (by kernel_rfl) (fun _ _ _ h => h) (Or.inl ⟨by simp [Region.wanted], fun W hW => by have kc := (HCC.out W hW).2.2.2.2; go_simp⟩) hS ?_
      simp only [lgT, lgZ, lgS, Act.put, lsT, lsZ, lsS]
      refine wpAnyH_take (i := 26) (v := .agg #[.int .i64 xl, .int .i64 xa, .int .i64 xb, .slice A1 xv.length C1, .slice A2 yv.length C2]) rfl (by kernel_rfl) (by kernel_rfl) (by kernel_rfl) (fun _ _ _ h => h) (Or.inl ⟨by simp [Region.wanted], fun W _ => by go_simp⟩) hS ?_
      simp only [lgT, lgZ, lgS, Act.put, lsT, lsZ, lsS]
      refine wpAnyH_ready (rs := [27]) (by kernel_rfl) (by simp) ?_
      refine AllReadyH.cons rfl (fun K1 hK1 => ?_) AllReadyH.nil
      refine wanted_go rfl ?_
      simp only [lgT, lgZ, lgS]
      go_wp2
      refine hK1.out _ _ ((hS).alloc HSD.out.sz _) (fun hS1 => ?_)
      refine wpAnyH_ready (rs := [28]) (by kernel_rfl) (by simp) ?_
      refine AllReadyH.cons rfl (fun K2 hK2 => ?_) AllReadyH.nil
      refine wanted_go rfl ?_
      simp only [lgT, lgZ, lgS]
      (obtain ⟨v', w9, hr, hown, hgrow, _⟩ := run_append_own (P := Tryz.prog) (w := W9.drew.alloc (.cells #[.int .i64 xl, .int .i64 xa, .int .i64 xb, .slice A1 xv.length C1, .slice A2 yv.length C2] 43)) w.heap.size 28 28 43 i0 _ 5 72 Tryz.underlying28 hi0 hz0 hz1 hz2 rfl (by decide) _ _ _ (HSD.out.row.alloc _) ⟨W9.heap.size, 0, none⟩ 1 1 [.int .i64 xl, .int .i64 xa, .int .i64 xb, .slice A1 xv.length C1, .slice A2 yv.length C2] rfl (fun j u hu => new_cells W9.drew [.int .i64 xl, .int .i64 xa, .int .i64 xb, .slice A1 xv.length C1, .slice A2 yv.length C2] 43 j u hu) (one_chV ⟨⟨xl, xa, xb, xv, yv⟩, A1, C1, A2, C2⟩) b1 b2 (by have := HSD.out.sz; rw [World.size_alloc]; omega); have HA := Lib.hid (HSD.out.app (x := ⟨⟨xl, xa, xb, xv, yv⟩, A1, C1, A2, C2⟩) HVA.out hown hgrow); refine Lib.wp_append_run _ _ _ _ _ rfl _ _ rfl rfl _ _ hr ?_)
      refine hK2.out _ _ (HA.out.lo) (fun hS2 => ?_)
      refine wpAnyH_take (i := 29) (v := v') rfl (by kernel_rfl) (by kernel_rfl) (by kernel_rfl) (fun _ _ _ h => h) (Or.inl ⟨by simp [Region.wanted], fun W _ => by go_simp⟩) hS2 ?_
      simp only [lgT, lgZ, lgS, Act.put, lsT, lsZ, lsS]
      refine wpAnyH_done (by kernel_rfl) ?_ _
      have HT := Lib.hid HA.out
      clear HA
      go_wp2
      go_roundw
      case rel => exact ⟨i + 1, by go_num, by omega, by rw [HTK.out]; exact HT.out⟩
      case measure => simp [intOf]; omega
    · have HF := Lib.hid (show l.take i = l by rw [List.take_of_length_le]; rw [HN.out]; omega)
      go_wp2
      go_ret
      exact ⟨_, rfl, by have h := HS.out; rw [HF.out] at h; exact h⟩
end Go.Proofs.YtellifcjamedkaaGreat
