/- The document's look-ups in a book: their contracts. -/
import Derived.Test.YtmndkbfjmamnfaaBkMath
namespace Go.Proofs.Ytmndkbfjmamnfaa
open Go.RowKit Base Base2

/-- A row of things of k numbers each. -/
def RowsOf (k : Nat) (W : World) (a : Option Addr) (l : List Item) : Prop := l = [] ∨ ∃ b off, a = some ⟨b, off, none⟩ ∧ b < W.heap.size ∧ ∀ (i : Nat) (x : Item), l[i]? = some x → ∀ (j : Nat) (z : Int), x[j]? = some z → W.cell? ⟨b, off + i * k + j, none⟩ = some (.int .i64 z)
theorem RowsOf.below {k : Nat} {W W' : World} {a : Option Addr} {l : List Item} (h : RowsOf k W a l) (hb : Below W.heap.size W W') : RowsOf k W' a l := by
  rcases h with h | ⟨b, off, rfl, h1, h2⟩
  · exact .inl h
  · exact .inr ⟨b, off, rfl, Nat.lt_of_lt_of_le h1 hb.size, fun i x hi j z hz => (hb.cell (p := ⟨b, off + i * k + j, none⟩) h1).trans (h2 i x hi j z hz)⟩
theorem RowsOf.at {k : Nat} {W : World} {a : Option Addr} {l : List Item} {i : Nat} {x : Item} (h : RowsOf k W a l) (hi : l[i]? = some x) : ∃ b off, a = some ⟨b, off, none⟩ ∧ b < W.heap.size ∧ ∀ (W' : World), Below W.heap.size W W' → ∀ (j : Nat) (z : Int), x[j]? = some z → W'.cell? ⟨b, off + i * k + j, none⟩ = some (.int .i64 z) := by
  rcases h with rfl | ⟨b, off, rfl, h1, h2⟩
  · simp at hi
  · exact ⟨b, off, rfl, h1, fun W' hb j z hz => (hb.cell (p := ⟨b, off + i * k + j, none⟩) h1).trans (h2 i x hi j z hz)⟩
/-- Where a book's rows lie. -/
structure Slots where
  h : Option Addr
  s : Option Addr
  o : Option Addr
  r : Option Addr
  ch : Nat
  cs : Nat
  co : Nat
  cr : Nat
def cellsB (v : Slots) (b : BookT) : Array Value := #[.slice v.h b.hs.length v.ch, .slice v.s b.ss.length v.cs, .slice v.o b.os.length v.co, .slice v.r b.rs.length v.cr, .int .i64 b.co]
structure BookIn (W : World) (v : Slots) (b : BookT) : Prop where
  hs : RowsOf 4 W v.h b.hs
  ss : RowsOf 3 W v.s b.ss
  os : RowsOf 6 W v.o b.os
  rs : RowsOf 2 W v.r b.rs
theorem BookIn.below {W W' : World} {v : Slots} {b : BookT} (h : BookIn W v b) (hb : Below W.heap.size W W') : BookIn W' v b := ⟨h.hs.below hb, h.ss.below hb, h.os.below hb, h.rs.below hb⟩
/-- A book's box. -/
def BoxB (W : World) (g : Nat) (v : Slots) (b : BookT) : Prop := W.heap[g]? = some (.cells (cellsB v b) 27 (0, 0))
theorem BoxB.new (W : World) (v : Slots) (b : BookT) : BoxB (W.alloc (.cells (cellsB v b) 27)) W.heap.size v b := heap_alloc_new W _
theorem BoxB.below {W W' : World} {g B : Nat} {v : Slots} {b : BookT} (h : BoxB W g v b) (hb : Below B W W') (hg : g < B) : BoxB W' g v b := (hb.block g hg).trans h
theorem BoxB.c {W : World} {g : Nat} {v : Slots} {b : BookT} (h : BoxB W g v b) (i : Nat) : W.cell? ⟨g, i, none⟩ = (cellsB v b)[i]? := cell_of_row W g i _ 27 (0, 0) h
theorem BoxB.cells {W : World} {g : Nat} {v : Slots} {b : BookT} (h : BoxB W g v b) : W.cell? ⟨g, 0, none⟩ = some (.slice v.h b.hs.length v.ch) ∧ W.cell? ⟨g, 1, none⟩ = some (.slice v.s b.ss.length v.cs) ∧ W.cell? ⟨g, 2, none⟩ = some (.slice v.o b.os.length v.co) ∧ W.cell? ⟨g, 3, none⟩ = some (.slice v.r b.rs.length v.cr) ∧ W.cell? ⟨g, 4, none⟩ = some (.int .i64 b.co) := ⟨h.c 0, h.c 1, h.c 2, h.c 3, h.c 4⟩
def aggI (x : Item) : Value := .agg (x.map (Value.int .i64)).toArray
theorem info33 : (Try.prog.info? 45).map (·.size) = some 4 := by kernel_rfl
theorem info37 : (Try.prog.info? 37).map (·.size) = some 6 := by kernel_rfl
theorem info45 : (Try.prog.info? 43).map (·.size) = some 3 := by kernel_rfl
theorem info47 : (Try.prog.info? 67).map (·.size) = some 2 := by kernel_rfl
theorem item2 {x : Item} (h : x.length = 2) : ∃ a b, x = [a, b] := by
  match x, h with
  | [a, b], _ => exact ⟨a, b, rfl⟩
theorem item3 {x : Item} (h : x.length = 3) : ∃ a b c, x = [a, b, c] := by
  match x, h with
  | [a, b, c], _ => exact ⟨a, b, c, rfl⟩
theorem item4 {x : Item} (h : x.length = 4) : ∃ a b c d, x = [a, b, c, d] := by
  match x, h with
  | [a, b, c, d], _ => exact ⟨a, b, c, d, rfl⟩
theorem item6 {x : Item} (h : x.length = 6) : ∃ a b c d e f, x = [a, b, c, d, e, f] := by
  match x, h with
  | [a, b, c, d, e, f], _ => exact ⟨a, b, c, d, e, f, rfl⟩
theorem get_some {l : List Item} {i : Nat} (h : i < l.length) : ∃ x, l[i]? = some x := ⟨l[i], by simp [h]⟩
theorem load_hold (W : World) (g o : Nat) (a b c d : Int) (h : ∀ (j : Nat) (z : Int), ([a, b, c, d] : Item)[j]? = some z → W.cell? ⟨g, o + j, none⟩ = some (.int .i64 z)) : (Instr.loadAt 45 (.pointer (some ⟨g, o, none⟩))).run Try.prog W = .ok (.agg #[.int .i64 a, .int .i64 b, .int .i64 c, .int .i64 d]) W := by
  have := load_at (P := Try.prog) W g o 45 [.int .i64 a, .int .i64 b, .int .i64 c, .int .i64 d] _ (fun j u hu => ?_) Try.underlying45 rfl (by rw [info33]; rfl)
  · simpa using this
  · match j, hu with
    | 0, hu => cases hu; exact h 0 _ rfl
    | 1, hu => cases hu; exact h 1 _ rfl
    | 2, hu => cases hu; exact h 2 _ rfl
    | 3, hu => cases hu; exact h 3 _ rfl
    | j + 4, hu => simp at hu
theorem load_open (W : World) (g o : Nat) (a b c d e f : Int) (h : ∀ (j : Nat) (z : Int), ([a, b, c, d, e, f] : Item)[j]? = some z → W.cell? ⟨g, o + j, none⟩ = some (.int .i64 z)) : (Instr.loadAt 37 (.pointer (some ⟨g, o, none⟩))).run Try.prog W = .ok (.agg #[.int .i64 a, .int .i64 b, .int .i64 c, .int .i64 d, .int .i64 e, .int .i64 f]) W := by
  have := load_at (P := Try.prog) W g o 37 [.int .i64 a, .int .i64 b, .int .i64 c, .int .i64 d, .int .i64 e, .int .i64 f] _ (fun j u hu => ?_) Try.underlying37 rfl (by rw [info37]; rfl)
  · simpa using this
  · match j, hu with
    | 0, hu => cases hu; exact h 0 _ rfl
    | 1, hu => cases hu; exact h 1 _ rfl
    | 2, hu => cases hu; exact h 2 _ rfl
    | 3, hu => cases hu; exact h 3 _ rfl
    | 4, hu => cases hu; exact h 4 _ rfl
    | 5, hu => cases hu; exact h 5 _ rfl
    | j + 6, hu => simp at hu
theorem load_stake (W : World) (g o : Nat) (a b c : Int) (h : ∀ (j : Nat) (z : Int), ([a, b, c] : Item)[j]? = some z → W.cell? ⟨g, o + j, none⟩ = some (.int .i64 z)) : (Instr.loadAt 43 (.pointer (some ⟨g, o, none⟩))).run Try.prog W = .ok (.agg #[.int .i64 a, .int .i64 b, .int .i64 c]) W := by
  have := load_at (P := Try.prog) W g o 43 [.int .i64 a, .int .i64 b, .int .i64 c] _ (fun j u hu => ?_) Try.underlying43 rfl (by rw [info45]; rfl)
  · simpa using this
  · match j, hu with
    | 0, hu => cases hu; exact h 0 _ rfl
    | 1, hu => cases hu; exact h 1 _ rfl
    | 2, hu => cases hu; exact h 2 _ rfl
    | j + 3, hu => simp at hu
theorem load_rate (W : World) (g o : Nat) (a b : Int) (h : ∀ (j : Nat) (z : Int), ([a, b] : Item)[j]? = some z → W.cell? ⟨g, o + j, none⟩ = some (.int .i64 z)) : (Instr.loadAt 67 (.pointer (some ⟨g, o, none⟩))).run Try.prog W = .ok (.agg #[.int .i64 a, .int .i64 b]) W := by
  have := load_at (P := Try.prog) W g o 67 [.int .i64 a, .int .i64 b] _ (fun j u hu => ?_) Try.underlying67 rfl (by rw [info47]; rfl)
  · simpa using this
  · match j, hu with
    | 0, hu => cases hu; exact h 0 _ rfl
    | 1, hu => cases hu; exact h 1 _ rfl
    | j + 2, hu => simp at hu

def valH (R : Option Item) : Value := match R with | some x => aggI x | none => aggI [0, 0, 0, 0]

set_option maxRecDepth 100000 in
set_option maxHeartbeats 4000000 in
theorem rholder18 (v : Slots) (b : BookT) (id : Int) (w : World) (hb : BookIn w v b) (hk : ItemsOk 4 2000 b.hs) :
    Calls Try.prog 18 #[.agg (cellsB v b), .int .i64 id] w fun e w' => e = .returned (.tuple #[valH (findL (is1 id) b.hs), .bool (findL (is1 id) b.hs).isSome]) ∧ Below w.heap.size w w' := by
  obtain ⟨RES, hR⟩ : ∃ R, findL (is1 id) b.hs = R := ⟨_, rfl⟩
  rw [hR]
  have hbox := (BoxB.new w v b).below ((Below.refl _ _).alloc (Nat.le_refl _) (.cells #[.int .i64 0, .int .i64 0, .int .i64 0, .int .i64 0] 45)) (by simp)
  have hnew := heap_alloc_new (w.alloc (.cells (cellsB v b) 27)) (.cells #[.int .i64 0, .int .i64 0, .int .i64 0, .int .i64 0] 45)
  rw [World.size_alloc] at hnew
  have hlo : Below w.heap.size w ((w.alloc (.cells (cellsB v b) 27)).alloc (.cells #[.int .i64 0, .int .i64 0, .int .i64 0, .int .i64 0] 45)) := ((Below.refl _ w).alloc (Nat.le_refl _) _).alloc (by simp) _
  have c0 := hbox.cells.1
  have HROW := Lib.hid hb.hs
  have hkl := hk.1
  have HK := Lib.hid hk.2
  have HR := Lib.hid hR
  unfold cellsB at *
  clear hb hk hbox hR
  generalize b.hs = L at *
  generalize b.ss.length = n1 at *
  generalize b.os.length = n2 at *
  generalize b.rs.length = n3 at *
  generalize b.co = n4 at *
  generalize v.h = a at *
  generalize v.ch = c at *
  generalize v.s = a1 at *
  generalize v.cs = c1 at *
  generalize v.o = a2 at *
  generalize v.co = c2 at *
  generalize v.r = a3 at *
  generalize v.cr = c3 at *
  go_enter Try.func18, Try.ntmps18
  go_wp2
  refine at_world (Φ := fun W => Below w.heap.size w W ∧ W.cell? ⟨w.heap.size, 0, none⟩ = some (.slice a L.length c) ∧ W.heap[w.heap.size + 1]? = some (.cells #[.int .i64 0, .int .i64 0, .int .i64 0, .int .i64 0] 45 (0, 0))) ⟨hlo, c0, hnew⟩ ?_
  rintro W0 ⟨hb, hc, hn⟩
  have HB := Lib.hid hb
  have HN := Lib.hid hn
  clear hb hn hlo c0 hnew
  go_loopw [6] (fun vi W => ∃ i : Nat, vi = .int .i64 (i : Int) ∧ i ≤ L.length ∧ (∀ y ∈ L.take i, is1 id y = false) ∧ W = W0) (fun vi _ => L.length - (intOf vi).toNat)
  case atStart => exact ⟨0, rfl, Nat.zero_le _, fun y hy => by simp at hy, rfl⟩
  case round =>
    obtain ⟨i, rfl, hi, hno, hw⟩ := hrel
    subst hw
    by_cases hlt : i < L.length
    · obtain ⟨x, hx⟩ : ∃ x, L[i]? = some x := ⟨L[i], by simp [hlt]⟩
      obtain ⟨b0, off, rfl, hb0, hcs⟩ := HROW.out.at hx
      obtain ⟨p, q, r, s, rfl⟩ := item4 (HK.out _ (List.mem_of_getElem? hx)).1
      have HCS := Lib.hid hcs
      clear hcs
      have k0 := HCS.out wr HB.out 0 p rfl
      have k1 := HCS.out wr HB.out 1 q rfl
      have k2 := HCS.out wr HB.out 2 r rfl
      have k3 := HCS.out wr HB.out 3 s rfl
      rw [Nat.add_zero] at k0
      by_cases he : p = id
      · have g : (p == id) = true := by rw [beq_iff_eq]; exact he
        have hp : is1 id [p, q, r, s] = true := by simp [is1, key, he]
        have hz := find_yes hx hp hno
        rw [HR.out] at hz
        have hld := load_hold wr b0 (off + i * 4) p q r s (fun j z hz => HCS.out wr HB.out j z hz)
        have HZ := Lib.hid hz
        clear hz hx hno hp HR HCS HK HROW he
        go_wp2_with ((with_reducible refine atStore (ty := 45) (x := .tmp 4) (y := .tmp 26) rfl ?_); refine wpList_store_row rfl 45 (.tmp 4) (.tmp 26) rfl (w.heap.size + 1) #[.int .i64 p, .int .i64 q, .int .i64 r, .int .i64 s] rfl rfl 45 #[.int .i64 0, .int .i64 0, .int .i64 0, .int .i64 0] HN.out info33 rfl (by simp [Value.oneCell']) ?_)
        refine ret_cell_tmp rfl rfl rfl rfl (setRow_heap _ _ _ _ _ _ HN.out) Try.underlying45 rfl info33 ?_
        exact ⟨by rw [HZ.out]; rfl, below_row1 HB.out (by omega)⟩
      · have g : (p == id) = false := by rw [beq_eq_false_iff_ne]; exact he
        have HNX := Lib.hid (none_next hx (show is1 id [p, q, r, s] = false by simp [is1, key, he]) hno)
        clear hno he hx HCS
        go_wp2
        go_roundw
        case rel => exact ⟨i + 1, by go_num, hlt, HNX.out, by trivial⟩
        case measure => simp [intOf]; omega
    · have hil : i = L.length := by omega
      have hz := find_no (l := L) (p := is1 id) (by rw [hil, List.take_length] at hno; exact hno)
      rw [HR.out] at hz
      have HZ := Lib.hid hz
      have hs := HN.out
      clear hz hno hil HR HROW HK
      go_wp2_with ((with_reducible refine atStore (ty := 45) (x := .tmp 4) (y := .tmp 27) rfl ?_); refine wpList_store_row rfl 45 (.tmp 4) (.tmp 27) rfl (w.heap.size + 1) #[.int .i64 0, .int .i64 0, .int .i64 0, .int .i64 0] rfl rfl 45 #[.int .i64 0, .int .i64 0, .int .i64 0, .int .i64 0] HN.out info33 rfl (by simp [Value.oneCell']) ?_)
      refine ret_cell_tmp rfl rfl rfl rfl (setRow_heap _ _ _ _ _ _ HN.out) Try.underlying45 rfl info33 ?_
      exact ⟨by rw [HZ.out]; rfl, below_row1 HB.out (by omega)⟩

def valO (R : Option Item) : Value := match R with | some x => aggI x | none => aggI [0, 0, 0, 0, 0, 0]

def valR (R : Option Item) : Int := match R with | some x => key 1 x | none => 0

set_option maxRecDepth 100000 in
set_option maxHeartbeats 4000000 in
theorem rrate20 (v : Slots) (b : BookT) (id : Int) (w : World) (hb : BookIn w v b) (hk : ItemsOk 2 2000 b.rs) :
    Calls Try.prog 32 #[.agg (cellsB v b), .int .i64 id] w fun e w' => e = .returned (.tuple #[.int .i64 (valR (findL (is1 id) b.rs)), .bool (findL (is1 id) b.rs).isSome]) ∧ Below w.heap.size w w' := by
  obtain ⟨RES, hR⟩ : ∃ R, findL (is1 id) b.rs = R := ⟨_, rfl⟩
  rw [hR]
  have hbox := BoxB.new w v b
  have hlo : Below w.heap.size w (w.alloc (.cells (cellsB v b) 27)) := (Below.refl _ w).alloc (Nat.le_refl _) _
  have c0 := hbox.cells.2.2.2.1
  have HROW := Lib.hid hb.rs
  have hkl := hk.1
  have HK := Lib.hid hk.2
  have HR := Lib.hid hR
  unfold cellsB at *
  clear hb hk hbox hR
  generalize b.rs = L at *
  generalize b.hs.length = n0 at *
  generalize b.ss.length = n1 at *
  generalize b.os.length = n2 at *
  generalize b.co = n4 at *
  generalize v.h = a0 at *
  generalize v.ch = c0 at *
  generalize v.s = a1 at *
  generalize v.cs = c1 at *
  generalize v.o = a2 at *
  generalize v.co = c2 at *
  generalize v.r = a at *
  generalize v.cr = c at *
  go_enter Try.func32, Try.ntmps32
  go_wp2
  refine at_world (Φ := fun W => Below w.heap.size w W ∧ W.cell? ⟨w.heap.size, 3, none⟩ = some (.slice a L.length c)) ⟨hlo, c0⟩ ?_
  rintro W0 ⟨hb, hc⟩
  have HB := Lib.hid hb
  clear hb hlo c0
  go_loopw [6] (fun vi W => ∃ i : Nat, vi = .int .i64 (i : Int) ∧ i ≤ L.length ∧ (∀ y ∈ L.take i, (is1 id) y = false) ∧ W = W0) (fun vi _ => L.length - (intOf vi).toNat)
  case atStart => exact ⟨0, rfl, Nat.zero_le _, fun y hy => by simp at hy, rfl⟩
  case round =>
    obtain ⟨i, rfl, hi, hno, hw⟩ := hrel
    subst hw
    by_cases hlt : i < L.length
    · obtain ⟨x, hx⟩ : ∃ x, L[i]? = some x := ⟨L[i], by simp [hlt]⟩
      obtain ⟨b0, off, rfl, hb0, hcs⟩ := HROW.out.at hx
      obtain ⟨p, q, rfl⟩ := item2 (HK.out _ (List.mem_of_getElem? hx)).1
      have HCS := Lib.hid hcs
      clear hcs
      have k0 := HCS.out wr HB.out 0 p rfl
      have k1 := HCS.out wr HB.out 1 q rfl
      rw [Nat.add_zero] at k0
      by_cases he : p = id
      · have g : (p == id) = true := by rw [beq_iff_eq]; exact he
        have hp : (is1 id) [p, q] = true := by simp [is1, key, he]
        have hz := find_yes hx hp hno
        rw [HR.out] at hz
        have HZ := Lib.hid hz
        clear hz hx hno hp HR HCS HK HROW he
        go_wp2
        go_ret2
        exact ⟨by rw [HZ.out]; rfl, HB.out⟩
      · have g : (p == id) = false := by rw [beq_eq_false_iff_ne]; exact he
        have hp : (is1 id) [p, q] = false := by simp [is1, key, he]
        have HNX := Lib.hid (none_next hx hp hno)
        clear hno hx HCS hp he
        go_wp2
        go_roundw
        case rel => exact ⟨i + 1, by go_num, hlt, HNX.out, by trivial⟩
        case measure => simp [intOf]; omega
    · have hil : i = L.length := by omega
      have hz := find_no (l := L) (p := (is1 id)) (by rw [hil, List.take_length] at hno; exact hno)
      rw [HR.out] at hz
      have HZ := Lib.hid hz
      clear hz hno hil HR HROW HK
      go_wp2
      go_ret2
      exact ⟨by rw [HZ.out]; rfl, HB.out⟩

def valS (R : Option Item) : Int := match R with | some x => key 2 x | none => 0

set_option maxRecDepth 100000 in
set_option maxHeartbeats 4000000 in
theorem rstake22 (v : Slots) (b : BookT) (id sy : Int) (w : World) (hb : BookIn w v b) (hk : ItemsOk 3 2000 b.ss) :
    Calls Try.prog 40 #[.agg (cellsB v b), .int .i64 id, .int .i64 sy] w fun e w' => e = .returned (.int .i64 (valS (findL (is2 id sy) b.ss))) ∧ Below w.heap.size w w' := by
  obtain ⟨RES, hR⟩ : ∃ R, findL (is2 id sy) b.ss = R := ⟨_, rfl⟩
  rw [hR]
  have hbox := BoxB.new w v b
  have hlo : Below w.heap.size w (w.alloc (.cells (cellsB v b) 27)) := (Below.refl _ w).alloc (Nat.le_refl _) _
  have c0 := hbox.cells.2.1
  have HROW := Lib.hid hb.ss
  have hkl := hk.1
  have HK := Lib.hid hk.2
  have HR := Lib.hid hR
  unfold cellsB at *
  clear hb hk hbox hR
  generalize b.ss = L at *
  generalize b.hs.length = n0 at *
  generalize b.os.length = n2 at *
  generalize b.rs.length = n3 at *
  generalize b.co = n4 at *
  generalize v.h = a0 at *
  generalize v.ch = c0 at *
  generalize v.s = a at *
  generalize v.cs = c at *
  generalize v.o = a2 at *
  generalize v.co = c2 at *
  generalize v.r = a3 at *
  generalize v.cr = c3 at *
  go_enter Try.func40, Try.ntmps40
  go_wp2
  refine at_world (Φ := fun W => Below w.heap.size w W ∧ W.cell? ⟨w.heap.size, 1, none⟩ = some (.slice a L.length c)) ⟨hlo, c0⟩ ?_
  rintro W0 ⟨hb, hc⟩
  have HB := Lib.hid hb
  clear hb hlo c0
  go_loopw [7] (fun vi W => ∃ i : Nat, vi = .int .i64 (i : Int) ∧ i ≤ L.length ∧ (∀ y ∈ L.take i, (is2 id sy) y = false) ∧ W = W0) (fun vi _ => L.length - (intOf vi).toNat)
  case atStart => exact ⟨0, rfl, Nat.zero_le _, fun y hy => by simp at hy, rfl⟩
  case round =>
    obtain ⟨i, rfl, hi, hno, hw⟩ := hrel
    subst hw
    by_cases hlt : i < L.length
    · obtain ⟨x, hx⟩ : ∃ x, L[i]? = some x := ⟨L[i], by simp [hlt]⟩
      obtain ⟨b0, off, rfl, hb0, hcs⟩ := HROW.out.at hx
      obtain ⟨p, q, r, rfl⟩ := item3 (HK.out _ (List.mem_of_getElem? hx)).1
      have HCS := Lib.hid hcs
      clear hcs
      have k0 := HCS.out wr HB.out 0 p rfl
      have k1 := HCS.out wr HB.out 1 q rfl
      have k2 := HCS.out wr HB.out 2 r rfl
      rw [Nat.add_zero] at k0
      by_cases he : p = id
      · have g : (p == id) = true := by rw [beq_iff_eq]; exact he
        by_cases he2 : q = sy
        · have g2 : (q == sy) = true := by rw [beq_iff_eq]; exact he2
          have hp : (is2 id sy) [p, q, r] = true := by simp [is2, key, he, he2]
          have hz := find_yes hx hp hno
          rw [HR.out] at hz
          have HZ := Lib.hid hz
          clear hz hx hno hp HR HCS HK HROW he he2
          go_wp2
          go_ret
          exact ⟨by rw [HZ.out]; rfl, HB.out⟩
        · have g2 : (q == sy) = false := by rw [beq_eq_false_iff_ne]; exact he2
          have hp : (is2 id sy) [p, q, r] = false := by simp [is2, key, he2]
          have HNX := Lib.hid (none_next hx hp hno)
          clear hno hx HCS hp he he2
          go_wp2
          go_roundw
          case rel => exact ⟨i + 1, by go_num, hlt, HNX.out, by trivial⟩
          case measure => simp [intOf]; omega
      · have g : (p == id) = false := by rw [beq_eq_false_iff_ne]; exact he
        have hp : (is2 id sy) [p, q, r] = false := by simp [is2, key, he]
        have HNX := Lib.hid (none_next hx hp hno)
        clear hno hx HCS hp he
        go_wp2
        go_roundw
        case rel => exact ⟨i + 1, by go_num, hlt, HNX.out, by trivial⟩
        case measure => simp [intOf]; omega
    · have hil : i = L.length := by omega
      have hz := find_no (l := L) (p := (is2 id sy)) (by rw [hil, List.take_length] at hno; exact hno)
      rw [HR.out] at hz
      have HZ := Lib.hid hz
      clear hz hno hil HR HROW HK
      go_wp2
      go_ret
      exact ⟨by rw [HZ.out]; rfl, HB.out⟩
end Go.Proofs.Ytmndkbfjmamnfaa
