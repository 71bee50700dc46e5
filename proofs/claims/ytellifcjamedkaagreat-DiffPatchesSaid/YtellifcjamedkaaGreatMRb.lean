/- The document's look-ups in a book: their contracts. The document's 'there', and the law's measure of a book: their contracts. -/
import Derived.Test.YtellifcjamedkaaGreatMBm
namespace Go.Proofs.YtellifcjamedkaaGreat
open Go.RowKit Base Base2
/-- A row of things of k numbers each. -/
def RowsOf (k : Nat) (W : World) (a : Option Addr) (l : List Item) : Prop := l = [] ∨ ∃ b off, a = some ⟨b, off, none⟩ ∧ b < W.heap.size ∧ ∀ (i : Nat) (x : Item), l[i]? = some x → ∀ (j : Nat) (z : Int), x[j]? = some z → W.cell? ⟨b, off + i * k + j, none⟩ = some (.int .i64 z)
theorem RowsOf.below {k : Nat} {W W' : World} {a : Option Addr} {l : List Item} (h : RowsOf k W a l) (hb : Below W.heap.size W W') : RowsOf k W' a l := by
  rcases h with h | ⟨b, off, rfl, h1, h2⟩
  · exact .inl h
  · exact .inr ⟨b, off, rfl, Nat.lt_of_lt_of_le h1 hb.size, fun i x hi j z hz => (hb.cell (p := ⟨b, off + i * k + j, none⟩) h1).trans (h2 i x hi j z hz)⟩
theorem RowsOf.at {k : Nat} {W : World} {a : Option Addr} {l : List Item} {i : Nat} {x : Item} (h : RowsOf k W a l) (hi : l[i]? = some x) : ∃ b off, a = some ⟨b, off, none⟩ ∧ b < W.heap.size ∧ ∀ (W' : World), Below W.heap.size W W' → ∀ (j : Nat) (z : Int), x[j]? = some z → W'.cell? ⟨b, off + i * k + j, none⟩ = some (.int .i64 z) := by
  rcases h with rfl | ⟨b, off, rfl, h1, h2⟩
  · simp at hi
  · exact ⟨b, off, rfl, h1, fun W' hb j z hz => (hb.cell (p := ⟨b, off + i * k + j, none⟩) h1).trans (h2 i x hi j z hz)⟩
/-- Where a book's rows lie. -/
structure Slots where
  h : Option Addr
  s : Option Addr
  o : Option Addr
  r : Option Addr
  ch : Nat
  cs : Nat
  co : Nat
  cr : Nat
def cellsB (v : Slots) (b : BookT) : Array Value := #[.slice v.h b.hs.length v.ch, .slice v.s b.ss.length v.cs, .slice v.o b.os.length v.co, .slice v.r b.rs.length v.cr, .int .i64 b.co]
structure BookIn (W : World) (v : Slots) (b : BookT) : Prop where
  hs : RowsOf 4 W v.h b.hs
  ss : RowsOf 3 W v.s b.ss
  os : RowsOf 6 W v.o b.os
  rs : RowsOf 2 W v.r b.rs
theorem BookIn.below {W W' : World} {v : Slots} {b : BookT} (h : BookIn W v b) (hb : Below W.heap.size W W') : BookIn W' v b := ⟨h.hs.below hb, h.ss.below hb, h.os.below hb, h.rs.below hb⟩
/-- A book's box. -/
def BoxB (W : World) (g : Nat) (v : Slots) (b : BookT) : Prop := W.heap[g]? = some (.cells (cellsB v b) 27 (0, 0))
theorem BoxB.new (W : World) (v : Slots) (b : BookT) : BoxB (W.alloc (.cells (cellsB v b) 27)) W.heap.size v b := heap_alloc_new W _
theorem BoxB.below {W W' : World} {g B : Nat} {v : Slots} {b : BookT} (h : BoxB W g v b) (hb : Below B W W') (hg : g < B) : BoxB W' g v b := (hb.block g hg).trans h
theorem BoxB.c {W : World} {g : Nat} {v : Slots} {b : BookT} (h : BoxB W g v b) (i : Nat) : W.cell? ⟨g, i, none⟩ = (cellsB v b)[i]? := cell_of_row W g i _ 27 (0, 0) h
theorem BoxB.cells {W : World} {g : Nat} {v : Slots} {b : BookT} (h : BoxB W g v b) : W.cell? ⟨g, 0, none⟩ = some (.slice v.h b.hs.length v.ch) ∧ W.cell? ⟨g, 1, none⟩ = some (.slice v.s b.ss.length v.cs) ∧ W.cell? ⟨g, 2, none⟩ = some (.slice v.o b.os.length v.co) ∧ W.cell? ⟨g, 3, none⟩ = some (.slice v.r b.rs.length v.cr) ∧ W.cell? ⟨g, 4, none⟩ = some (.int .i64 b.co) := ⟨h.c 0, h.c 1, h.c 2, h.c 3, h.c 4⟩
def aggI (x : Item) : Value := .agg (x.map (Value.int .i64)).toArray
theorem info33 : (Tryz.prog.info? 71).map (·.size) = some 4 := by kernel_rfl
theorem info37 : (Tryz.prog.info? 76).map (·.size) = some 6 := by kernel_rfl
theorem info45 : (Tryz.prog.info? 73).map (·.size) = some 3 := by kernel_rfl
theorem info47 : (Tryz.prog.info? 50).map (·.size) = some 2 := by kernel_rfl
theorem item2 {x : Item} (h : x.length = 2) : ∃ a b, x = [a, b] := by
  match x, h with
  | [a, b], _ => exact ⟨a, b, rfl⟩
theorem item3 {x : Item} (h : x.length = 3) : ∃ a b c, x = [a, b, c] := by
  match x, h with
  | [a, b, c], _ => exact ⟨a, b, c, rfl⟩
theorem item4 {x : Item} (h : x.length = 4) : ∃ a b c d, x = [a, b, c, d] := by
  match x, h with
  | [a, b, c, d], _ => exact ⟨a, b, c, d, rfl⟩
theorem item6 {x : Item} (h : x.length = 6) : ∃ a b c d e f, x = [a, b, c, d, e, f] := by
  match x, h with
  | [a, b, c, d, e, f], _ => exact ⟨a, b, c, d, e, f, rfl⟩
theorem load_hold (W : World) (g o : Nat) (a b c d : Int) (h : ∀ (j : Nat) (z : Int), ([a, b, c, d] : Item)[j]? = some z → W.cell? ⟨g, o + j, none⟩ = some (.int .i64 z)) : (Instr.loadAt 71 (.pointer (some ⟨g, o, none⟩))).run Tryz.prog W = .ok (.agg #[.int .i64 a, .int .i64 b, .int .i64 c, .int .i64 d]) W := by
  have := load_at (P := Tryz.prog) W g o 71 [.int .i64 a, .int .i64 b, .int .i64 c, .int .i64 d] _ (fun j u hu => ?_) Tryz.underlying71 rfl (by rw [info33]; rfl)
  · simpa using this
  · match j, hu with
    | 0, hu => cases hu; exact h 0 _ rfl
    | 1, hu => cases hu; exact h 1 _ rfl
    | 2, hu => cases hu; exact h 2 _ rfl
    | 3, hu => cases hu; exact h 3 _ rfl
    | j + 4, hu => simp at hu
theorem load_open (W : World) (g o : Nat) (a b c d e f : Int) (h : ∀ (j : Nat) (z : Int), ([a, b, c, d, e, f] : Item)[j]? = some z → W.cell? ⟨g, o + j, none⟩ = some (.int .i64 z)) : (Instr.loadAt 76 (.pointer (some ⟨g, o, none⟩))).run Tryz.prog W = .ok (.agg #[.int .i64 a, .int .i64 b, .int .i64 c, .int .i64 d, .int .i64 e, .int .i64 f]) W := by
  have := load_at (P := Tryz.prog) W g o 76 [.int .i64 a, .int .i64 b, .int .i64 c, .int .i64 d, .int .i64 e, .int .i64 f] _ (fun j u hu => ?_) Tryz.underlying76 rfl (by rw [info37]; rfl)
  · simpa using this
  · match j, hu with
    | 0, hu => cases hu; exact h 0 _ rfl
    | 1, hu => cases hu; exact h 1 _ rfl
    | 2, hu => cases hu; exact h 2 _ rfl
    | 3, hu => cases hu; exact h 3 _ rfl
    | 4, hu => cases hu; exact h 4 _ rfl
    | 5, hu => cases hu; exact h 5 _ rfl
    | j + 6, hu => simp at hu
theorem load_stake (W : World) (g o : Nat) (a b c : Int) (h : ∀ (j : Nat) (z : Int), ([a, b, c] : Item)[j]? = some z → W.cell? ⟨g, o + j, none⟩ = some (.int .i64 z)) : (Instr.loadAt 73 (.pointer (some ⟨g, o, none⟩))).run Tryz.prog W = .ok (.agg #[.int .i64 a, .int .i64 b, .int .i64 c]) W := by
  have := load_at (P := Tryz.prog) W g o 73 [.int .i64 a, .int .i64 b, .int .i64 c] _ (fun j u hu => ?_) Tryz.underlying73 rfl (by rw [info45]; rfl)
  · simpa using this
  · match j, hu with
    | 0, hu => cases hu; exact h 0 _ rfl
    | 1, hu => cases hu; exact h 1 _ rfl
    | 2, hu => cases hu; exact h 2 _ rfl
    | j + 3, hu => simp at hu
theorem load_rate (W : World) (g o : Nat) (a b : Int) (h : ∀ (j : Nat) (z : Int), ([a, b] : Item)[j]? = some z → W.cell? ⟨g, o + j, none⟩ = some (.int .i64 z)) : (Instr.loadAt 50 (.pointer (some ⟨g, o, none⟩))).run Tryz.prog W = .ok (.agg #[.int .i64 a, .int .i64 b]) W := by
  have := load_at (P := Tryz.prog) W g o 50 [.int .i64 a, .int .i64 b] _ (fun j u hu => ?_) Tryz.underlying50 rfl (by rw [info47]; rfl)
  · simpa using this
  · match j, hu with
    | 0, hu => cases hu; exact h 0 _ rfl
    | 1, hu => cases hu; exact h 1 _ rfl
    | j + 2, hu => simp at hu
def valH (R : Option Item) : Value := match R with | some x => aggI x | none => aggI [0, 0, 0, 0]
set_option maxRecDepth 100000 in
set_option maxHeartbeats 4000000 in
theorem rholder18 (v : Slots) (b : BookT) (id : Int) (w : World) (hb : BookIn w v b) (hk : ItemsOk 4 2000 b.hs) :
    Calls Tryz.prog 59 #[.agg (cellsB v b), .int .i64 id] w fun e w' => e = .returned (.tuple #[valH (findL (is1 id) b.hs), .bool (findL (is1 id) b.hs).isSome]) ∧ Below w.heap.size w w' := by
  obtain ⟨RES, hR⟩ : ∃ R, findL (is1 id) b.hs = R := ⟨_, rfl⟩
  rw [hR]
  have hbox := (BoxB.new w v b).below ((Below.refl _ _).alloc (Nat.le_refl _) (.cells #[.int .i64 0, .int .i64 0, .int .i64 0, .int .i64 0] 71)) (by simp)
  have hnew := heap_alloc_new (w.alloc (.cells (cellsB v b) 27)) (.cells #[.int .i64 0, .int .i64 0, .int .i64 0, .int .i64 0] 71)
  rw [World.size_alloc] at hnew
  have hlo : Below w.heap.size w ((w.alloc (.cells (cellsB v b) 27)).alloc (.cells #[.int .i64 0, .int .i64 0, .int .i64 0, .int .i64 0] 71)) := ((Below.refl _ w).alloc (Nat.le_refl _) _).alloc (by simp) _
  have c0 := hbox.cells.1
  have HROW := Lib.hid hb.hs
  have hkl := hk.1
  have HK := Lib.hid hk.2
  have HR := Lib.hid hR
  unfold cellsB at *
  clear hb hk hbox hR
  generalize b.hs = L at *
  generalize b.ss.length = n1 at *
  generalize b.os.length = n2 at *
  generalize b.rs.length = n3 at *
  generalize b.co = n4 at *
  generalize v.h = a at *
  generalize v.ch = c at *
  generalize v.s = a1 at *
  generalize v.cs = c1 at *
  generalize v.o = a2 at *
  generalize v.co = c2 at *
  generalize v.r = a3 at *
  generalize v.cr = c3 at *
  go_enter Tryz.func59, Tryz.ntmps59
  go_wp2
  refine at_world (Φ := fun W => Below w.heap.size w W ∧ W.cell? ⟨w.heap.size, 0, none⟩ = some (.slice a L.length c) ∧ W.heap[w.heap.size + 1]? = some (.cells #[.int .i64 0, .int .i64 0, .int .i64 0, .int .i64 0] 71 (0, 0))) ⟨hlo, c0, hnew⟩ ?_
  rintro W0 ⟨hb, hc, hn⟩
  have HB := Lib.hid hb
  have HN := Lib.hid hn
  clear hb hn hlo c0 hnew
  go_loopw [6] (fun vi W => ∃ i : Nat, vi = .int .i64 (i : Int) ∧ i ≤ L.length ∧ (∀ y ∈ L.take i, is1 id y = false) ∧ W = W0) (fun vi _ => L.length - (intOf vi).toNat)
  case atStart => exact ⟨0, rfl, Nat.zero_le _, fun y hy => by simp at hy, rfl⟩
  case round =>
    obtain ⟨i, rfl, hi, hno, hw⟩ := hrel
    subst hw
    by_cases hlt : i < L.length
    · obtain ⟨x, hx⟩ : ∃ x, L[i]? = some x := ⟨L[i], by simp [hlt]⟩
      obtain ⟨b0, off, rfl, hb0, hcs⟩ := HROW.out.at hx
      obtain ⟨p, q, r, s, rfl⟩ := item4 (HK.out _ (List.mem_of_getElem? hx)).1
      have HCS := Lib.hid hcs
      clear hcs
      have k0 := HCS.out wr HB.out 0 p rfl
      have k1 := HCS.out wr HB.out 1 q rfl
      have k2 := HCS.out wr HB.out 2 r rfl
      have k3 := HCS.out wr HB.out 3 s rfl
      rw [Nat.add_zero] at k0
      by_cases he : p = id
      · have g : (p == id) = true := by rw [beq_iff_eq]; exact he
        have hp : is1 id [p, q, r, s] = true := by simp [is1, key, he]
        have hz := find_yes hx hp hno
        rw [HR.out] at hz
        have hld := load_hold wr b0 (off + i * 4) p q r s (fun j z hz => HCS.out wr HB.out j z hz)
        have HZ := Lib.hid hz
        clear hz hx hno hp HR HCS HK HROW he
        go_wp2_with ((with_reducible refine atStore (ty := 71) (x := .tmp 4) (y := .tmp 26) rfl ?_); refine wpList_store_row rfl 71 (.tmp 4) (.tmp 26) rfl (w.heap.size + 1) #[.int .i64 p, .int .i64 q, .int .i64 r, .int .i64 s] rfl rfl 71 #[.int .i64 0, .int .i64 0, .int .i64 0, .int .i64 0] HN.out info33 rfl (by simp [Value.oneCell']) ?_)
        refine ret_cell_tmp rfl rfl rfl rfl (setRow_heap _ _ _ _ _ _ HN.out) Tryz.underlying71 rfl info33 ?_
        exact ⟨by rw [HZ.out]; rfl, below_row1 HB.out (by omega)⟩
      · have g : (p == id) = false := by rw [beq_eq_false_iff_ne]; exact he
        have HNX := Lib.hid (none_next hx (show is1 id [p, q, r, s] = false by simp [is1, key, he]) hno)
        clear hno he hx HCS
        go_wp2
        go_roundw
        case rel => exact ⟨i + 1, by go_num, hlt, HNX.out, by trivial⟩
        case measure => simp [intOf]; omega
    · have hil : i = L.length := by omega
      have hz := find_no (l := L) (p := is1 id) (by rw [hil, List.take_length] at hno; exact hno)
      rw [HR.out] at hz
      have HZ := Lib.hid hz
      have hs := HN.out
      clear hz hno hil HR HROW HK
      go_wp2_with ((with_reducible refine atStore (ty := 71) (x := .tmp 4) (y := .tmp 27) rfl ?_); refine wpList_store_row rfl 71 (.tmp 4) (.tmp 27) rfl (w.heap.size + 1) #[.int .i64 0, .int .i64 0, .int .i64 0, .int .i64 0] rfl rfl 71 #[.int .i64 0, .int .i64 0, .int .i64 0, .int .i64 0] HN.out info33 rfl (by simp [Value.oneCell']) ?_)
      refine ret_cell_tmp rfl rfl rfl rfl (setRow_heap _ _ _ _ _ _ HN.out) Tryz.underlying71 rfl info33 ?_
      exact ⟨by rw [HZ.out]; rfl, below_row1 HB.out (by omega)⟩
def valR (R : Option Item) : Int := match R with | some x => key 1 x | none => 0
set_option maxRecDepth 100000 in
set_option maxHeartbeats 4000000 in
theorem rrate20 (v : Slots) (b : BookT) (id : Int) (w : World) (hb : BookIn w v b) (hk : ItemsOk 2 2000 b.rs) :
    Calls Tryz.prog 60 #[.agg (cellsB v b), .int .i64 id] w fun e w' => e = .returned (.tuple #[.int .i64 (valR (findL (is1 id) b.rs)), .bool (findL (is1 id) b.rs).isSome]) ∧ Below w.heap.size w w' := by
  obtain ⟨RES, hR⟩ : ∃ R, findL (is1 id) b.rs = R := ⟨_, rfl⟩
  rw [hR]
  have hbox := BoxB.new w v b
  have hlo : Below w.heap.size w (w.alloc (.cells (cellsB v b) 27)) := (Below.refl _ w).alloc (Nat.le_refl _) _
  have c0 := hbox.cells.2.2.2.1
  have HROW := Lib.hid hb.rs
  have hkl := hk.1
  have HK := Lib.hid hk.2
  have HR := Lib.hid hR
  unfold cellsB at *
  clear hb hk hbox hR
  generalize b.rs = L at *
  generalize b.hs.length = n0 at *
  generalize b.ss.length = n1 at *
  generalize b.os.length = n2 at *
  generalize b.co = n4 at *
  generalize v.h = a0 at *
  generalize v.ch = c0 at *
  generalize v.s = a1 at *
  generalize v.cs = c1 at *
  generalize v.o = a2 at *
  generalize v.co = c2 at *
  generalize v.r = a at *
  generalize v.cr = c at *
  go_enter Tryz.func60, Tryz.ntmps60
  go_wp2
  refine at_world (Φ := fun W => Below w.heap.size w W ∧ W.cell? ⟨w.heap.size, 3, none⟩ = some (.slice a L.length c)) ⟨hlo, c0⟩ ?_
  rintro W0 ⟨hb, hc⟩
  have HB := Lib.hid hb
  clear hb hlo c0
  go_loopw [6] (fun vi W => ∃ i : Nat, vi = .int .i64 (i : Int) ∧ i ≤ L.length ∧ (∀ y ∈ L.take i, (is1 id) y = false) ∧ W = W0) (fun vi _ => L.length - (intOf vi).toNat)
  case atStart => exact ⟨0, rfl, Nat.zero_le _, fun y hy => by simp at hy, rfl⟩
  case round =>
    obtain ⟨i, rfl, hi, hno, hw⟩ := hrel
    subst hw
    by_cases hlt : i < L.length
    · obtain ⟨x, hx⟩ : ∃ x, L[i]? = some x := ⟨L[i], by simp [hlt]⟩
      obtain ⟨b0, off, rfl, hb0, hcs⟩ := HROW.out.at hx
      obtain ⟨p, q, rfl⟩ := item2 (HK.out _ (List.mem_of_getElem? hx)).1
      have HCS := Lib.hid hcs
      clear hcs
      have k0 := HCS.out wr HB.out 0 p rfl
      have k1 := HCS.out wr HB.out 1 q rfl
      rw [Nat.add_zero] at k0
      by_cases he : p = id
      · have g : (p == id) = true := by rw [beq_iff_eq]; exact he
        have hp : (is1 id) [p, q] = true := by simp [is1, key, he]
        have hz := find_yes hx hp hno
        rw [HR.out] at hz
        have HZ := Lib.hid hz
        clear hz hx hno hp HR HCS HK HROW he
        go_wp2
        go_ret2
        exact ⟨by rw [HZ.out]; rfl, HB.out⟩
      · have g : (p == id) = false := by rw [beq_eq_false_iff_ne]; exact he
        have hp : (is1 id) [p, q] = false := by simp [is1, key, he]
        have HNX := Lib.hid (none_next hx hp hno)
        clear hno hx HCS hp he
        go_wp2
        go_roundw
        case rel => exact ⟨i + 1, by go_num, hlt, HNX.out, by trivial⟩
        case measure => simp [intOf]; omega
    · have hil : i = L.length := by omega
      have hz := find_no (l := L) (p := (is1 id)) (by rw [hil, List.take_length] at hno; exact hno)
      rw [HR.out] at hz
      have HZ := Lib.hid hz
      clear hz hno hil HR HROW HK
      go_wp2
      go_ret2
      exact ⟨by rw [HZ.out]; rfl, HB.out⟩
end Go.Proofs.YtellifcjamedkaaGreat
namespace Go.Proofs.YtellifcjamedkaaGreat
open Go.RowKit Base Base2
theorem find_mem {p : Item → Bool} {l : List Item} {x : Item} (h : findL p l = some x) : x ∈ l := List.mem_of_find?_eq_some h
theorem valH_form {p : Item → Bool} {l : List Item} {m : Nat} (h : ItemsOk 4 m l) : ∃ a b c d, valH (findL p l) = .agg #[.int .i64 a, .int .i64 b, .int .i64 c, .int .i64 d] := by
  cases hf : findL p l with
  | none => exact ⟨0, 0, 0, 0, rfl⟩
  | some x =>
    obtain ⟨a, b, c, d, rfl⟩ := item4 (h.2 x (find_mem hf)).1
    exact ⟨a, b, c, d, rfl⟩
theorem info27 : (Tryz.prog.info? 27).map (·.size) = some 5 := by kernel_rfl
theorem load_book {W : World} {g : Nat} {v : Slots} {b : BookT} (h : BoxB W g v b) : (Instr.loadAt 27 (.pointer (some ⟨g, 0, none⟩))).run Tryz.prog W = .ok (.agg (cellsB v b)) W := by
  have := load_at (P := Tryz.prog) W g 0 27 (cellsB v b).toList _ (fun j u hu => ?_) Tryz.underlying27 rfl (by rw [info27]; rfl)
  · simpa using this
  · rw [Nat.zero_add, h.c j, ← Array.getElem?_toList]; exact hu
set_option maxRecDepth 100000 in
set_option maxHeartbeats 4000000 in
theorem there31 (v : Slots) (b : BookT) (acc sym : Int) (w : World) (hb : BookIn w v b) (hk : BookOk 2000 b) :
    Calls Tryz.prog 30 #[.agg (cellsB v b), .int .i64 acc, .int .i64 sym] w fun e w' => e = .returned (.bool (thereT b acc sym)) ∧ Below w.heap.size w w' := by
  obtain ⟨p, q, r, s, hv⟩ := valH_form (p := is1 acc) hk.hs
  have HH := Lib.hid (fun W hW => rholder18 v b acc W hW hk.hs)
  have HR := Lib.hid (fun W hW => rrate20 v b sym W hW hk.rs)
  rw [hv] at HH
  have HBI := Lib.hid (fun W (h : Below w.heap.size w W) => hb.below h)
  have HLB := Lib.hid (fun W (h : BoxB W w.heap.size v b) => load_book h)
  have HX := Lib.hid (BoxB.new w v b)
  have HLO := Lib.hid (show Below w.heap.size w (w.alloc (.cells (cellsB v b) 27)) from (Below.refl _ w).alloc (Nat.le_refl _) _)
  unfold thereT
  generalize (findL (is1 acc) b.hs).isSome = b1 at *
  generalize (findL (is1 sym) b.rs).isSome = b2 at *
  generalize valR (findL (is1 sym) b.rs) = z at *
  have HI := Lib.hid (show (Tryz.prog.info? 27).map (·.size) = some (cellsB v b).size from info27)
  obtain ⟨cb, hcb⟩ : ∃ c, cellsB v b = c := ⟨_, rfl⟩
  unfold BoxB at HX
  rw [hcb] at HH HR HLO HX HI ⊢
  clear hb hk hv HLB
  have HB0 := Lib.hid (HBI.out _ HLO.out)
  have hsz : w.heap.size < (w.alloc (.cells cb 27)).heap.size := by simp
  go_enter Tryz.func30, Tryz.ntmps30
  go_wp2_with (first
    | ((with_reducible refine atLoad (ty := 27) (x := .tmp 3) rfl ?_); refine wpList_load_row rfl 27 (.tmp 3) rfl w.heap.size rfl 27 cb (0, 0) _ HX2.out Tryz.underlying27 rfl HI.out ?_)
    | ((with_reducible refine atLoad (ty := 27) (x := .tmp 3) rfl ?_); refine wpList_load_row rfl 27 (.tmp 3) rfl w.heap.size rfl 27 cb (0, 0) _ HX.out Tryz.underlying27 rfl HI.out ?_)
    | (go_at_call 59; refine (HH.out _ HB0.out).mono ?_; rintro e w1 ⟨rfl, hb1⟩; have HB1 := Lib.hid (HLO.out.trans (hb1.mono HLO.out.size)); have HX1 := Lib.hid ((hb1.block _ hsz).trans HX.out); have HLT := Lib.hid (Nat.lt_of_lt_of_le hsz hb1.size); clear hb1)
    | ((with_reducible refine atStore (ty := 71) (x := .tmp 7) (y := .tmp 15) rfl ?_); refine wpList_store_row rfl 71 (.tmp 7) (.tmp 15) rfl w1.heap.size #[.int .i64 p, .int .i64 q, .int .i64 r, .int .i64 s] rfl rfl 71 #[.int .i64 0, .int .i64 0, .int .i64 0, .int .i64 0] (heap_alloc_new w1 _) info33 rfl (by simp [Value.oneCell']) ?_; have hbA : Below w1.heap.size w1 ((w1.alloc (.cells #[.int .i64 0, .int .i64 0, .int .i64 0, .int .i64 0] 71)).setRow w1.heap.size #[.int .i64 p, .int .i64 q, .int .i64 r, .int .i64 s]) := below_rowB ((Below.refl _ _).alloc (Nat.le_refl _) _) (Nat.le_refl _); have HX2 := Lib.hid ((hbA.block _ HLT.out).trans HX1.out); have HL2 := Lib.hid (HB1.out.trans (hbA.mono HB1.out.size)); have HB2 := Lib.hid (HBI.out _ HL2.out); clear hbA)
    | (go_at_call 60; refine (HR.out _ HB2.out).mono ?_; rintro e w3 ⟨rfl, hb3⟩; have HB3 := Lib.hid (HL2.out.trans (hb3.mono HL2.out.size)); clear hb3))
  all_goals go_ret
  all_goals exact ⟨ret_bool (by simp_all), HB3.out⟩
end Go.Proofs.YtellifcjamedkaaGreat
