/- The walk of BookFinds. -/
import Derived.Test.YtofmkbijhmbbcaaBkAlive
namespace Go.Proofs.Ytofmkbijhmbbcaa
open Go.RowKit Base Base2

/-- Things of so many numbers of 64 bits each, however many. -/
def ItemsWf (k : Nat) (l : List Item) : Prop := ∀ x ∈ l, x.length = k ∧ ∀ z ∈ x, in6 z
structure BookWf (b : BookT) : Prop where
  hs : ItemsWf 4 b.hs
  ss : ItemsWf 3 b.ss
  os : ItemsWf 6 b.os
  rs : ItemsWf 2 b.rs
  co : in6 b.co
theorem ok_of_great {b : BookT} (h : greatT b = false) (hw : BookWf b) : BookOk 200 b := by
  unfold greatT at h
  simp only [Bool.or_eq_false_iff, decide_eq_false_iff_not] at h
  obtain ⟨⟨⟨h1, h2⟩, h3⟩, h4⟩ := h
  exact ⟨⟨by omega, hw.hs⟩, ⟨by omega, hw.ss⟩, ⟨by omega, hw.os⟩, ⟨by omega, hw.rs⟩, hw.co⟩
/-- A law's book in its box, while the law goes on. -/
structure Bs (K : World → Prop) (w : World) (g : Nat) (v : Slots) (b : BookT) (W : World) : Prop where
  k : K W
  lo : Below w.heap.size w W
  box : BoxB W g v b
  bin : BookIn W v b
theorem lt_blkB {W : World} {g : Nat} {o : Obj} (h : W.heap[g]? = some o) : g < W.heap.size := (Array.getElem?_eq_some_iff.1 h).1
theorem Bs.below {K : World → Prop} (hK : ∀ (W W' : World), K W → Below W.heap.size W W' → K W') {w : World} {g : Nat} {v : Slots} {b : BookT} {W W' : World} (h : Bs K w g v b W) (hb : Below W.heap.size W W') : Bs K w g v b W' :=
  ⟨hK _ _ h.k hb, h.lo.trans (hb.mono h.lo.size), (hb.block _ (lt_blkB h.box)).trans h.box, h.bin.below hb⟩
theorem blk_below {W W' : World} {g : Nat} {o : Obj} (h : W.heap[g]? = some o) (hb : Below W.heap.size W W') : W'.heap[g]? = some o := (hb.block _ (lt_blkB h)).trans h
theorem valO_form {p : Item → Bool} {l : List Item} {m : Nat} (h : ItemsOk 6 m l) : ∃ a b c d e f, valO (findL p l) = .agg #[.int .i64 a, .int .i64 b, .int .i64 c, .int .i64 d, .int .i64 e, .int .i64 f] := by
  cases hf : findL p l with
  | none => exact ⟨0, 0, 0, 0, 0, 0, rfl⟩
  | some x =>
    obtain ⟨a, b, c, d, e, f, rfl⟩ := item6 (h.2 x (find_mem hf)).1
    exact ⟨a, b, c, d, e, f, rfl⟩
theorem cells_4 {W : World} {g : Nat} {T : TypeId} {a b c d : Value} (h : W.heap[g]? = some (.cells #[a, b, c, d] T (0, 0))) : W.cell? ⟨g, 0, none⟩ = some a ∧ W.cell? ⟨g, 1, none⟩ = some b ∧ W.cell? ⟨g, 2, none⟩ = some c ∧ W.cell? ⟨g, 3, none⟩ = some d :=
  ⟨cell_of_row W g 0 _ T (0, 0) h, cell_of_row W g 1 _ T (0, 0) h, cell_of_row W g 2 _ T (0, 0) h, cell_of_row W g 3 _ T (0, 0) h⟩
theorem cells_6 {W : World} {g : Nat} {T : TypeId} {a b c d e f : Value} (h : W.heap[g]? = some (.cells #[a, b, c, d, e, f] T (0, 0))) : W.cell? ⟨g, 0, none⟩ = some a ∧ W.cell? ⟨g, 1, none⟩ = some b ∧ W.cell? ⟨g, 2, none⟩ = some c ∧ W.cell? ⟨g, 3, none⟩ = some d ∧ W.cell? ⟨g, 4, none⟩ = some e ∧ W.cell? ⟨g, 5, none⟩ = some f :=
  ⟨cell_of_row W g 0 _ T (0, 0) h, cell_of_row W g 1 _ T (0, 0) h, cell_of_row W g 2 _ T (0, 0) h, cell_of_row W g 3 _ T (0, 0) h, cell_of_row W g 4 _ T (0, 0) h, cell_of_row W g 5 _ T (0, 0) h⟩
/-- A struct's new box, filled: below it all lies as it lay. -/
theorem below_new (W : World) (cs ks : Array Value) (T : TypeId) : Below W.heap.size W ((W.alloc (.cells cs T)).setRow W.heap.size ks) := below_rowB ((Below.refl _ _).alloc (Nat.le_refl _) _) (Nat.le_refl _)

set_option maxRecDepth 100000 in
set_option maxHeartbeats 8000000 in
theorem bk4 {K : World → Prop} (C : BookC K) (v : Slots) (b : BookT) (acc sym id : Int) (w : World) (hK : K w) (hb : BookIn w v b) (hw : BookWf b) (i1 : in6 acc) (i2 : in6 sym) (i3 : in6 id) :
    Calls Try.prog 4 #[.agg (cellsB v b), .int .i64 acc, .int .i64 sym, .int .i64 id] w fun e w' => e = .returned (.bool true) ∧ Below w.heap.size w w' := by
  have HKP := Lib.hid C.keep
  have hb0 : Below w.heap.size w (w.alloc (.cells (cellsB v b) 27)) := (Below.refl _ w).alloc (Nat.le_refl _) _
  have HS0 := Lib.hid (show Bs K w w.heap.size v b (w.alloc (.cells (cellsB v b) 27)) from ⟨HKP.out _ _ hK hb0, hb0, BoxB.new w v b, hb.below hb0⟩)
  have HAL := Lib.hid (fun W (h : K W) => alive7B C W h)
  have HGR := Lib.hid (fun W => great8 v b W)
  have HI := Lib.hid (show (Try.prog.info? 27).map (·.size) = some (cellsB v b).size from info27)
  cases hg : greatT b with
  | true =>
    rw [hg] at HGR
    obtain ⟨cb, hcb⟩ : ∃ c, cellsB v b = c := ⟨_, rfl⟩
    have HX := Lib.hid (fun W (h : Bs K w w.heap.size v b W) => (show W.heap[w.heap.size]? = some (.cells (cellsB v b) 27 (0, 0)) from h.box))
    rw [hcb] at HS0 HGR HI HX ⊢
    clear hg hb hw i1 i2 i3 hb0 hcb C hK
    go_enter Try.func4, Try.ntmps4
    go_wp2_with (first
      | (go_at_call 7; refine (HAL.out _ HS0.out.k).mono ?_; rintro e w1 ⟨rfl, hb1⟩; have HS1 := Lib.hid (HS0.out.below HKP.out hb1); clear hb1 HS0)
      | ((with_reducible refine atLoad (ty := 27) (x := .tmp 4) rfl ?_); refine wpList_load_row rfl 27 (.tmp 4) rfl w.heap.size rfl 27 cb (0, 0) _ (HX.out _ HS1.out) Try.underlying27 rfl HI.out ?_)
      | (go_at_call 8; refine (HGR.out _).mono ?_; rintro e w2 ⟨rfl, hb2⟩; have HS2 := Lib.hid (HS1.out.below HKP.out hb2); clear hb2))
    go_ret
    exact ⟨rfl, HS2.out.lo⟩
  | false =>
    have hk := ok_of_great hg hw
    have HRI := Lib.hid (fun W (h : Bs K w w.heap.size v b W) => rise14 v b W h.bin (hk.mono (by omega)))
    rw [hg] at HGR
    clear hg
    cases hr : riseT b with
    | false =>
      rw [hr] at HRI
      obtain ⟨cb, hcb⟩ : ∃ c, cellsB v b = c := ⟨_, rfl⟩
      have HX := Lib.hid (fun W (h : Bs K w w.heap.size v b W) => (show W.heap[w.heap.size]? = some (.cells (cellsB v b) 27 (0, 0)) from h.box))
      rw [hcb] at HS0 HGR HRI HI HX ⊢
      clear hr hb hw hk i1 i2 i3 hb0 hcb C hK
      go_enter Try.func4, Try.ntmps4
      go_wp2_with (first
        | (go_at_call 7; refine (HAL.out _ HS0.out.k).mono ?_; rintro e w1 ⟨rfl, hb1⟩; have HS1 := Lib.hid (HS0.out.below HKP.out hb1); clear hb1 HS0)
        | ((with_reducible refine atLoad (ty := 27) (x := .tmp 4) rfl ?_); refine wpList_load_rowG (by rfl) 27 (.tmp 4) rfl w.heap.size rfl 27 cb (0, 0) _ (HX.out _ HS2.out) Try.underlying27 rfl HI.out ?_)
        | ((with_reducible refine atLoad (ty := 27) (x := .tmp 4) rfl ?_); refine wpList_load_row rfl 27 (.tmp 4) rfl w.heap.size rfl 27 cb (0, 0) _ (HX.out _ HS1.out) Try.underlying27 rfl HI.out ?_)
        | (go_at_call 8; refine (HGR.out _).mono ?_; rintro e w2 ⟨rfl, hb2⟩; have HS2 := Lib.hid (HS1.out.below HKP.out hb2); clear hb2)
        | (go_at_call 14; refine (HRI.out _ HS2.out).mono ?_; rintro e w3 ⟨rfl, hb3⟩; have HS3 := Lib.hid (HS2.out.below HKP.out hb3); clear hb3))
      go_ret
      exact ⟨rfl, HS3.out.lo⟩
    | true =>
      rw [hr] at HRI
      have hk4 : BookOk 400 b := hk.mono (by omega)
      obtain ⟨p, q, r, s, hv⟩ := valH_form (p := is1 acc) hk.hs
      obtain ⟨p1, q1, r1, s1, t1, z1, ho⟩ := valO_form (p := is1 id) hk.os
      have HH := Lib.hid (fun W (h : Bs K w w.heap.size v b W) => C.holder v b acc W h.k h.bin hk4 hr i1)
      have HO := Lib.hid (fun W (h : Bs K w w.heap.size v b W) => C.openO v b id W h.k h.bin hk4 hr i3)
      have HR := Lib.hid (fun W (h : Bs K w w.heap.size v b W) => C.rate v b sym W h.k h.bin hk4 hr i2)
      have HT := Lib.hid (fun W (h : Bs K w w.heap.size v b W) => C.stake v b acc sym W h.k h.bin hk4 hr i1 i2)
      have RH := Lib.hid (fun W (h : Bs K w w.heap.size v b W) => rholder18 v b acc W h.bin (hk.hs.mono (by omega)))
      have RO := Lib.hid (fun W (h : Bs K w w.heap.size v b W) => ropen19 v b id W h.bin (hk.os.mono (by omega)))
      have RR := Lib.hid (fun W (h : Bs K w w.heap.size v b W) => rrate20 v b sym W h.bin (hk.rs.mono (by omega)))
      have RT := Lib.hid (fun W (h : Bs K w w.heap.size v b W) => rstake22 v b acc sym W h.bin (hk.ss.mono (by omega)))
      rw [hv] at HH RH
      rw [ho] at HO RO
      generalize (findL (is1 acc) b.hs).isSome = b1 at *
      generalize (findL (is1 id) b.os).isSome = b2 at *
      generalize (findL (is1 sym) b.rs).isSome = b3 at *
      generalize valR (findL (is1 sym) b.rs) = zr at *
      generalize valS (findL (is2 acc sym) b.ss) = zs at *
      obtain ⟨cb, hcb⟩ : ∃ c, cellsB v b = c := ⟨_, rfl⟩
      have HX := Lib.hid (fun W (h : Bs K w w.heap.size v b W) => (show W.heap[w.heap.size]? = some (.cells (cellsB v b) 27 (0, 0)) from h.box))
      have HXC := Lib.hid (fun W (h : Bs K w w.heap.size v b W) => (show (W.cell? ⟨w.heap.size, 0, none⟩ = some (.slice v.h b.hs.length v.ch) ∧ W.cell? ⟨w.heap.size, 1, none⟩ = some (.slice v.s b.ss.length v.cs) ∧ W.cell? ⟨w.heap.size, 2, none⟩ = some (.slice v.o b.os.length v.co) ∧ W.cell? ⟨w.heap.size, 3, none⟩ = some (.slice v.r b.rs.length v.cr) ∧ W.cell? ⟨w.heap.size, 4, none⟩ = some (.int .i64 b.co)) from h.box.cells))
      have HT2 := Lib.hid HT.out
      have RT2 := Lib.hid RT.out
      unfold cellsB at HT2 RT2
      rw [hcb] at HS0 HGR HRI HI HX HH HO HR HT RH RO RR RT ⊢
      clear hr hb hw hk hk4 i1 i2 i3 hb0 hcb C hK hv ho HT RT
      have hE4 : ∀ W, (binOp .eql 33 (.agg #[.int .i64 p, .int .i64 q, .int .i64 r, .int .i64 s]) (.agg #[.int .i64 p, .int .i64 q, .int .i64 r, .int .i64 s])).run Try.prog W = .ok (.bool true) W := fun W => by have h := eql_hold p q r s p q r s W; simpa using h
      have hE6 : ∀ W, (binOp .eql 37 (.agg #[.int .i64 p1, .int .i64 q1, .int .i64 r1, .int .i64 s1, .int .i64 t1, .int .i64 z1]) (.agg #[.int .i64 p1, .int .i64 q1, .int .i64 r1, .int .i64 s1, .int .i64 t1, .int .i64 z1])).run Try.prog W = .ok (.bool true) W := fun W => by have h := eql_open p1 q1 r1 s1 t1 z1 p1 q1 r1 s1 t1 z1 W; simpa using h
      go_enter Try.func4, Try.ntmps4
      go_upto_region 5 with (first | (go_at_call 7; refine (HAL.out _ HS0.out.k).mono ?_; rintro e w1 ⟨rfl, hb1⟩; have HS1 := Lib.hid (HS0.out.below HKP.out hb1); clear hb1 HS0) | ((with_reducible refine atLoad (ty := 27) (x := .tmp 4) rfl ?_); refine wpList_load_rowG (by rfl) 27 (.tmp 4) rfl w.heap.size rfl 27 cb (0, 0) _ (HX.out _ HS2.out) Try.underlying27 rfl HI.out ?_) | ((with_reducible refine atLoad (ty := 27) (x := .tmp 4) rfl ?_); refine wpList_load_row rfl 27 (.tmp 4) rfl w.heap.size rfl 27 cb (0, 0) _ (HX.out _ HS1.out) Try.underlying27 rfl HI.out ?_) | (go_at_call 8; refine (HGR.out _).mono ?_; rintro e w2 ⟨rfl, hb2⟩; have HS2 := Lib.hid (HS1.out.below HKP.out hb2); clear hb2) | (go_at_call 14; refine (HRI.out _ HS2.out).mono ?_; rintro e w3 ⟨rfl, hb3⟩; have HS3 := Lib.hid (HS2.out.below HKP.out hb3); clear hb3))
      refine at_world (Φ := fun W => Bs K w w.heap.size v b W) HS3.out ?_
      clear HS3 HS2 HS1 HGR HRI HAL
      rintro W5 hs5
      have HS := Lib.hid hs5
      clear hs5
      go_upto_region 6 with (first | ((with_reducible refine atStore (ty := 33) (x := .tmp 9) (y := .tmp 34) rfl ?_); refine wpList_store_row rfl 33 (.tmp 9) (.tmp 34) rfl w5.heap.size #[.int .i64 p, .int .i64 q, .int .i64 r, .int .i64 s] rfl rfl 33 #[.int .i64 0, .int .i64 0, .int .i64 0, .int .i64 0] (heap_alloc_new w5 _) info33 rfl (by simp [Value.oneCell']) ?_) | ((with_reducible refine atLoad (ty := 27) (x := .tmp 4) rfl ?_); refine wpList_load_row rfl 27 (.tmp 4) rfl w.heap.size rfl 27 cb (0, 0) _ (HX.out _ HS.out) Try.underlying27 rfl HI.out ?_) | (go_at_call 15; refine (HH.out _ HS.out).mono ?_; rintro e w5 ⟨rfl, hb5⟩))
      have hbB := hb5.trans ((below_new w5 #[.int .i64 0, .int .i64 0, .int .i64 0, .int .i64 0] #[.int .i64 p, .int .i64 q, .int .i64 r, .int .i64 s] 33).mono hb5.size)
      refine at_world (Φ := fun W => Bs K w w.heap.size v b W ∧ W.heap[w5.heap.size]? = some (.cells #[.int .i64 p, .int .i64 q, .int .i64 r, .int .i64 s] 33 (0, 0))) ⟨HS.out.below HKP.out hbB, setRow_heap _ _ _ _ _ _ (heap_alloc_new w5 _)⟩ ?_
      clear hbB hb5 HS  HH
      rintro W6 ⟨hs, hf5⟩
      have HS := Lib.hid hs
      have HF5 := Lib.hid hf5
      clear hs hf5
      go_upto_region 7 with (first | ((with_reducible refine atStore (ty := 37) (x := .tmp 11) (y := .tmp 40) rfl ?_); refine wpList_store_row rfl 37 (.tmp 11) (.tmp 40) rfl w6.heap.size #[.int .i64 p1, .int .i64 q1, .int .i64 r1, .int .i64 s1, .int .i64 t1, .int .i64 z1] rfl rfl 37 #[.int .i64 0, .int .i64 0, .int .i64 0, .int .i64 0, .int .i64 0, .int .i64 0] (heap_alloc_new w6 _) info37 rfl (by simp [Value.oneCell']) ?_) | ((with_reducible refine atLoad (ty := 27) (x := .tmp 4) rfl ?_); refine wpList_load_row rfl 27 (.tmp 4) rfl w.heap.size rfl 27 cb (0, 0) _ (HX.out _ HS.out) Try.underlying27 rfl HI.out ?_) | (go_at_call 16; refine (HO.out _ HS.out).mono ?_; rintro e w6 ⟨rfl, hb6⟩))
      have hbB := hb6.trans ((below_new w6 #[.int .i64 0, .int .i64 0, .int .i64 0, .int .i64 0, .int .i64 0, .int .i64 0] #[.int .i64 p1, .int .i64 q1, .int .i64 r1, .int .i64 s1, .int .i64 t1, .int .i64 z1] 37).mono hb6.size)
      refine at_world (Φ := fun W => Bs K w w.heap.size v b W ∧ W.heap[w5.heap.size]? = some (.cells #[.int .i64 p, .int .i64 q, .int .i64 r, .int .i64 s] 33 (0, 0)) ∧ W.heap[w6.heap.size]? = some (.cells #[.int .i64 p1, .int .i64 q1, .int .i64 r1, .int .i64 s1, .int .i64 t1, .int .i64 z1] 37 (0, 0))) ⟨HS.out.below HKP.out hbB, blk_below HF5.out hbB, setRow_heap _ _ _ _ _ _ (heap_alloc_new w6 _)⟩ ?_
      clear hbB hb6 HS HF5 HO
      rintro W7 ⟨hs, hf5, hf6⟩
      have HS := Lib.hid hs
      have HF5 := Lib.hid hf5
      have HF6 := Lib.hid hf6
      clear hs hf5 hf6
      go_upto_region 8 with (first | ((with_reducible refine atLoad (ty := 27) (x := .tmp 4) rfl ?_); refine wpList_load_row rfl 27 (.tmp 4) rfl w.heap.size rfl 27 cb (0, 0) _ (HX.out _ HS.out) Try.underlying27 rfl HI.out ?_) | (go_at_call 17; refine (HR.out _ HS.out).mono ?_; rintro e w7 ⟨rfl, hb7⟩))
      have hbB := hb7
      refine at_world (Φ := fun W => Bs K w w.heap.size v b W ∧ W.heap[w5.heap.size]? = some (.cells #[.int .i64 p, .int .i64 q, .int .i64 r, .int .i64 s] 33 (0, 0)) ∧ W.heap[w6.heap.size]? = some (.cells #[.int .i64 p1, .int .i64 q1, .int .i64 r1, .int .i64 s1, .int .i64 t1, .int .i64 z1] 37 (0, 0))) ⟨HS.out.below HKP.out hbB, blk_below HF5.out hbB, blk_below HF6.out hbB⟩ ?_
      clear hbB hb7 HS HF5 HF6 HR
      rintro W8 ⟨hs, hf5, hf6⟩
      have HS := Lib.hid hs
      have HF5 := Lib.hid hf5
      have HF6 := Lib.hid hf6
      clear hs hf5 hf6
      go_upto_region 9 with (first | ((with_reducible refine atStore (ty := 33) (x := .tmp 15) (y := .tmp 52) rfl ?_); refine wpList_store_row rfl 33 (.tmp 15) (.tmp 52) rfl w8.heap.size #[.int .i64 p, .int .i64 q, .int .i64 r, .int .i64 s] rfl rfl 33 #[.int .i64 0, .int .i64 0, .int .i64 0, .int .i64 0] (heap_alloc_new w8 _) info33 rfl (by simp [Value.oneCell']) ?_) | ((with_reducible refine atLoad (ty := 27) (x := .tmp 4) rfl ?_); refine wpList_load_row rfl 27 (.tmp 4) rfl w.heap.size rfl 27 cb (0, 0) _ (HX.out _ HS.out) Try.underlying27 rfl HI.out ?_) | (go_at_call 18; refine (RH.out _ HS.out).mono ?_; rintro e w8 ⟨rfl, hb8⟩))
      have hbB := hb8.trans ((below_new w8 #[.int .i64 0, .int .i64 0, .int .i64 0, .int .i64 0] #[.int .i64 p, .int .i64 q, .int .i64 r, .int .i64 s] 33).mono hb8.size)
      refine at_world (Φ := fun W => Bs K w w.heap.size v b W ∧ W.heap[w5.heap.size]? = some (.cells #[.int .i64 p, .int .i64 q, .int .i64 r, .int .i64 s] 33 (0, 0)) ∧ W.heap[w6.heap.size]? = some (.cells #[.int .i64 p1, .int .i64 q1, .int .i64 r1, .int .i64 s1, .int .i64 t1, .int .i64 z1] 37 (0, 0)) ∧ W.heap[w8.heap.size]? = some (.cells #[.int .i64 p, .int .i64 q, .int .i64 r, .int .i64 s] 33 (0, 0))) ⟨HS.out.below HKP.out hbB, blk_below HF5.out hbB, blk_below HF6.out hbB, setRow_heap _ _ _ _ _ _ (heap_alloc_new w8 _)⟩ ?_
      clear hbB hb8 HS HF5 HF6 RH
      rintro W9 ⟨hs, hf5, hf6, hf8⟩
      have HS := Lib.hid hs
      have HF5 := Lib.hid hf5
      have HF6 := Lib.hid hf6
      have HF8 := Lib.hid hf8
      clear hs hf5 hf6 hf8
      go_upto_region 10 with (first | ((with_reducible refine atStore (ty := 37) (x := .tmp 17) (y := .tmp 58) rfl ?_); refine wpList_store_row rfl 37 (.tmp 17) (.tmp 58) rfl w9.heap.size #[.int .i64 p1, .int .i64 q1, .int .i64 r1, .int .i64 s1, .int .i64 t1, .int .i64 z1] rfl rfl 37 #[.int .i64 0, .int .i64 0, .int .i64 0, .int .i64 0, .int .i64 0, .int .i64 0] (heap_alloc_new w9 _) info37 rfl (by simp [Value.oneCell']) ?_) | ((with_reducible refine atLoad (ty := 27) (x := .tmp 4) rfl ?_); refine wpList_load_row rfl 27 (.tmp 4) rfl w.heap.size rfl 27 cb (0, 0) _ (HX.out _ HS.out) Try.underlying27 rfl HI.out ?_) | (go_at_call 19; refine (RO.out _ HS.out).mono ?_; rintro e w9 ⟨rfl, hb9⟩))
      have hbB := hb9.trans ((below_new w9 #[.int .i64 0, .int .i64 0, .int .i64 0, .int .i64 0, .int .i64 0, .int .i64 0] #[.int .i64 p1, .int .i64 q1, .int .i64 r1, .int .i64 s1, .int .i64 t1, .int .i64 z1] 37).mono hb9.size)
      refine at_world (Φ := fun W => Bs K w w.heap.size v b W ∧ W.heap[w5.heap.size]? = some (.cells #[.int .i64 p, .int .i64 q, .int .i64 r, .int .i64 s] 33 (0, 0)) ∧ W.heap[w6.heap.size]? = some (.cells #[.int .i64 p1, .int .i64 q1, .int .i64 r1, .int .i64 s1, .int .i64 t1, .int .i64 z1] 37 (0, 0)) ∧ W.heap[w8.heap.size]? = some (.cells #[.int .i64 p, .int .i64 q, .int .i64 r, .int .i64 s] 33 (0, 0)) ∧ W.heap[w9.heap.size]? = some (.cells #[.int .i64 p1, .int .i64 q1, .int .i64 r1, .int .i64 s1, .int .i64 t1, .int .i64 z1] 37 (0, 0))) ⟨HS.out.below HKP.out hbB, blk_below HF5.out hbB, blk_below HF6.out hbB, blk_below HF8.out hbB, setRow_heap _ _ _ _ _ _ (heap_alloc_new w9 _)⟩ ?_
      clear hbB hb9 HS HF5 HF6 HF8 RO
      rintro W10 ⟨hs, hf5, hf6, hf8, hf9⟩
      have HS := Lib.hid hs
      have HF5 := Lib.hid hf5
      have HF6 := Lib.hid hf6
      have HF8 := Lib.hid hf8
      have HF9 := Lib.hid hf9
      clear hs hf5 hf6 hf8 hf9
      go_upto_region 11 with (first | ((with_reducible refine atLoad (ty := 27) (x := .tmp 4) rfl ?_); refine wpList_load_row rfl 27 (.tmp 4) rfl w.heap.size rfl 27 cb (0, 0) _ (HX.out _ HS.out) Try.underlying27 rfl HI.out ?_) | (go_at_call 20; refine (RR.out _ HS.out).mono ?_; rintro e w10 ⟨rfl, hb10⟩))
      have hbB := hb10
      refine at_world (Φ := fun W => Bs K w w.heap.size v b W ∧ W.heap[w5.heap.size]? = some (.cells #[.int .i64 p, .int .i64 q, .int .i64 r, .int .i64 s] 33 (0, 0)) ∧ W.heap[w6.heap.size]? = some (.cells #[.int .i64 p1, .int .i64 q1, .int .i64 r1, .int .i64 s1, .int .i64 t1, .int .i64 z1] 37 (0, 0)) ∧ W.heap[w8.heap.size]? = some (.cells #[.int .i64 p, .int .i64 q, .int .i64 r, .int .i64 s] 33 (0, 0)) ∧ W.heap[w9.heap.size]? = some (.cells #[.int .i64 p1, .int .i64 q1, .int .i64 r1, .int .i64 s1, .int .i64 t1, .int .i64 z1] 37 (0, 0))) ⟨HS.out.below HKP.out hbB, blk_below HF5.out hbB, blk_below HF6.out hbB, blk_below HF8.out hbB, blk_below HF9.out hbB⟩ ?_
      clear hbB hb10 HS HF5 HF6 HF8 HF9 RR
      rintro W11 ⟨hs, hf5, hf6, hf8, hf9⟩
      have HS := Lib.hid hs
      have HF5 := Lib.hid hf5
      have HF6 := Lib.hid hf6
      have HF8 := Lib.hid hf8
      have HF9 := Lib.hid hf9
      clear hs hf5 hf6 hf8 hf9
      have HSd := Lib.hid (HS.out.below HKP.out (below_drews 1))
      refine wp_region_held_drew (S := fun W => Bs K w w.heap.size v b W ∧ W.heap[w5.heap.size]? = some (.cells #[.int .i64 p, .int .i64 q, .int .i64 r, .int .i64 s] 33 (0, 0)) ∧ W.heap[w6.heap.size]? = some (.cells #[.int .i64 p1, .int .i64 q1, .int .i64 r1, .int .i64 s1, .int .i64 t1, .int .i64 z1] 37 (0, 0)) ∧ W.heap[w8.heap.size]? = some (.cells #[.int .i64 p, .int .i64 q, .int .i64 r, .int .i64 s] 33 (0, 0)) ∧ W.heap[w9.heap.size]? = some (.cells #[.int .i64 p1, .int .i64 q1, .int .i64 r1, .int .i64 s1, .int .i64 t1, .int .i64 z1] 37 (0, 0))) (by kernel_rfl) (⟨HSd.out, HF5.out, HF6.out, HF8.out, HF9.out⟩) (fun hS => ?_)
      refine wpAnyH_take (i := 0) (v := .agg #[.int .i64 p, .int .i64 q, .int .i64 r, .int .i64 s]) rfl (by kernel_rfl) (by kernel_rfl) (by kernel_rfl) (fun _ _ _ h => h) (Or.inl ⟨by simp [Region.wanted], fun W hW => by obtain ⟨k0, k1, k2, k3⟩ := cells_4 hW.2.1; go_simp⟩) hS ?_
      simp only [List.getElem_toArray, List.getElem_cons_zero, Act.put, List.setIfInBounds_toArray, List.set_cons_zero, List.set_cons_succ]
      refine wpAnyH_take (i := 1) (v := .agg #[.int .i64 p, .int .i64 q, .int .i64 r, .int .i64 s]) rfl (by kernel_rfl) (by kernel_rfl) (by kernel_rfl) (fun _ _ _ h => h) (Or.inl ⟨by simp [Region.wanted], fun W hW => by obtain ⟨k0, k1, k2, k3⟩ := cells_4 hW.2.2.2.1; go_simp⟩) hS ?_
      simp only [List.getElem_toArray, List.getElem_cons_zero, List.getElem_cons_succ, Act.put, List.setIfInBounds_toArray, List.set_cons_zero, List.set_cons_succ]
      refine wpAnyH_take (i := 2) (v := .bool true) rfl (by kernel_rfl) (by kernel_rfl) (by kernel_rfl) (fun _ _ _ h => h) (Or.inl ⟨by simp [Region.wanted], fun W _ => by go_simp⟩) hS ?_
      simp only [List.getElem_toArray, List.getElem_cons_zero, List.getElem_cons_succ, Act.put, List.setIfInBounds_toArray, List.set_cons_zero, List.set_cons_succ]
      refine wpAnyH_take (i := 3) (v := .bool true) rfl (by kernel_rfl) (by kernel_rfl) (by kernel_rfl) (fun _ _ _ h => h) (Or.inl ⟨by simp [Region.wanted], fun W _ => by go_simp⟩) hS ?_
      simp only [List.getElem_toArray, List.getElem_cons_zero, List.getElem_cons_succ, Act.put, List.setIfInBounds_toArray, List.set_cons_zero, List.set_cons_succ]
      refine wpAnyH_take (i := 4) (v := .bool b1) rfl (by kernel_rfl) (by kernel_rfl) (by kernel_rfl) (fun _ _ _ h => h) (Or.inl ⟨by rfl, fun W _ => by go_simp⟩) hS ?_
      simp only [List.getElem_toArray, List.getElem_cons_zero, List.getElem_cons_succ, Act.put, List.setIfInBounds_toArray, List.set_cons_zero, List.set_cons_succ]
      refine wpAnyH_take (i := 5) (v := .bool b1) rfl (by kernel_rfl) (by kernel_rfl) (by kernel_rfl) (fun _ _ _ h => h) (Or.inl ⟨by rfl, fun W _ => by go_simp⟩) hS ?_
      simp only [List.getElem_toArray, List.getElem_cons_zero, List.getElem_cons_succ, Act.put, List.setIfInBounds_toArray, List.set_cons_zero, List.set_cons_succ]
      refine wpAnyH_take (i := 6) (v := .bool true) rfl (by kernel_rfl) (by kernel_rfl) (by kernel_rfl) (fun _ _ _ h => h) (Or.inl ⟨by rfl, fun W _ => by go_simp⟩) hS ?_
      simp only [List.getElem_toArray, List.getElem_cons_zero, List.getElem_cons_succ, Act.put, List.setIfInBounds_toArray, List.set_cons_zero, List.set_cons_succ]
      refine wpAnyH_take (i := 7) (v := .bool true) rfl (by kernel_rfl) (by kernel_rfl) (by kernel_rfl) (fun _ _ _ h => h) (Or.inl ⟨by simp [Region.wanted], fun W _ => by go_simp⟩) hS ?_
      simp only [List.getElem_toArray, List.getElem_cons_zero, List.getElem_cons_succ, Act.put, List.setIfInBounds_toArray, List.set_cons_zero, List.set_cons_succ]
      refine wpAnyH_take (i := 8) (v := .bool true) rfl (by kernel_rfl) (by kernel_rfl) (by kernel_rfl) (fun _ _ _ h => h) (Or.inl ⟨by simp [Region.wanted], fun W _ => by go_simp⟩) hS ?_
      simp only [List.getElem_toArray, List.getElem_cons_zero, List.getElem_cons_succ, Act.put, List.setIfInBounds_toArray, List.set_cons_zero, List.set_cons_succ]
      refine wpAnyH_take (i := 9) (v := .agg #[.int .i64 p1, .int .i64 q1, .int .i64 r1, .int .i64 s1, .int .i64 t1, .int .i64 z1]) rfl (by kernel_rfl) (by kernel_rfl) (by kernel_rfl) (fun _ _ _ h => h) (Or.inl ⟨by rfl, fun W hW => by obtain ⟨k0, k1, k2, k3, k4, k5⟩ := cells_6 hW.2.2.1; go_simp⟩) hS ?_
      simp only [List.getElem_toArray, List.getElem_cons_zero, List.getElem_cons_succ, Act.put, List.setIfInBounds_toArray, List.set_cons_zero, List.set_cons_succ]
      refine wpAnyH_take (i := 10) (v := .agg #[.int .i64 p1, .int .i64 q1, .int .i64 r1, .int .i64 s1, .int .i64 t1, .int .i64 z1]) rfl (by kernel_rfl) (by kernel_rfl) (by kernel_rfl) (fun _ _ _ h => h) (Or.inl ⟨by rfl, fun W hW => by obtain ⟨k0, k1, k2, k3, k4, k5⟩ := cells_6 hW.2.2.2.2; go_simp⟩) hS ?_
      simp only [List.getElem_toArray, List.getElem_cons_zero, List.getElem_cons_succ, Act.put, List.setIfInBounds_toArray, List.set_cons_zero, List.set_cons_succ]
      refine wpAnyH_take (i := 11) (v := .bool true) rfl (by kernel_rfl) (by kernel_rfl) (by kernel_rfl) (fun _ _ _ h => h) (Or.inl ⟨by rfl, fun W _ => by go_simp⟩) hS ?_
      simp only [List.getElem_toArray, List.getElem_cons_zero, List.getElem_cons_succ, Act.put, List.setIfInBounds_toArray, List.set_cons_zero, List.set_cons_succ]
      refine wpAnyH_take (i := 12) (v := .bool true) rfl (by kernel_rfl) (by kernel_rfl) (by kernel_rfl) (fun _ _ _ h => h) (Or.inl ⟨by simp [Region.wanted], fun W _ => by go_simp⟩) hS ?_
      simp only [List.getElem_toArray, List.getElem_cons_zero, List.getElem_cons_succ, Act.put, List.setIfInBounds_toArray, List.set_cons_zero, List.set_cons_succ]
      refine wpAnyH_take (i := 13) (v := .bool true) rfl (by kernel_rfl) (by kernel_rfl) (by kernel_rfl) (fun _ _ _ h => h) (Or.inl ⟨by simp [Region.wanted], fun W _ => by go_simp⟩) hS ?_
      simp only [List.getElem_toArray, List.getElem_cons_zero, List.getElem_cons_succ, Act.put, List.setIfInBounds_toArray, List.set_cons_zero, List.set_cons_succ]
      refine wpAnyH_take (i := 14) (v := .bool b2) rfl (by kernel_rfl) (by kernel_rfl) (by kernel_rfl) (fun _ _ _ h => h) (Or.inl ⟨by rfl, fun W _ => by go_simp⟩) hS ?_
      simp only [List.getElem_toArray, List.getElem_cons_zero, List.getElem_cons_succ, Act.put, List.setIfInBounds_toArray, List.set_cons_zero, List.set_cons_succ]
      refine wpAnyH_take (i := 15) (v := .bool b2) rfl (by kernel_rfl) (by kernel_rfl) (by kernel_rfl) (fun _ _ _ h => h) (Or.inl ⟨by rfl, fun W _ => by go_simp⟩) hS ?_
      simp only [List.getElem_toArray, List.getElem_cons_zero, List.getElem_cons_succ, Act.put, List.setIfInBounds_toArray, List.set_cons_zero, List.set_cons_succ]
      refine wpAnyH_take (i := 16) (v := .bool true) rfl (by kernel_rfl) (by kernel_rfl) (by kernel_rfl) (fun _ _ _ h => h) (Or.inl ⟨by rfl, fun W _ => by go_simp⟩) hS ?_
      simp only [List.getElem_toArray, List.getElem_cons_zero, List.getElem_cons_succ, Act.put, List.setIfInBounds_toArray, List.set_cons_zero, List.set_cons_succ]
      refine wpAnyH_take (i := 17) (v := .bool true) rfl (by kernel_rfl) (by kernel_rfl) (by kernel_rfl) (fun _ _ _ h => h) (Or.inl ⟨by simp [Region.wanted], fun W _ => by go_simp⟩) hS ?_
      simp only [List.getElem_toArray, List.getElem_cons_zero, List.getElem_cons_succ, Act.put, List.setIfInBounds_toArray, List.set_cons_zero, List.set_cons_succ]
      refine wpAnyH_take (i := 18) (v := .bool true) rfl (by kernel_rfl) (by kernel_rfl) (by kernel_rfl) (fun _ _ _ h => h) (Or.inl ⟨by simp [Region.wanted], fun W _ => by go_simp⟩) hS ?_
      simp only [List.getElem_toArray, List.getElem_cons_zero, List.getElem_cons_succ, Act.put, List.setIfInBounds_toArray, List.set_cons_zero, List.set_cons_succ]
      refine wpAnyH_take (i := 19) (v := .int .i64 zr) rfl (by kernel_rfl) (by kernel_rfl) (by kernel_rfl) (fun _ _ _ h => h) (Or.inl ⟨by rfl, fun W _ => by go_simp⟩) hS ?_
      simp only [List.getElem_toArray, List.getElem_cons_zero, List.getElem_cons_succ, Act.put, List.setIfInBounds_toArray, List.set_cons_zero, List.set_cons_succ]
      refine wpAnyH_take (i := 20) (v := .int .i64 zr) rfl (by kernel_rfl) (by kernel_rfl) (by kernel_rfl) (fun _ _ _ h => h) (Or.inl ⟨by rfl, fun W _ => by go_simp⟩) hS ?_
      simp only [List.getElem_toArray, List.getElem_cons_zero, List.getElem_cons_succ, Act.put, List.setIfInBounds_toArray, List.set_cons_zero, List.set_cons_succ]
      refine wpAnyH_take (i := 21) (v := .bool true) rfl (by kernel_rfl) (by kernel_rfl) (by kernel_rfl) (fun _ _ _ h => h) (Or.inl ⟨by rfl, fun W _ => by go_simp⟩) hS ?_
      simp only [List.getElem_toArray, List.getElem_cons_zero, List.getElem_cons_succ, Act.put, List.setIfInBounds_toArray, List.set_cons_zero, List.set_cons_succ]
      refine wpAnyH_take (i := 22) (v := .bool true) rfl (by kernel_rfl) (by kernel_rfl) (by kernel_rfl) (fun _ _ _ h => h) (Or.inl ⟨by simp [Region.wanted], fun W _ => by go_simp⟩) hS ?_
      simp only [List.getElem_toArray, List.getElem_cons_zero, List.getElem_cons_succ, Act.put, List.setIfInBounds_toArray, List.set_cons_zero, List.set_cons_succ]
      refine wpAnyH_take (i := 23) (v := .bool true) rfl (by kernel_rfl) (by kernel_rfl) (by kernel_rfl) (fun _ _ _ h => h) (Or.inl ⟨by simp [Region.wanted], fun W _ => by go_simp⟩) hS ?_
      simp only [List.getElem_toArray, List.getElem_cons_zero, List.getElem_cons_succ, Act.put, List.setIfInBounds_toArray, List.set_cons_zero, List.set_cons_succ]
      refine wpAnyH_take (i := 24) (v := .bool b3) rfl (by kernel_rfl) (by kernel_rfl) (by kernel_rfl) (fun _ _ _ h => h) (Or.inl ⟨by rfl, fun W _ => by go_simp⟩) hS ?_
      simp only [List.getElem_toArray, List.getElem_cons_zero, List.getElem_cons_succ, Act.put, List.setIfInBounds_toArray, List.set_cons_zero, List.set_cons_succ]
      refine wpAnyH_take (i := 25) (v := .bool b3) rfl (by kernel_rfl) (by kernel_rfl) (by kernel_rfl) (fun _ _ _ h => h) (Or.inl ⟨by rfl, fun W _ => by go_simp⟩) hS ?_
      simp only [List.getElem_toArray, List.getElem_cons_zero, List.getElem_cons_succ, Act.put, List.setIfInBounds_toArray, List.set_cons_zero, List.set_cons_succ]
      refine wpAnyH_take (i := 26) (v := .bool true) rfl (by kernel_rfl) (by kernel_rfl) (by kernel_rfl) (fun _ _ _ h => h) (Or.inl ⟨by rfl, fun W _ => by go_simp⟩) hS ?_
      simp only [List.getElem_toArray, List.getElem_cons_zero, List.getElem_cons_succ, Act.put, List.setIfInBounds_toArray, List.set_cons_zero, List.set_cons_succ]
      refine wpAnyH_take (i := 27) (v := .bool true) rfl (by kernel_rfl) (by kernel_rfl) (by kernel_rfl) (fun _ _ _ h => h) (Or.inl ⟨by simp [Region.wanted], fun W _ => by go_simp⟩) hS ?_
      simp only [List.getElem_toArray, List.getElem_cons_zero, List.getElem_cons_succ, Act.put, List.setIfInBounds_toArray, List.set_cons_zero, List.set_cons_succ]
      refine wpAnyH_take (i := 28) (v := .bool true) rfl (by kernel_rfl) (by kernel_rfl) (by kernel_rfl) (fun _ _ _ h => h) (Or.inl ⟨by simp [Region.wanted], fun W _ => by go_simp⟩) hS ?_
      simp only [List.getElem_toArray, List.getElem_cons_zero, List.getElem_cons_succ, Act.put, List.setIfInBounds_toArray, List.set_cons_zero, List.set_cons_succ]
      refine wpAnyH_take (i := 29) (v := .agg #[.slice v.h b.hs.length v.ch, .slice v.s b.ss.length v.cs, .slice v.o b.os.length v.co, .slice v.r b.rs.length v.cr, .int .i64 b.co]) rfl (by kernel_rfl) (by kernel_rfl) (by kernel_rfl) (fun _ _ _ h => h) (Or.inl ⟨by rfl, fun W hW => by obtain ⟨k0, k1, k2, k3, k4⟩ := HXC.out W hW.1; go_simp⟩) hS ?_
      simp only [List.getElem_toArray, List.getElem_cons_zero, List.getElem_cons_succ, Act.put, List.setIfInBounds_toArray, List.set_cons_zero, List.set_cons_succ]
      refine wpAnyH_take (i := 30) (v := .int .i64 acc) rfl (by kernel_rfl) (by kernel_rfl) (by kernel_rfl) (fun _ _ _ h => h) (Or.inl ⟨by rfl, fun W _ => by go_simp⟩) hS ?_
      simp only [List.getElem_toArray, List.getElem_cons_zero, List.getElem_cons_succ, Act.put, List.setIfInBounds_toArray, List.set_cons_zero, List.set_cons_succ]
      refine wpAnyH_take (i := 31) (v := .int .i64 sym) rfl (by kernel_rfl) (by kernel_rfl) (by kernel_rfl) (fun _ _ _ h => h) (Or.inl ⟨by rfl, fun W _ => by go_simp⟩) hS ?_
      simp only [List.getElem_toArray, List.getElem_cons_zero, List.getElem_cons_succ, Act.put, List.setIfInBounds_toArray, List.set_cons_zero, List.set_cons_succ]
      refine wpAnyH_take (i := 33) (v := .agg #[.slice v.h b.hs.length v.ch, .slice v.s b.ss.length v.cs, .slice v.o b.os.length v.co, .slice v.r b.rs.length v.cr, .int .i64 b.co]) rfl (by kernel_rfl) (by kernel_rfl) (by kernel_rfl) (fun _ _ _ h => h) (Or.inl ⟨by rfl, fun W hW => by obtain ⟨k0, k1, k2, k3, k4⟩ := HXC.out W hW.1; go_simp⟩) hS ?_
      simp only [List.getElem_toArray, List.getElem_cons_zero, List.getElem_cons_succ, Act.put, List.setIfInBounds_toArray, List.set_cons_zero, List.set_cons_succ]
      refine wpAnyH_take (i := 34) (v := .int .i64 acc) rfl (by kernel_rfl) (by kernel_rfl) (by kernel_rfl) (fun _ _ _ h => h) (Or.inl ⟨by rfl, fun W _ => by go_simp⟩) hS ?_
      simp only [List.getElem_toArray, List.getElem_cons_zero, List.getElem_cons_succ, Act.put, List.setIfInBounds_toArray, List.set_cons_zero, List.set_cons_succ]
      refine wpAnyH_take (i := 35) (v := .int .i64 sym) rfl (by kernel_rfl) (by kernel_rfl) (by kernel_rfl) (fun _ _ _ h => h) (Or.inl ⟨by rfl, fun W _ => by go_simp⟩) hS ?_
      simp only [List.getElem_toArray, List.getElem_cons_zero, List.getElem_cons_succ, Act.put, List.setIfInBounds_toArray, List.set_cons_zero, List.set_cons_succ]
      refine wpAnyH_ready (rs := [32]) (by kernel_rfl) (by simp) ?_
      refine AllReadyH.cons rfl (fun K1 hK1 => ?_) AllReadyH.nil
      rw [if_pos (by rfl)]
      simp only [List.getElem_toArray, List.getElem_cons_zero, List.getElem_cons_succ]
      go_wp2_with (go_at_call 21; refine (HT2.out _ hS.1).mono ?_; rintro e w12 ⟨rfl, hb12⟩)
      refine hK1.out _ _ (⟨hS.1.below HKP.out hb12, blk_below hS.2.1 hb12, blk_below hS.2.2.1 hb12, blk_below hS.2.2.2.1 hb12, blk_below hS.2.2.2.2 hb12⟩) (fun hS1 => ?_)
      refine wpAnyH_ready (rs := [36]) (by kernel_rfl) (by simp) ?_
      refine AllReadyH.cons rfl (fun K2 hK2 => ?_) AllReadyH.nil
      rw [if_pos (by rfl)]
      simp only [List.getElem_toArray, List.getElem_cons_zero, List.getElem_cons_succ]
      go_wp2_with (go_at_call 22; refine (RT2.out _ hS1.1).mono ?_; rintro e w13 ⟨rfl, hb13⟩)
      refine hK2.out _ _ (⟨hS1.1.below HKP.out hb13, blk_below hS1.2.1 hb13, blk_below hS1.2.2.1 hb13, blk_below hS1.2.2.2.1 hb13, blk_below hS1.2.2.2.2 hb13⟩) (fun hS2 => ?_)
      refine wpAnyH_take (i := 37) (v := .bool true) rfl (by kernel_rfl) (by kernel_rfl) (by kernel_rfl) (fun _ _ _ h => h) (Or.inl ⟨by rfl, fun W _ => by go_simp⟩) hS2 ?_
      simp only [List.getElem_toArray, List.getElem_cons_zero, List.getElem_cons_succ, Act.put, List.setIfInBounds_toArray, List.set_cons_zero, List.set_cons_succ]
      refine wpAnyH_take (i := 38) (v := .bool true) rfl (by kernel_rfl) (by kernel_rfl) (by kernel_rfl) (fun _ _ _ h => h) (Or.inl ⟨by simp [Region.wanted], fun W _ => by go_simp⟩) hS2 ?_
      simp only [List.getElem_toArray, List.getElem_cons_zero, List.getElem_cons_succ, Act.put, List.setIfInBounds_toArray, List.set_cons_zero, List.set_cons_succ]
      refine wpAnyH_take (i := 39) (v := .bool true) rfl (by kernel_rfl) (by kernel_rfl) (by kernel_rfl) (fun _ _ _ h => h) (Or.inl ⟨by simp [Region.wanted], fun W _ => by go_simp⟩) hS2 ?_
      simp only [List.getElem_toArray, List.getElem_cons_zero, List.getElem_cons_succ, Act.put, List.setIfInBounds_toArray, List.set_cons_zero, List.set_cons_succ]
      refine wpAnyH_done (by kernel_rfl) ?_ _
      go_wp2
      go_ret
      exact ⟨rfl, hS2.1.lo⟩
end Go.Proofs.Ytofmkbijhmbbcaa
