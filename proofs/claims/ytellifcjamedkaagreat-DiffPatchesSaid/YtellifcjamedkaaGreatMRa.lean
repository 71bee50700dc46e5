/- The document's rows of a book: the contract. The document's rows of a book: the walk. -/
import Derived.Test.YtellifcjamedkaaGreatMDf
import Derived.Test.YtellifcjamedkaaGreatMRe
import Derived.Test.YtellifcjamedkaaGreatMCl
import Derived.OrdersHeld
import Derived.Lib.AppendZeros
namespace Go.Proofs.YtellifcjamedkaaGreat
open Go.RowKit Base Base2
/-- Numbers as they lie in a block of numbers. -/
def ValAt (W : World) (a : Option Addr) (v : List Int) : Prop := v = [] ∨ ∃ k off cs, a = some ⟨k, off, none⟩ ∧ W.heap[k]? = some (.cells cs 2 (0, 0)) ∧ ∀ (i : Nat) (z : Int), v[i]? = some z → cs[off + i]? = some (.int .i64 z)
theorem ValAt.i64s {W : World} {a : Option Addr} {v : List Int} (h : ValAt W a v) : I64s W a v := by
  rcases h with h | ⟨k, off, cs, h1, h2, h3⟩
  · exact .inl h
  · exact .inr ⟨k, off, h1, lt_of_blk h2, fun i z hz => by rw [cell_of_row _ _ _ _ _ _ h2]; exact h3 i z hz⟩
theorem ValAt.keep {W W' : World} {a : Option Addr} {v : List Int} (h : ValAt W a v) (hk : ∀ (k : Nat) (cs : Array Value), W.heap[k]? = some (.cells cs 2 (0, 0)) → W'.heap[k]? = some (.cells cs 2 (0, 0))) : ValAt W' a v := by
  rcases h with h | ⟨k, off, cs, h1, h2, h3⟩
  · exact .inl h
  · exact .inr ⟨k, off, cs, h1, hk k cs h2, h3⟩
theorem ValAt.below {W W' : World} {a : Option Addr} {v : List Int} (h : ValAt W a v) (hb : Below W.heap.size W W') : ValAt W' a v := h.keep fun k _ hk => (hb.block k (lt_of_blk hk)).trans hk
theorem ValAt.new (W : World) (v : List Int) : ValAt (W.alloc (.cells (v.map (Value.int .i64)).toArray 2)) (some ⟨W.heap.size, 0, none⟩) v :=
  .inr ⟨W.heap.size, 0, _, rfl, heap_alloc_new W _, fun i z hz => by rw [Nat.zero_add]; simp [hz]⟩
/-- A row, and where its values lie. -/
structure RowV where
  r : RowT
  a : Option Addr
  c : Nat
def RowV.cells (x : RowV) : List Value := [.int .i64 x.r.l, .int .i64 x.r.a, .int .i64 x.r.b, .slice x.a x.r.v.length x.c]
def flatW (l : List RowV) : List Value := (l.map RowV.cells).flatten
theorem flatW_app (l m : List RowV) : flatW (l ++ m) = flatW l ++ flatW m := by simp [flatW]
theorem flatW_one (x : RowV) : flatW [x] = x.cells := by simp [flatW]
theorem one_rowV (x : RowV) : ∀ u ∈ x.cells, u.oneCell' = true := by
  intro u hu
  simp only [RowV.cells, List.mem_cons, List.not_mem_nil, or_false] at hu
  rcases hu with rfl | rfl | rfl | rfl <;> rfl
theorem infoRw : (Tryz.prog.info? 112).map (fun i => (i.zero, i.size, i.bytes)) = some (some (.agg #[.int .i64 0, .int .i64 0, .int .i64 0, .slice none 0 0]), 4, 48) := by kernel_rfl
/-- Rows that are being made. -/
structure RwS (B : Nat) (W0 : World) (o : List RowV) (v : Value) (W : World) : Prop where
  row : W.ownsRow B 112 4 v o.length (flatW o)
  val : ∀ x ∈ o, ValAt W x.a x.r.v
  lo : Below B W0 W
  sz : B ≤ W.heap.size
theorem RwS.nil {B : Nat} {W0 : World} (h : B ≤ W0.heap.size) : RwS B W0 [] (.slice none 0 0) W0 := ⟨⟨by simp [flatW], .inl ⟨rfl, rfl⟩⟩, (fun x hx => by cases hx), Below.refl _ _, h⟩
theorem RwS.below {B : Nat} {W0 W W' : World} {o : List RowV} {v : Value} (h : RwS B W0 o v W) (hb : Below W.heap.size W W') : RwS B W0 o v W' :=
  ⟨own_below' h.row hb, fun x hx => (h.val x hx).below hb, h.lo.trans (hb.mono h.sz), Nat.le_trans h.sz hb.size⟩
theorem RwS.app {B : Nat} {W0 W W1 w2 : World} {o : List RowV} {v v' : Value} {x : RowV} {ob : Obj} (h : RwS B W0 o v W) (hW : Below W.heap.size W W1) (hx : ValAt W1 x.a x.r.v) (hr : w2.ownsRow B 112 4 v' (o.length + 1) (flatW o ++ x.cells)) (hg : (W1.alloc ob).grownBy w2 v.ownBlock) : RwS B W0 (o ++ [x]) v' w2 := by
  have h1 := h.below hW
  have hg2 := World_grown_alloc hg
  have hk : ∀ (k : Nat) (cs : Array Value), W1.heap[k]? = some (.cells cs 2 (0, 0)) → w2.heap[k]? = some (.cells cs 2 (0, 0)) := fun k cs hk => (hg2.block k (lt_of_blk hk) (own_ne' h1.row hk (by decide))).trans hk
  refine ⟨by rw [flatW_app, flatW_one, List.length_append]; exact hr, fun y hy => ?_, h1.lo.grown hg2 h1.sz (own_block_ge h1.row), Nat.le_trans h1.sz hg2.size⟩
  rcases List.mem_append.1 hy with hy | hy
  · exact (h1.val y hy).keep hk
  · rw [List.mem_singleton.1 hy]; exact hx.keep hk
set_option maxRecDepth 100000 in
set_option maxHeartbeats 8000000 in
theorem rless29 (l a b m c d : Int) (w : World) : Calls Tryz.prog 32 #[.int .i64 l, .int .i64 a, .int .i64 b, .int .i64 m, .int .i64 c, .int .i64 d] w fun e w' => e = .returned (.bool (lessD l a b m c d)) ∧ w = w' := by
  obtain ⟨R, hR⟩ : ∃ R, lessD l a b m c d = R := ⟨_, rfl⟩
  have HR := Lib.hid hR
  rw [hR]
  unfold lessD at hR
  clear hR
  go_enter Tryz.func32, Tryz.ntmps32
  by_cases h1 : l < m
  · have HD := Lib.hid (show R = true by rw [← HR.out, lessD_iff]; exact .inl h1)
    go_wp2
    go_ret
    exact ⟨ret_bool HD.out.symm, rfl⟩
  · by_cases h2 : l = m
    · have t2 : (l == m) = true := by simpa using h2
      have HL := Lib.hid h2
      clear h2
      by_cases h3 : a < c
      · have HD := Lib.hid (show R = true by rw [← HR.out, lessD_iff]; exact .inr ⟨HL.out, .inl h3⟩)
        go_wp2
        go_ret
        exact ⟨ret_bool HD.out.symm, rfl⟩
      · by_cases h4 : a = c
        · have t4 : (a == c) = true := by simpa using h4
          have HA := Lib.hid h4
          clear h4
          by_cases h5 : b < d
          · have HD := Lib.hid (show R = true by rw [← HR.out, lessD_iff]; exact .inr ⟨HL.out, .inr ⟨HA.out, h5⟩⟩)
            go_wp2
            go_ret
            exact ⟨ret_bool HD.out.symm, rfl⟩
          · have HD := Lib.hid (show R = false by rw [← HR.out, lessD_no]; have := HA.out; omega)
            go_wp2
            go_ret
            exact ⟨ret_bool HD.out.symm, rfl⟩
        · have t4 : (a == c) = false := by simpa using h4
          have HD := Lib.hid (show R = false by rw [← HR.out, lessD_no]; omega)
          go_wp2
          go_ret
          exact ⟨ret_bool HD.out.symm, rfl⟩
    · have t2 : (l == m) = false := by simpa using h2
      have HD := Lib.hid (show R = false by rw [← HR.out, lessD_no]; omega)
      go_wp2
      go_ret
      exact ⟨ret_bool HD.out.symm, rfl⟩
end Go.Proofs.YtellifcjamedkaaGreat
namespace Go.Proofs.YtellifcjamedkaaGreat
open Go.RowKit Base Base2
open List renaming getElem_toArray → lgT, getElem_cons_zero → lgZ, getElem_cons_succ → lgS, setIfInBounds_toArray → lsT, set_cons_zero → lsZ, set_cons_succ → lsS
theorem own_fromD {W : World} {B B' n k : Nat} {T : TypeId} {v : Value} {xs : List Value} (h : W.ownsRow B' T k v n xs) (hb : B ≤ B') : W.ownsRow B T k v n xs := by
  obtain ⟨e, h0⟩ := h
  refine ⟨e, ?_⟩
  rcases h0 with h0 | ⟨g, cap, cur, rfl, a1, a2⟩
  · exact .inl h0
  · exact .inr ⟨g, cap, cur, rfl, Nat.le_trans hb a1, a2⟩
theorem RowsOf.two {W : World} {a : Option Addr} {l : List Item} {i b0 off : Nat} {p q : Int} (h : RowsOf 2 W a l) (ha : a = some ⟨b0, off, none⟩) (hx : l[i]? = some [p, q]) : W.cell? ⟨b0, off + i * 2, none⟩ = some (.int .i64 p) ∧ W.cell? ⟨b0, off + i * 2 + 1, none⟩ = some (.int .i64 q) := by
  obtain ⟨b1, off1, h1, _, h2⟩ := h.at hx
  rw [ha] at h1
  obtain ⟨rfl, rfl⟩ : b0 = b1 ∧ off = off1 := by simpa using h1
  exact ⟨h2 W (Below.refl _ _) 0 p rfl, h2 W (Below.refl _ _) 1 q rfl⟩
set_option maxRecDepth 100000 in
set_option maxHeartbeats 16000000 in
theorem rrows28 (v : Slots) (b : BookT) (w : World) (hb : BookIn w v b) (hk : BookOk 2000 b) :
    Calls Tryz.prog 33 #[.agg (cellsB v b)] w fun e w' => ∃ vo o, e = .returned vo ∧ RwS w.heap.size w o vo w' ∧ o.map RowV.r = rowsD b := by
  obtain ⟨i0, hi0, hz0, hz1, hz2⟩ := info_parts infoRw
  have hA : Below w.heap.size w (w.alloc (.cells (cellsB v b) 27)) := (Below.refl _ w).alloc (Nat.le_refl _) _
  have hbx := BoxB.new w v b
  have HBI := Lib.hid (fun W (h : Below w.heap.size w W) => hb.below h)
  have HK := Lib.hid hk
  have h63 := hk.hs.1
  have h64 := hk.ss.1
  have h65 := hk.os.1
  have h66 := hk.rs.1
  have hs0 : (w.alloc (.cells (cellsB v b) 27)).heap.size = w.heap.size + 1 := by simp
  have HSZ0 := Lib.hid (show w.heap.size ≤ (w.alloc (.cells (cellsB v b) 27)).heap.size by rw [hs0]; omega)
  have HS0 := Lib.hid (RwS.nil (Nat.le_refl (w.alloc (.cells (cellsB v b) 27)).heap.size))
  have HLO := Lib.hid (fun W (h : Below (w.alloc (.cells (cellsB v b) 27)).heap.size (w.alloc (.cells (cellsB v b) 27)) W) => hA.trans (h.mono (by rw [hs0]; omega)))
  have HBX := Lib.hid (fun W (h : Below (w.alloc (.cells (cellsB v b) 27)).heap.size (w.alloc (.cells (cellsB v b) 27)) W) => (hbx.below h (by rw [hs0]; omega)).cells)
  go_enter Tryz.func33, Tryz.ntmps33
  generalize hCB : cellsB v b = CB at *
  go_upto_region 3 with (fail)
  generalize w.alloc (.cells CB 27) = W0 at *
  clear hA hbx hb hk hs0 hCB
  go_loopw [3, 4] (fun vo vi W => ∃ (i : Nat) (o : List RowV), vi = .int .i64 (i : Int) ∧ i ≤ b.hs.length ∧ o.map RowV.r = (b.hs.take i).map rwH ∧ RwS W0.heap.size W0 o vo W) (fun _ vi _ => b.hs.length - (intOf vi).toNat)
  case atStart => exact ⟨0, [], rfl, Nat.zero_le _, by simp, HS0.out⟩
  case round =>
    clear HS0
    obtain ⟨i, o, rfl, hi, hm, hs⟩ := hrel
    have HS := Lib.hid hs
    have HM := Lib.hid hm
    clear hs hm
    obtain ⟨e0, e1, e2, e3, e4⟩ := HBX.out _ HS.out.lo
    by_cases hlt : i < b.hs.length
    · obtain ⟨x, hx⟩ : ∃ x, b.hs[i]? = some x := ⟨b.hs[i], by simp [hlt]⟩
      obtain ⟨b0, off, ha, hb0, hcs⟩ := (HBI.out _ (HLO.out _ HS.out.lo)).hs.at hx
      obtain ⟨p, q, r, s, rfl⟩ := item4 (HK.out.hs.2 _ (List.mem_of_getElem? hx)).1
      have hle : o.length ≤ 8000 := by have h := congrArg List.length HM.out; simp at h; omega
      have HX := Lib.hid (show (b.hs.take (i + 1)).map rwH = (b.hs.take i).map rwH ++ [rwH [p, q, r, s]] by rw [take_one hx, List.map_append]; rfl)
      rw [ha] at e0
      have k0 := hcs wr (Below.refl _ _) 0 p rfl
      have k1 := hcs wr (Below.refl _ _) 1 q rfl
      have k2 := hcs wr (Below.refl _ _) 2 r rfl
      have k3 := hcs wr (Below.refl _ _) 3 s rfl
      rw [Nat.add_zero] at k0
      clear hcs ha hx
      go_upto_region 6 with (fail)
      refine at_world (Φ := fun W => RwS W0.heap.size W0 o u3 W ∧ W.heap[wr.heap.size]? = some (.cells #[.int .i64 p, .int .i64 q, .int .i64 r, .int .i64 s] 71 (0, 0))) ⟨HS.out.below ((Below.refl _ _).alloc (Nat.le_refl _) _), heap_alloc_new wr _⟩ ?_
      generalize wr.heap.size = h at *
      rintro W6 ⟨hs6, hit⟩
      have c0 := cell_of_row _ _ 0 _ _ (0, 0) hit
      have c1 := cell_of_row _ _ 1 _ _ (0, 0) hit
      have c2 := cell_of_row _ _ 2 _ _ (0, 0) hit
      have c3 := cell_of_row _ _ 3 _ _ (0, 0) hit
      have HS6 := Lib.hid hs6
      clear hs6 hit HS e0 e1 e2 e3 e4 k0 k1 k2 k3
      have b1 : o.length + 1 ≤ maxLen := by unfold maxLen; omega
      have b2 : (o.length + 1) * 48 ≤ 140737488355328 := by omega
      have HW7 := Lib.hid (show Below W6.heap.size W6 (W6.alloc (.cells #[.int .i64 q, .int .i64 r, .int .i64 s] 2)) from (Below.refl _ _).alloc (Nat.le_refl _) _)
      have HVN := Lib.hid (show ValAt (W6.alloc (.cells #[.int .i64 q, .int .i64 r, .int .i64 s] 2)) (some ⟨W6.heap.size, 0, none⟩) [q, r, s] from ValAt.new W6 [q, r, s])
      have HOW := Lib.hid (own_below' HS6.out.row HW7.out)
      have HSZ := Lib.hid (show W0.heap.size ≤ (W6.alloc (.cells #[.int .i64 q, .int .i64 r, .int .i64 s] 2)).heap.size from Nat.le_trans HS6.out.sz HW7.out.size)
      clear hle
      go_wp2_with (at_builtin; refine wpList_append_own _ rfl _ _ 79 rfl W0.heap.size 112 i0 (.agg #[.int .i64 0, .int .i64 0, .int .i64 0, .slice none 0 0]) 4 48 Tryz.underlying79 hi0 hz0 hz1 hz2 rfl (by decide) _ _ _ rfl (HOW.out.alloc _) ⟨W6.heap.size + 1, 0, none⟩ 1 1 [.int .i64 1, .int .i64 p, .int .i64 0, .slice (some ⟨W6.heap.size, 0, none⟩) 3 3] rfl rfl (by have h := new_cells (W6.alloc (.cells #[.int .i64 q, .int .i64 r, .int .i64 s] 2)) [.int .i64 1, .int .i64 p, .int .i64 0, .slice (some ⟨W6.heap.size, 0, none⟩) 3 3] 112; rw [World.size_alloc] at h; exact h) (one_rowV ⟨⟨1, p, 0, [q, r, s]⟩, some ⟨W6.heap.size, 0, none⟩, 3⟩) b1 b2 (by have := HSZ.out; rw [World.size_alloc]; omega) ?_; intro v' w9 hown hgrow _; have HA := Lib.hid (HS6.out.app (x := ⟨⟨1, p, 0, [q, r, s]⟩, some ⟨W6.heap.size, 0, none⟩, 3⟩) HW7.out HVN.out hown hgrow); clear hown hgrow)
      go_roundw
      case rel => exact ⟨i + 1, _, by go_num, hlt, by rw [List.map_append, HM.out, HX.out]; simp [rwH, key], HA.out⟩
      case measure => simp [intOf]; omega
    · have hil : i = b.hs.length := by omega
      have HM2 := Lib.hid (show o.map RowV.r = b.hs.map rwH by have h := HM.out; rw [hil, List.take_length] at h; exact h)
      clear HM hil
      have HM := Lib.hid HM2.out
      clear HM2
      go_wp2
      clear e0 e1 e2 e3 e4 hlt hi
      go_loopw [3, 6] (fun vo vi W => ∃ (i : Nat) (o : List RowV), vi = .int .i64 (i : Int) ∧ i ≤ b.ss.length ∧ o.map RowV.r = b.hs.map rwH ++ (b.ss.take i).map rwS ∧ RwS W0.heap.size W0 o vo W) (fun _ vi _ => b.ss.length - (intOf vi).toNat)
      case atStart => exact ⟨0, _, rfl, Nat.zero_le _, by rw [HM.out]; simp, HS.out⟩
      case round =>
        clear HS HM
        obtain ⟨i, o, rfl, hi, hm, hs⟩ := hrel
        have HS := Lib.hid hs
        have HM := Lib.hid hm
        clear hs hm
        obtain ⟨e0, e1, e2, e3, e4⟩ := HBX.out _ HS.out.lo
        by_cases hlt : i < b.ss.length
        · obtain ⟨x, hx⟩ : ∃ x, b.ss[i]? = some x := ⟨b.ss[i], by simp [hlt]⟩
          obtain ⟨b0, off, ha, hb0, hcs⟩ := (HBI.out _ (HLO.out _ HS.out.lo)).ss.at hx
          obtain ⟨p, q, r, rfl⟩ := item3 (HK.out.ss.2 _ (List.mem_of_getElem? hx)).1
          have hle : o.length ≤ 8000 := by have h := congrArg List.length HM.out; simp at h; omega
          have HX := Lib.hid (show (b.ss.take (i + 1)).map rwS = (b.ss.take i).map rwS ++ [rwS [p, q, r]] by rw [take_one hx, List.map_append]; rfl)
          rw [ha] at e1
          have k0 := hcs wr (Below.refl _ _) 0 p rfl
          have k1 := hcs wr (Below.refl _ _) 1 q rfl
          have k2 := hcs wr (Below.refl _ _) 2 r rfl
          rw [Nat.add_zero] at k0
          clear hcs ha hx
          go_upto_region 11 with (fail)
          refine at_world (Φ := fun W => RwS W0.heap.size W0 o u3 W ∧ W.heap[wr.heap.size]? = some (.cells #[.int .i64 p, .int .i64 q, .int .i64 r] 73 (0, 0))) ⟨HS.out.below ((Below.refl _ _).alloc (Nat.le_refl _) _), heap_alloc_new wr _⟩ ?_
          generalize wr.heap.size = h at *
          rintro W6 ⟨hs6, hit⟩
          have c0 := cell_of_row _ _ 0 _ _ (0, 0) hit
          have c1 := cell_of_row _ _ 1 _ _ (0, 0) hit
          have c2 := cell_of_row _ _ 2 _ _ (0, 0) hit
          have HS6 := Lib.hid hs6
          clear hs6 hit HS e0 e1 e2 e3 e4 k0 k1 k2
          have b1 : o.length + 1 ≤ maxLen := by unfold maxLen; omega
          have b2 : (o.length + 1) * 48 ≤ 140737488355328 := by omega
          have HW7 := Lib.hid (show Below W6.heap.size W6 (W6.alloc (.cells #[.int .i64 r] 2)) from (Below.refl _ _).alloc (Nat.le_refl _) _)
          have HVN := Lib.hid (show ValAt (W6.alloc (.cells #[.int .i64 r] 2)) (some ⟨W6.heap.size, 0, none⟩) [r] from ValAt.new W6 [r])
          have HOW := Lib.hid (own_below' HS6.out.row HW7.out)
          have HSZ := Lib.hid (show W0.heap.size ≤ (W6.alloc (.cells #[.int .i64 r] 2)).heap.size from Nat.le_trans HS6.out.sz HW7.out.size)
          clear hle
          go_wp2_with (at_builtin; refine wpList_append_own _ rfl _ _ 79 rfl W0.heap.size 112 i0 (.agg #[.int .i64 0, .int .i64 0, .int .i64 0, .slice none 0 0]) 4 48 Tryz.underlying79 hi0 hz0 hz1 hz2 rfl (by decide) _ _ _ rfl (HOW.out.alloc _) ⟨W6.heap.size + 1, 0, none⟩ 1 1 [.int .i64 2, .int .i64 p, .int .i64 q, .slice (some ⟨W6.heap.size, 0, none⟩) 1 1] rfl rfl (by have h := new_cells (W6.alloc (.cells #[.int .i64 r] 2)) [.int .i64 2, .int .i64 p, .int .i64 q, .slice (some ⟨W6.heap.size, 0, none⟩) 1 1] 112; rw [World.size_alloc] at h; exact h) (one_rowV ⟨⟨2, p, q, [r]⟩, some ⟨W6.heap.size, 0, none⟩, 1⟩) b1 b2 (by have := HSZ.out; rw [World.size_alloc]; omega) ?_; intro v' w9 hown hgrow _; have HA := Lib.hid (HS6.out.app (x := ⟨⟨2, p, q, [r]⟩, some ⟨W6.heap.size, 0, none⟩, 1⟩) HW7.out HVN.out hown hgrow); clear hown hgrow)
          go_roundw
          case rel => exact ⟨i + 1, _, by go_num, hlt, by rw [List.map_append, HM.out, HX.out]; simp [rwS, key], HA.out⟩
          case measure => simp [intOf]; omega
        · have hil : i = b.ss.length := by omega
          have HM2 := Lib.hid (show o.map RowV.r = b.hs.map rwH ++ b.ss.map rwS by have h := HM.out; rw [hil, List.take_length] at h; exact h)
          clear HM hil
          have HM := Lib.hid HM2.out
          clear HM2
          go_wp2
          clear e0 e1 e2 e3 e4 hlt hi
          go_loopw [3, 8] (fun vo vi W => ∃ (i : Nat) (o : List RowV), vi = .int .i64 (i : Int) ∧ i ≤ b.os.length ∧ o.map RowV.r = b.hs.map rwH ++ b.ss.map rwS ++ (b.os.take i).map rwO ∧ RwS W0.heap.size W0 o vo W) (fun _ vi _ => b.os.length - (intOf vi).toNat)
          case atStart => exact ⟨0, _, rfl, Nat.zero_le _, by rw [HM.out]; simp, HS.out⟩
          case round =>
            clear HS HM
            obtain ⟨i, o, rfl, hi, hm, hs⟩ := hrel
            have HS := Lib.hid hs
            have HM := Lib.hid hm
            clear hs hm
            obtain ⟨e0, e1, e2, e3, e4⟩ := HBX.out _ HS.out.lo
            by_cases hlt : i < b.os.length
            · obtain ⟨x, hx⟩ : ∃ x, b.os[i]? = some x := ⟨b.os[i], by simp [hlt]⟩
              obtain ⟨b0, off, ha, hb0, hcs⟩ := (HBI.out _ (HLO.out _ HS.out.lo)).os.at hx
              obtain ⟨p, q, r, s, t, z, rfl⟩ := item6 (HK.out.os.2 _ (List.mem_of_getElem? hx)).1
              have hle : o.length ≤ 8000 := by have h := congrArg List.length HM.out; simp at h; omega
              have HX := Lib.hid (show (b.os.take (i + 1)).map rwO = (b.os.take i).map rwO ++ [rwO [p, q, r, s, t, z]] by rw [take_one hx, List.map_append]; rfl)
              rw [ha] at e2
              have k0 := hcs wr (Below.refl _ _) 0 p rfl
              have k1 := hcs wr (Below.refl _ _) 1 q rfl
              have k2 := hcs wr (Below.refl _ _) 2 r rfl
              have k3 := hcs wr (Below.refl _ _) 3 s rfl
              have k4 := hcs wr (Below.refl _ _) 4 t rfl
              have k5 := hcs wr (Below.refl _ _) 5 z rfl
              rw [Nat.add_zero] at k0
              clear hcs ha hx
              go_upto_region 16 with (fail)
              refine at_world (Φ := fun W => RwS W0.heap.size W0 o u3 W ∧ W.heap[wr.heap.size]? = some (.cells #[.int .i64 p, .int .i64 q, .int .i64 r, .int .i64 s, .int .i64 t, .int .i64 z] 76 (0, 0))) ⟨HS.out.below ((Below.refl _ _).alloc (Nat.le_refl _) _), heap_alloc_new wr _⟩ ?_
              generalize wr.heap.size = h at *
              rintro W6 ⟨hs6, hit⟩
              have c0 := cell_of_row _ _ 0 _ _ (0, 0) hit
              have c1 := cell_of_row _ _ 1 _ _ (0, 0) hit
              have c2 := cell_of_row _ _ 2 _ _ (0, 0) hit
              have c3 := cell_of_row _ _ 3 _ _ (0, 0) hit
              have c4 := cell_of_row _ _ 4 _ _ (0, 0) hit
              have c5 := cell_of_row _ _ 5 _ _ (0, 0) hit
              have HS6 := Lib.hid hs6
              clear hs6 hit HS e0 e1 e2 e3 e4 k0 k1 k2 k3 k4 k5
              have b1 : o.length + 1 ≤ maxLen := by unfold maxLen; omega
              have b2 : (o.length + 1) * 48 ≤ 140737488355328 := by omega
              have HW7 := Lib.hid (show Below W6.heap.size W6 (W6.alloc (.cells #[.int .i64 q, .int .i64 r, .int .i64 s, .int .i64 t, .int .i64 z] 2)) from (Below.refl _ _).alloc (Nat.le_refl _) _)
              have HVN := Lib.hid (show ValAt (W6.alloc (.cells #[.int .i64 q, .int .i64 r, .int .i64 s, .int .i64 t, .int .i64 z] 2)) (some ⟨W6.heap.size, 0, none⟩) [q, r, s, t, z] from ValAt.new W6 [q, r, s, t, z])
              have HOW := Lib.hid (own_below' HS6.out.row HW7.out)
              have HSZ := Lib.hid (show W0.heap.size ≤ (W6.alloc (.cells #[.int .i64 q, .int .i64 r, .int .i64 s, .int .i64 t, .int .i64 z] 2)).heap.size from Nat.le_trans HS6.out.sz HW7.out.size)
              clear hle
              go_wp2_with (at_builtin; refine wpList_append_own _ rfl _ _ 79 rfl W0.heap.size 112 i0 (.agg #[.int .i64 0, .int .i64 0, .int .i64 0, .slice none 0 0]) 4 48 Tryz.underlying79 hi0 hz0 hz1 hz2 rfl (by decide) _ _ _ rfl (HOW.out.alloc _) ⟨W6.heap.size + 1, 0, none⟩ 1 1 [.int .i64 3, .int .i64 p, .int .i64 0, .slice (some ⟨W6.heap.size, 0, none⟩) 5 5] rfl rfl (by have h := new_cells (W6.alloc (.cells #[.int .i64 q, .int .i64 r, .int .i64 s, .int .i64 t, .int .i64 z] 2)) [.int .i64 3, .int .i64 p, .int .i64 0, .slice (some ⟨W6.heap.size, 0, none⟩) 5 5] 112; rw [World.size_alloc] at h; exact h) (one_rowV ⟨⟨3, p, 0, [q, r, s, t, z]⟩, some ⟨W6.heap.size, 0, none⟩, 5⟩) b1 b2 (by have := HSZ.out; rw [World.size_alloc]; omega) ?_; intro v' w9 hown hgrow _; have HA := Lib.hid (HS6.out.app (x := ⟨⟨3, p, 0, [q, r, s, t, z]⟩, some ⟨W6.heap.size, 0, none⟩, 5⟩) HW7.out HVN.out hown hgrow); clear hown hgrow)
              go_roundw
              case rel => exact ⟨i + 1, _, by go_num, hlt, by rw [List.map_append, HM.out, HX.out]; simp [rwO, key], HA.out⟩
              case measure => simp [intOf]; omega
            · have hil : i = b.os.length := by omega
              have HM2 := Lib.hid (show o.map RowV.r = b.hs.map rwH ++ b.ss.map rwS ++ b.os.map rwO by have h := HM.out; rw [hil, List.take_length] at h; exact h)
              clear HM hil
              have HM := Lib.hid HM2.out
              clear HM2
              go_wp2
              clear e0 e1 e2 e3 e4 hlt hi
              go_loopw [3, 10] (fun vo vi W => ∃ (i : Nat) (o : List RowV), vi = .int .i64 (i : Int) ∧ i ≤ b.rs.length ∧ o.map RowV.r = b.hs.map rwH ++ b.ss.map rwS ++ b.os.map rwO ++ (b.rs.take i).map rwR ∧ RwS W0.heap.size W0 o vo W) (fun _ vi _ => b.rs.length - (intOf vi).toNat)
              case atStart => exact ⟨0, _, rfl, Nat.zero_le _, by rw [HM.out]; simp, HS.out⟩
              case round =>
                clear HS HM
                obtain ⟨i, o, rfl, hi, hm, hs⟩ := hrel
                have HS := Lib.hid hs
                have HM := Lib.hid hm
                clear hs hm
                obtain ⟨e0, e1, e2, e3, e4⟩ := HBX.out _ HS.out.lo
                by_cases hlt : i < b.rs.length
                · obtain ⟨x, hx⟩ : ∃ x, b.rs[i]? = some x := ⟨b.rs[i], by simp [hlt]⟩
                  obtain ⟨b0, off, ha, hb0, hcs⟩ := (HBI.out _ (HLO.out _ HS.out.lo)).rs.at hx
                  obtain ⟨p, q, rfl⟩ := item2 (HK.out.rs.2 _ (List.mem_of_getElem? hx)).1
                  have hle : o.length ≤ 8000 := by have h := congrArg List.length HM.out; simp at h; omega
                  have HX := Lib.hid (show (b.rs.take (i + 1)).map rwR = (b.rs.take i).map rwR ++ [rwR [p, q]] by rw [take_one hx, List.map_append]; rfl)
                  rw [ha] at e3
                  have k0 := hcs wr (Below.refl _ _) 0 p rfl
                  have k1 := hcs wr (Below.refl _ _) 1 q rfl
                  rw [Nat.add_zero] at k0
                  have HCS := Lib.hid (show ∀ W, Below W0.heap.size W0 W → W.cell? ⟨w.heap.size, 3, none⟩ = some (.slice (some ⟨b0, off, none⟩) b.rs.length v.cr) from fun W h => by rw [← ha]; exact (HBX.out W h).2.2.2.1)
                  have HC2 := Lib.hid (show ∀ W, Below W0.heap.size W0 W → W.cell? ⟨b0, off + i * 2, none⟩ = some (.int .i64 p) ∧ W.cell? ⟨b0, off + i * 2 + 1, none⟩ = some (.int .i64 q) from fun W h => RowsOf.two (HBI.out _ (HLO.out _ h)).rs ha hx)
                  clear hcs k0 k1
                  go_upto_region 20 with (fail)
                  have b1 : o.length + 1 ≤ maxLen := by unfold maxLen; omega
                  have b2 : (o.length + 1) * 48 ≤ 140737488355328 := by omega
                  have HSD := Lib.hid (show RwS W0.heap.size W0 o u3 wr.drew from HS.out.below ((Below.refl _ _).drew))
                  have HW7 := Lib.hid (show Below wr.drew.heap.size wr.drew (wr.drew.alloc (.cells #[.int .i64 q] 2)) from (Below.refl _ _).alloc (Nat.le_refl _) _)
                  have HVN := Lib.hid (show ValAt (wr.drew.alloc (.cells #[.int .i64 q] 2)) (some ⟨wr.drew.heap.size, 0, none⟩) [q] from ValAt.new wr.drew [q])
                  have HOW := Lib.hid (own_below' HSD.out.row HW7.out)
                  refine wp_region_held_drew (S := fun W => Below W0.heap.size W0 W) (by kernel_rfl) (HSD.out.lo) (fun hS => ?_)
                  refine wpAnyH_take (i := 0) (v := u3) rfl (by kernel_rfl) (by kernel_rfl) (by kernel_rfl) (fun _ _ _ h => h) (Or.inl ⟨by simp [Region.wanted], fun W _ => by go_simp⟩) hS ?_
                  simp only [lgT, lgZ, Act.put, lsT, lsZ, lsS]
                  refine wpAnyH_take (i := 1) (v := .pointer (some ⟨w.heap.size, 3, none⟩)) rfl (by kernel_rfl) (by kernel_rfl) (by kernel_rfl) (fun _ _ _ h => h) (Or.inl ⟨by simp [Region.wanted], fun W _ => by go_simp⟩) hS ?_
                  simp only [lgT, lgZ, lgS, Act.put, lsT, lsZ, lsS]
                  refine wpAnyH_take (i := 2) (v := .slice (some ⟨b0, off, none⟩) b.rs.length v.cr) rfl (by kernel_rfl) (by kernel_rfl) (by kernel_rfl) (fun _ _ _ h => h) (Or.inl ⟨by simp [Region.wanted], fun W hW => by have kc := HCS.out W hW; go_simp⟩) hS ?_
                  simp only [lgT, lgZ, lgS, Act.put, lsT, lsZ, lsS]
                  refine wpAnyH_take (i := 3) (v := .int .i64 (i : Int)) rfl (by kernel_rfl) (by kernel_rfl) (by kernel_rfl) (fun _ _ _ h => h) (Or.inl ⟨by simp [Region.wanted], fun W _ => by go_simp⟩) hS ?_
                  simp only [lgT, lgZ, lgS, Act.put, lsT, lsZ, lsS]
                  refine wpAnyH_take (i := 4) (v := .pointer (some ⟨b0, off + i * 2, none⟩)) rfl (by kernel_rfl) (by kernel_rfl) (by kernel_rfl) (fun _ _ _ h => h) (Or.inl ⟨by simp [Region.wanted], fun W _ => by go_simp⟩) hS ?_
                  simp only [lgT, lgZ, lgS, Act.put, lsT, lsZ, lsS]
                  refine wpAnyH_take (i := 5) (v := .pointer (some ⟨b0, off + i * 2, none⟩)) rfl (by kernel_rfl) (by kernel_rfl) (by kernel_rfl) (fun _ _ _ h => h) (Or.inl ⟨by simp [Region.wanted], fun W _ => by go_simp⟩) hS ?_
                  simp only [lgT, lgZ, lgS, Act.put, lsT, lsZ, lsS]
                  refine wpAnyH_take (i := 6) (v := .int .i64 p) rfl (by kernel_rfl) (by kernel_rfl) (by kernel_rfl) (fun _ _ _ h => h) (Or.inl ⟨by simp [Region.wanted], fun W hW => by have kc := (HC2.out W hW).1; go_simp⟩) hS ?_
                  simp only [lgT, lgZ, lgS, Act.put, lsT, lsZ, lsS]
                  refine wpAnyH_take (i := 7) (v := .pointer (some ⟨w.heap.size, 3, none⟩)) rfl (by kernel_rfl) (by kernel_rfl) (by kernel_rfl) (fun _ _ _ h => h) (Or.inl ⟨by simp [Region.wanted], fun W _ => by go_simp⟩) hS ?_
                  simp only [lgT, lgZ, lgS, Act.put, lsT, lsZ, lsS]
                  refine wpAnyH_take (i := 8) (v := .slice (some ⟨b0, off, none⟩) b.rs.length v.cr) rfl (by kernel_rfl) (by kernel_rfl) (by kernel_rfl) (fun _ _ _ h => h) (Or.inl ⟨by simp [Region.wanted], fun W hW => by have kc := HCS.out W hW; go_simp⟩) hS ?_
                  simp only [lgT, lgZ, lgS, Act.put, lsT, lsZ, lsS]
                  refine wpAnyH_take (i := 9) (v := .int .i64 (i : Int)) rfl (by kernel_rfl) (by kernel_rfl) (by kernel_rfl) (fun _ _ _ h => h) (Or.inl ⟨by simp [Region.wanted], fun W _ => by go_simp⟩) hS ?_
                  simp only [lgT, lgZ, lgS, Act.put, lsT, lsZ, lsS]
                  refine wpAnyH_take (i := 10) (v := .pointer (some ⟨b0, off + i * 2, none⟩)) rfl (by kernel_rfl) (by kernel_rfl) (by kernel_rfl) (fun _ _ _ h => h) (Or.inl ⟨by simp [Region.wanted], fun W _ => by go_simp⟩) hS ?_
                  simp only [lgT, lgZ, lgS, Act.put, lsT, lsZ, lsS]
                  refine wpAnyH_take (i := 11) (v := .pointer (some ⟨b0, off + i * 2 + 1, none⟩)) rfl (by kernel_rfl) (by kernel_rfl) (by kernel_rfl) (fun _ _ _ h => h) (Or.inl ⟨by simp [Region.wanted], fun W _ => by go_simp⟩) hS ?_
                  simp only [lgT, lgZ, lgS, Act.put, lsT, lsZ, lsS]
                  refine wpAnyH_take (i := 12) (v := .int .i64 q) rfl (by kernel_rfl) (by kernel_rfl) (by kernel_rfl) (fun _ _ _ h => h) (Or.inl ⟨by simp [Region.wanted], fun W hW => by have kc := (HC2.out W hW).2; go_simp⟩) hS ?_
                  simp only [lgT, lgZ, lgS, Act.put, lsT, lsZ, lsS]
                  refine wpAnyH_ready (rs := [13]) (by kernel_rfl) (by simp) ?_
                  refine AllReadyH.cons rfl (fun K1 hK1 => ?_) AllReadyH.nil
                  refine wanted_go rfl ?_
                  simp only [lgT, lgZ, lgS]
                  go_wp2
                  refine hK1.out _ _ ((hS).trans (HW7.out.mono HSD.out.sz)) (fun hS1 => ?_)
                  refine wpAnyH_take (i := 14) (v := .agg #[.int .i64 4, .int .i64 p, .int .i64 0, .slice (some ⟨wr.heap.size, 0, none⟩) 1 1]) rfl (by kernel_rfl) (by kernel_rfl) (by kernel_rfl) (fun _ _ _ h => h) (Or.inl ⟨by simp [Region.wanted], fun W _ => by go_simp⟩) hS1 ?_
                  simp only [lgT, lgZ, lgS, Act.put, lsT, lsZ, lsS]
                  refine wpAnyH_ready (rs := [15]) (by kernel_rfl) (by simp) ?_
                  refine AllReadyH.cons rfl (fun K2 hK2 => ?_) AllReadyH.nil
                  refine wanted_go rfl ?_
                  simp only [lgT, lgZ, lgS]
                  go_wp2
                  refine hK2.out _ _ ((hS1).alloc (Nat.le_trans HSD.out.sz HW7.out.size) _) (fun hS2 => ?_)
                  refine wpAnyH_ready (rs := [16]) (by kernel_rfl) (by simp) ?_
                  refine AllReadyH.cons rfl (fun K3 hK3 => ?_) AllReadyH.nil
                  refine wanted_go rfl ?_
                  simp only [lgT, lgZ, lgS]
                  (obtain ⟨v', w9, hr, hown, hgrow, _⟩ := run_append_own (P := Tryz.prog) (w := (wr.drew.alloc (.cells #[.int .i64 q] 2)).alloc (.cells #[.int .i64 4, .int .i64 p, .int .i64 0, .slice (some ⟨wr.heap.size, 0, none⟩) 1 1] 112)) W0.heap.size 79 79 112 i0 _ 4 48 Tryz.underlying79 hi0 hz0 hz1 hz2 rfl (by decide) _ _ _ (HOW.out.alloc _) ⟨wr.heap.size + 1, 0, none⟩ 1 1 [.int .i64 4, .int .i64 p, .int .i64 0, .slice (some ⟨wr.heap.size, 0, none⟩) 1 1] rfl (fun j u hu => by have h := new_cells (wr.drew.alloc (.cells #[.int .i64 q] 2)) [.int .i64 4, .int .i64 p, .int .i64 0, .slice (some ⟨wr.heap.size, 0, none⟩) 1 1] 112 j u hu; rw [World.size_alloc] at h; exact h) (one_rowV ⟨⟨4, p, 0, [q]⟩, some ⟨wr.heap.size, 0, none⟩, 1⟩) b1 b2 (by have := HSD.out.sz; have := HW7.out.size; rw [World.size_alloc]; omega); have HA := Lib.hid (HSD.out.app (x := ⟨⟨4, p, 0, [q]⟩, some ⟨wr.heap.size, 0, none⟩, 1⟩) HW7.out HVN.out hown hgrow); refine Lib.wp_append_run _ _ _ _ _ rfl _ _ rfl rfl _ _ hr ?_)
                  refine hK3.out _ _ (HA.out.lo) (fun hS3 => ?_)
                  refine wpAnyH_take (i := 17) (v := v') rfl (by kernel_rfl) (by kernel_rfl) (by kernel_rfl) (fun _ _ _ h => h) (Or.inl ⟨by simp [Region.wanted], fun W _ => by go_simp⟩) hS3 ?_
                  simp only [lgT, lgZ, lgS, Act.put, lsT, lsZ, lsS]
                  refine wpAnyH_done (by kernel_rfl) ?_ _
                  go_wp2
                  go_roundw
                  case rel => exact ⟨i + 1, _, by go_num, hlt, by rw [List.map_append, HM.out, HX.out]; simp [rwR, key], HA.out⟩
                  case measure => simp [intOf]; omega
                · have hil : i = b.rs.length := by omega
                  have HM2 := Lib.hid (show o.map RowV.r = b.hs.map rwH ++ b.ss.map rwS ++ b.os.map rwO ++ b.rs.map rwR by have h := HM.out; rw [hil, List.take_length] at h; exact h)
                  clear HM hil
                  have HM := Lib.hid HM2.out
                  clear HM2
                  have hle : o.length ≤ 8000 := by have h := congrArg List.length HM.out; simp at h; omega
                  have b1 : o.length + 1 ≤ maxLen := by unfold maxLen; omega
                  have b2 : (o.length + 1) * 48 ≤ 140737488355328 := by omega
                  have HW7 := Lib.hid (show Below wr.heap.size wr (wr.alloc (.cells #[.int .i64 b.co] 2)) from (Below.refl _ _).alloc (Nat.le_refl _) _)
                  have HVN := Lib.hid (show ValAt (wr.alloc (.cells #[.int .i64 b.co] 2)) (some ⟨wr.heap.size, 0, none⟩) [b.co] from ValAt.new wr [b.co])
                  have HOW := Lib.hid (own_below' HS.out.row HW7.out)
                  have HSZ := Lib.hid (show W0.heap.size ≤ (wr.alloc (.cells #[.int .i64 b.co] 2)).heap.size from Nat.le_trans HS.out.sz HW7.out.size)
                  clear hle
                  go_wp2_with (at_builtin; refine wpList_append_own _ rfl _ _ 79 rfl W0.heap.size 112 i0 (.agg #[.int .i64 0, .int .i64 0, .int .i64 0, .slice none 0 0]) 4 48 Tryz.underlying79 hi0 hz0 hz1 hz2 rfl (by decide) _ _ _ rfl (HOW.out.alloc _) ⟨wr.heap.size + 1, 0, none⟩ 1 1 [.int .i64 5, .int .i64 0, .int .i64 0, .slice (some ⟨wr.heap.size, 0, none⟩) 1 1] rfl rfl (by have h := new_cells (wr.alloc (.cells #[.int .i64 b.co] 2)) [.int .i64 5, .int .i64 0, .int .i64 0, .slice (some ⟨wr.heap.size, 0, none⟩) 1 1] 112; rw [World.size_alloc] at h; exact h) (one_rowV ⟨⟨5, 0, 0, [b.co]⟩, some ⟨wr.heap.size, 0, none⟩, 1⟩) b1 b2 (by have := HSZ.out; rw [World.size_alloc]; omega) ?_; intro v' w9 hown hgrow _; have HA := Lib.hid (HS.out.app (x := ⟨⟨5, 0, 0, [b.co]⟩, some ⟨wr.heap.size, 0, none⟩, 1⟩) HW7.out HVN.out hown hgrow); clear hown hgrow)
                  go_ret
                  exact ⟨v', _, rfl, ⟨own_fromD HA.out.row (HSZ0.out), HA.out.val, HLO.out _ HA.out.lo, Nat.le_trans HSZ0.out HA.out.sz⟩, by rw [List.map_append, HM.out]; simp [rowsD, rwC]⟩
end Go.Proofs.YtellifcjamedkaaGreat
