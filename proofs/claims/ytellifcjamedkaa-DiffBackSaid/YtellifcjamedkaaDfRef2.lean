/- The document's rows of a book: the walk. -/
import Derived.Test.YtellifcjamedkaaDfRef1
import Derived.Lib.AppendZeros
namespace Go.Proofs.Ytellifcjamedkaa
open Go.RowKit Base Base2

theorem own_fromD {W : World} {B B' n k : Nat} {T : TypeId} {v : Value} {xs : List Value} (h : W.ownsRow B' T k v n xs) (hb : B ≤ B') : W.ownsRow B T k v n xs := by
  obtain ⟨e, h0⟩ := h
  refine ⟨e, ?_⟩
  rcases h0 with h0 | ⟨g, cap, cur, rfl, a1, a2⟩
  · exact .inl h0
  · exact .inr ⟨g, cap, cur, rfl, Nat.le_trans hb a1, a2⟩
theorem RowsOf.two {W : World} {a : Option Addr} {l : List Item} {i b0 off : Nat} {p q : Int} (h : RowsOf 2 W a l) (ha : a = some ⟨b0, off, none⟩) (hx : l[i]? = some [p, q]) : W.cell? ⟨b0, off + i * 2, none⟩ = some (.int .i64 p) ∧ W.cell? ⟨b0, off + i * 2 + 1, none⟩ = some (.int .i64 q) := by
  obtain ⟨b1, off1, h1, _, h2⟩ := h.at hx
  rw [ha] at h1
  obtain ⟨rfl, rfl⟩ : b0 = b1 ∧ off = off1 := by simpa using h1
  exact ⟨h2 W (Below.refl _ _) 0 p rfl, h2 W (Below.refl _ _) 1 q rfl⟩
set_option maxRecDepth 100000 in
set_option maxHeartbeats 16000000 in
theorem rrows28 (v : Slots) (b : BookT) (w : World) (hb : BookIn w v b) (hk : BookOk 2000 b) :
    Calls Try.prog 25 #[.agg (cellsB v b)] w fun e w' => ∃ vo o, e = .returned vo ∧ RwS w.heap.size w o vo w' ∧ o.map RowV.r = rowsD b := by
  obtain ⟨i0, hi0, hz0, hz1, hz2⟩ := info_parts infoRw
  have hA : Below w.heap.size w (w.alloc (.cells (cellsB v b) 27)) := (Below.refl _ w).alloc (Nat.le_refl _) _
  have hbx := BoxB.new w v b
  have HBI := Lib.hid (fun W (h : Below w.heap.size w W) => hb.below h)
  have HK := Lib.hid hk
  have h63 := hk.hs.1
  have h64 := hk.ss.1
  have h65 := hk.os.1
  have h66 := hk.rs.1
  have hs0 : (w.alloc (.cells (cellsB v b) 27)).heap.size = w.heap.size + 1 := by simp
  have HSZ0 := Lib.hid (show w.heap.size ≤ (w.alloc (.cells (cellsB v b) 27)).heap.size by rw [hs0]; omega)
  have HS0 := Lib.hid (RwS.nil (Nat.le_refl (w.alloc (.cells (cellsB v b) 27)).heap.size))
  have HLO := Lib.hid (fun W (h : Below (w.alloc (.cells (cellsB v b) 27)).heap.size (w.alloc (.cells (cellsB v b) 27)) W) => hA.trans (h.mono (by rw [hs0]; omega)))
  have HBX := Lib.hid (fun W (h : Below (w.alloc (.cells (cellsB v b) 27)).heap.size (w.alloc (.cells (cellsB v b) 27)) W) => (hbx.below h (by rw [hs0]; omega)).cells)
  go_enter Try.func25, Try.ntmps25
  generalize hCB : cellsB v b = CB at *
  go_upto_region 3 with (fail)
  generalize w.alloc (.cells CB 27) = W0 at *
  clear hA hbx hb hk hs0 hCB
  go_loopw [3, 4] (fun vo vi W => ∃ (i : Nat) (o : List RowV), vi = .int .i64 (i : Int) ∧ i ≤ b.hs.length ∧ o.map RowV.r = (b.hs.take i).map rwH ∧ RwS W0.heap.size W0 o vo W) (fun _ vi _ => b.hs.length - (intOf vi).toNat)
  case atStart => exact ⟨0, [], rfl, Nat.zero_le _, by simp, HS0.out⟩
  case round =>
    clear HS0
    obtain ⟨i, o, rfl, hi, hm, hs⟩ := hrel
    have HS := Lib.hid hs
    have HM := Lib.hid hm
    clear hs hm
    obtain ⟨e0, e1, e2, e3, e4⟩ := HBX.out _ HS.out.lo
    by_cases hlt : i < b.hs.length
    · obtain ⟨x, hx⟩ : ∃ x, b.hs[i]? = some x := ⟨b.hs[i], by simp [hlt]⟩
      obtain ⟨b0, off, ha, hb0, hcs⟩ := (HBI.out _ (HLO.out _ HS.out.lo)).hs.at hx
      obtain ⟨p, q, r, s, rfl⟩ := item4 (HK.out.hs.2 _ (List.mem_of_getElem? hx)).1
      have hle : o.length ≤ 8000 := by have h := congrArg List.length HM.out; simp at h; omega
      have HX := Lib.hid (show (b.hs.take (i + 1)).map rwH = (b.hs.take i).map rwH ++ [rwH [p, q, r, s]] by rw [take_one hx, List.map_append]; rfl)
      rw [ha] at e0
      have k0 := hcs wr (Below.refl _ _) 0 p rfl
      have k1 := hcs wr (Below.refl _ _) 1 q rfl
      have k2 := hcs wr (Below.refl _ _) 2 r rfl
      have k3 := hcs wr (Below.refl _ _) 3 s rfl
      rw [Nat.add_zero] at k0
      clear hcs ha hx
      go_upto_region 6 with (fail)
      refine at_world (Φ := fun W => RwS W0.heap.size W0 o u3 W ∧ W.heap[wr.heap.size]? = some (.cells #[.int .i64 p, .int .i64 q, .int .i64 r, .int .i64 s] 64 (0, 0))) ⟨HS.out.below ((Below.refl _ _).alloc (Nat.le_refl _) _), heap_alloc_new wr _⟩ ?_
      generalize wr.heap.size = h at *
      rintro W6 ⟨hs6, hit⟩
      have c0 := cell_of_row _ _ 0 _ _ (0, 0) hit
      have c1 := cell_of_row _ _ 1 _ _ (0, 0) hit
      have c2 := cell_of_row _ _ 2 _ _ (0, 0) hit
      have c3 := cell_of_row _ _ 3 _ _ (0, 0) hit
      have HS6 := Lib.hid hs6
      clear hs6 hit HS e0 e1 e2 e3 e4 k0 k1 k2 k3
      have b1 : o.length + 1 ≤ maxLen := by unfold maxLen; omega
      have b2 : (o.length + 1) * 48 ≤ 140737488355328 := by omega
      have HW7 := Lib.hid (show Below W6.heap.size W6 (W6.alloc (.cells #[.int .i64 q, .int .i64 r, .int .i64 s] 2)) from (Below.refl _ _).alloc (Nat.le_refl _) _)
      have HVN := Lib.hid (show ValAt (W6.alloc (.cells #[.int .i64 q, .int .i64 r, .int .i64 s] 2)) (some ⟨W6.heap.size, 0, none⟩) [q, r, s] from ValAt.new W6 [q, r, s])
      have HOW := Lib.hid (own_below' HS6.out.row HW7.out)
      have HSZ := Lib.hid (show W0.heap.size ≤ (W6.alloc (.cells #[.int .i64 q, .int .i64 r, .int .i64 s] 2)).heap.size from Nat.le_trans HS6.out.sz HW7.out.size)
      clear hle
      go_wp2_with (at_builtin; refine wpList_append_own _ rfl _ _ 70 rfl W0.heap.size 74 i0 (.agg #[.int .i64 0, .int .i64 0, .int .i64 0, .slice none 0 0]) 4 48 Try.underlying70 hi0 hz0 hz1 hz2 rfl (by decide) _ _ _ rfl (HOW.out.alloc _) ⟨W6.heap.size + 1, 0, none⟩ 1 1 [.int .i64 1, .int .i64 p, .int .i64 0, .slice (some ⟨W6.heap.size, 0, none⟩) 3 3] rfl rfl (by have h := new_cells (W6.alloc (.cells #[.int .i64 q, .int .i64 r, .int .i64 s] 2)) [.int .i64 1, .int .i64 p, .int .i64 0, .slice (some ⟨W6.heap.size, 0, none⟩) 3 3] 74; rw [World.size_alloc] at h; exact h) (one_rowV ⟨⟨1, p, 0, [q, r, s]⟩, some ⟨W6.heap.size, 0, none⟩, 3⟩) b1 b2 (by have := HSZ.out; rw [World.size_alloc]; omega) ?_; intro v' w9 hown hgrow _; have HA := Lib.hid (HS6.out.app (x := ⟨⟨1, p, 0, [q, r, s]⟩, some ⟨W6.heap.size, 0, none⟩, 3⟩) HW7.out HVN.out hown hgrow); clear hown hgrow)
      go_roundw
      case rel => exact ⟨i + 1, _, by go_num, hlt, by rw [List.map_append, HM.out, HX.out]; simp [rwH, key], HA.out⟩
      case measure => simp [intOf]; omega
    · have hil : i = b.hs.length := by omega
      have HM2 := Lib.hid (show o.map RowV.r = b.hs.map rwH by have h := HM.out; rw [hil, List.take_length] at h; exact h)
      clear HM hil
      have HM := Lib.hid HM2.out
      clear HM2
      go_wp2
      clear e0 e1 e2 e3 e4 hlt hi
      go_loopw [3, 6] (fun vo vi W => ∃ (i : Nat) (o : List RowV), vi = .int .i64 (i : Int) ∧ i ≤ b.ss.length ∧ o.map RowV.r = b.hs.map rwH ++ (b.ss.take i).map rwS ∧ RwS W0.heap.size W0 o vo W) (fun _ vi _ => b.ss.length - (intOf vi).toNat)
      case atStart => exact ⟨0, _, rfl, Nat.zero_le _, by rw [HM.out]; simp, HS.out⟩
      case round =>
        clear HS HM
        obtain ⟨i, o, rfl, hi, hm, hs⟩ := hrel
        have HS := Lib.hid hs
        have HM := Lib.hid hm
        clear hs hm
        obtain ⟨e0, e1, e2, e3, e4⟩ := HBX.out _ HS.out.lo
        by_cases hlt : i < b.ss.length
        · obtain ⟨x, hx⟩ : ∃ x, b.ss[i]? = some x := ⟨b.ss[i], by simp [hlt]⟩
          obtain ⟨b0, off, ha, hb0, hcs⟩ := (HBI.out _ (HLO.out _ HS.out.lo)).ss.at hx
          obtain ⟨p, q, r, rfl⟩ := item3 (HK.out.ss.2 _ (List.mem_of_getElem? hx)).1
          have hle : o.length ≤ 8000 := by have h := congrArg List.length HM.out; simp at h; omega
          have HX := Lib.hid (show (b.ss.take (i + 1)).map rwS = (b.ss.take i).map rwS ++ [rwS [p, q, r]] by rw [take_one hx, List.map_append]; rfl)
          rw [ha] at e1
          have k0 := hcs wr (Below.refl _ _) 0 p rfl
          have k1 := hcs wr (Below.refl _ _) 1 q rfl
          have k2 := hcs wr (Below.refl _ _) 2 r rfl
          rw [Nat.add_zero] at k0
          clear hcs ha hx
          go_upto_region 11 with (fail)
          refine at_world (Φ := fun W => RwS W0.heap.size W0 o u3 W ∧ W.heap[wr.heap.size]? = some (.cells #[.int .i64 p, .int .i64 q, .int .i64 r] 66 (0, 0))) ⟨HS.out.below ((Below.refl _ _).alloc (Nat.le_refl _) _), heap_alloc_new wr _⟩ ?_
          generalize wr.heap.size = h at *
          rintro W6 ⟨hs6, hit⟩
          have c0 := cell_of_row _ _ 0 _ _ (0, 0) hit
          have c1 := cell_of_row _ _ 1 _ _ (0, 0) hit
          have c2 := cell_of_row _ _ 2 _ _ (0, 0) hit
          have HS6 := Lib.hid hs6
          clear hs6 hit HS e0 e1 e2 e3 e4 k0 k1 k2
          have b1 : o.length + 1 ≤ maxLen := by unfold maxLen; omega
          have b2 : (o.length + 1) * 48 ≤ 140737488355328 := by omega
          have HW7 := Lib.hid (show Below W6.heap.size W6 (W6.alloc (.cells #[.int .i64 r] 2)) from (Below.refl _ _).alloc (Nat.le_refl _) _)
          have HVN := Lib.hid (show ValAt (W6.alloc (.cells #[.int .i64 r] 2)) (some ⟨W6.heap.size, 0, none⟩) [r] from ValAt.new W6 [r])
          have HOW := Lib.hid (own_below' HS6.out.row HW7.out)
          have HSZ := Lib.hid (show W0.heap.size ≤ (W6.alloc (.cells #[.int .i64 r] 2)).heap.size from Nat.le_trans HS6.out.sz HW7.out.size)
          clear hle
          go_wp2_with (at_builtin; refine wpList_append_own _ rfl _ _ 70 rfl W0.heap.size 74 i0 (.agg #[.int .i64 0, .int .i64 0, .int .i64 0, .slice none 0 0]) 4 48 Try.underlying70 hi0 hz0 hz1 hz2 rfl (by decide) _ _ _ rfl (HOW.out.alloc _) ⟨W6.heap.size + 1, 0, none⟩ 1 1 [.int .i64 2, .int .i64 p, .int .i64 q, .slice (some ⟨W6.heap.size, 0, none⟩) 1 1] rfl rfl (by have h := new_cells (W6.alloc (.cells #[.int .i64 r] 2)) [.int .i64 2, .int .i64 p, .int .i64 q, .slice (some ⟨W6.heap.size, 0, none⟩) 1 1] 74; rw [World.size_alloc] at h; exact h) (one_rowV ⟨⟨2, p, q, [r]⟩, some ⟨W6.heap.size, 0, none⟩, 1⟩) b1 b2 (by have := HSZ.out; rw [World.size_alloc]; omega) ?_; intro v' w9 hown hgrow _; have HA := Lib.hid (HS6.out.app (x := ⟨⟨2, p, q, [r]⟩, some ⟨W6.heap.size, 0, none⟩, 1⟩) HW7.out HVN.out hown hgrow); clear hown hgrow)
          go_roundw
          case rel => exact ⟨i + 1, _, by go_num, hlt, by rw [List.map_append, HM.out, HX.out]; simp [rwS, key], HA.out⟩
          case measure => simp [intOf]; omega
        · have hil : i = b.ss.length := by omega
          have HM2 := Lib.hid (show o.map RowV.r = b.hs.map rwH ++ b.ss.map rwS by have h := HM.out; rw [hil, List.take_length] at h; exact h)
          clear HM hil
          have HM := Lib.hid HM2.out
          clear HM2
          go_wp2
          clear e0 e1 e2 e3 e4 hlt hi
          go_loopw [3, 8] (fun vo vi W => ∃ (i : Nat) (o : List RowV), vi = .int .i64 (i : Int) ∧ i ≤ b.os.length ∧ o.map RowV.r = b.hs.map rwH ++ b.ss.map rwS ++ (b.os.take i).map rwO ∧ RwS W0.heap.size W0 o vo W) (fun _ vi _ => b.os.length - (intOf vi).toNat)
          case atStart => exact ⟨0, _, rfl, Nat.zero_le _, by rw [HM.out]; simp, HS.out⟩
          case round =>
            clear HS HM
            obtain ⟨i, o, rfl, hi, hm, hs⟩ := hrel
            have HS := Lib.hid hs
            have HM := Lib.hid hm
            clear hs hm
            obtain ⟨e0, e1, e2, e3, e4⟩ := HBX.out _ HS.out.lo
            by_cases hlt : i < b.os.length
            · obtain ⟨x, hx⟩ : ∃ x, b.os[i]? = some x := ⟨b.os[i], by simp [hlt]⟩
              obtain ⟨b0, off, ha, hb0, hcs⟩ := (HBI.out _ (HLO.out _ HS.out.lo)).os.at hx
              obtain ⟨p, q, r, s, t, z, rfl⟩ := item6 (HK.out.os.2 _ (List.mem_of_getElem? hx)).1
              have hle : o.length ≤ 8000 := by have h := congrArg List.length HM.out; simp at h; omega
              have HX := Lib.hid (show (b.os.take (i + 1)).map rwO = (b.os.take i).map rwO ++ [rwO [p, q, r, s, t, z]] by rw [take_one hx, List.map_append]; rfl)
              rw [ha] at e2
              have k0 := hcs wr (Below.refl _ _) 0 p rfl
              have k1 := hcs wr (Below.refl _ _) 1 q rfl
              have k2 := hcs wr (Below.refl _ _) 2 r rfl
              have k3 := hcs wr (Below.refl _ _) 3 s rfl
              have k4 := hcs wr (Below.refl _ _) 4 t rfl
              have k5 := hcs wr (Below.refl _ _) 5 z rfl
              rw [Nat.add_zero] at k0
              clear hcs ha hx
              go_upto_region 16 with (fail)
              refine at_world (Φ := fun W => RwS W0.heap.size W0 o u3 W ∧ W.heap[wr.heap.size]? = some (.cells #[.int .i64 p, .int .i64 q, .int .i64 r, .int .i64 s, .int .i64 t, .int .i64 z] 69 (0, 0))) ⟨HS.out.below ((Below.refl _ _).alloc (Nat.le_refl _) _), heap_alloc_new wr _⟩ ?_
              generalize wr.heap.size = h at *
              rintro W6 ⟨hs6, hit⟩
              have c0 := cell_of_row _ _ 0 _ _ (0, 0) hit
              have c1 := cell_of_row _ _ 1 _ _ (0, 0) hit
              have c2 := cell_of_row _ _ 2 _ _ (0, 0) hit
              have c3 := cell_of_row _ _ 3 _ _ (0, 0) hit
              have c4 := cell_of_row _ _ 4 _ _ (0, 0) hit
              have c5 := cell_of_row _ _ 5 _ _ (0, 0) hit
              have HS6 := Lib.hid hs6
              clear hs6 hit HS e0 e1 e2 e3 e4 k0 k1 k2 k3 k4 k5
              have b1 : o.length + 1 ≤ maxLen := by unfold maxLen; omega
              have b2 : (o.length + 1) * 48 ≤ 140737488355328 := by omega
              have HW7 := Lib.hid (show Below W6.heap.size W6 (W6.alloc (.cells #[.int .i64 q, .int .i64 r, .int .i64 s, .int .i64 t, .int .i64 z] 2)) from (Below.refl _ _).alloc (Nat.le_refl _) _)
              have HVN := Lib.hid (show ValAt (W6.alloc (.cells #[.int .i64 q, .int .i64 r, .int .i64 s, .int .i64 t, .int .i64 z] 2)) (some ⟨W6.heap.size, 0, none⟩) [q, r, s, t, z] from ValAt.new W6 [q, r, s, t, z])
              have HOW := Lib.hid (own_below' HS6.out.row HW7.out)
              have HSZ := Lib.hid (show W0.heap.size ≤ (W6.alloc (.cells #[.int .i64 q, .int .i64 r, .int .i64 s, .int .i64 t, .int .i64 z] 2)).heap.size from Nat.le_trans HS6.out.sz HW7.out.size)
              clear hle
              go_wp2_with (at_builtin; refine wpList_append_own _ rfl _ _ 70 rfl W0.heap.size 74 i0 (.agg #[.int .i64 0, .int .i64 0, .int .i64 0, .slice none 0 0]) 4 48 Try.underlying70 hi0 hz0 hz1 hz2 rfl (by decide) _ _ _ rfl (HOW.out.alloc _) ⟨W6.heap.size + 1, 0, none⟩ 1 1 [.int .i64 3, .int .i64 p, .int .i64 0, .slice (some ⟨W6.heap.size, 0, none⟩) 5 5] rfl rfl (by have h := new_cells (W6.alloc (.cells #[.int .i64 q, .int .i64 r, .int .i64 s, .int .i64 t, .int .i64 z] 2)) [.int .i64 3, .int .i64 p, .int .i64 0, .slice (some ⟨W6.heap.size, 0, none⟩) 5 5] 74; rw [World.size_alloc] at h; exact h) (one_rowV ⟨⟨3, p, 0, [q, r, s, t, z]⟩, some ⟨W6.heap.size, 0, none⟩, 5⟩) b1 b2 (by have := HSZ.out; rw [World.size_alloc]; omega) ?_; intro v' w9 hown hgrow _; have HA := Lib.hid (HS6.out.app (x := ⟨⟨3, p, 0, [q, r, s, t, z]⟩, some ⟨W6.heap.size, 0, none⟩, 5⟩) HW7.out HVN.out hown hgrow); clear hown hgrow)
              go_roundw
              case rel => exact ⟨i + 1, _, by go_num, hlt, by rw [List.map_append, HM.out, HX.out]; simp [rwO, key], HA.out⟩
              case measure => simp [intOf]; omega
            · have hil : i = b.os.length := by omega
              have HM2 := Lib.hid (show o.map RowV.r = b.hs.map rwH ++ b.ss.map rwS ++ b.os.map rwO by have h := HM.out; rw [hil, List.take_length] at h; exact h)
              clear HM hil
              have HM := Lib.hid HM2.out
              clear HM2
              go_wp2
              clear e0 e1 e2 e3 e4 hlt hi
              go_loopw [3, 10] (fun vo vi W => ∃ (i : Nat) (o : List RowV), vi = .int .i64 (i : Int) ∧ i ≤ b.rs.length ∧ o.map RowV.r = b.hs.map rwH ++ b.ss.map rwS ++ b.os.map rwO ++ (b.rs.take i).map rwR ∧ RwS W0.heap.size W0 o vo W) (fun _ vi _ => b.rs.length - (intOf vi).toNat)
              case atStart => exact ⟨0, _, rfl, Nat.zero_le _, by rw [HM.out]; simp, HS.out⟩
              case round =>
                clear HS HM
                obtain ⟨i, o, rfl, hi, hm, hs⟩ := hrel
                have HS := Lib.hid hs
                have HM := Lib.hid hm
                clear hs hm
                obtain ⟨e0, e1, e2, e3, e4⟩ := HBX.out _ HS.out.lo
                by_cases hlt : i < b.rs.length
                · obtain ⟨x, hx⟩ : ∃ x, b.rs[i]? = some x := ⟨b.rs[i], by simp [hlt]⟩
                  obtain ⟨b0, off, ha, hb0, hcs⟩ := (HBI.out _ (HLO.out _ HS.out.lo)).rs.at hx
                  obtain ⟨p, q, rfl⟩ := item2 (HK.out.rs.2 _ (List.mem_of_getElem? hx)).1
                  have hle : o.length ≤ 8000 := by have h := congrArg List.length HM.out; simp at h; omega
                  have HX := Lib.hid (show (b.rs.take (i + 1)).map rwR = (b.rs.take i).map rwR ++ [rwR [p, q]] by rw [take_one hx, List.map_append]; rfl)
                  rw [ha] at e3
                  have k0 := hcs wr (Below.refl _ _) 0 p rfl
                  have k1 := hcs wr (Below.refl _ _) 1 q rfl
                  rw [Nat.add_zero] at k0
                  have HCS := Lib.hid (show ∀ W, Below W0.heap.size W0 W → W.cell? ⟨w.heap.size, 3, none⟩ = some (.slice (some ⟨b0, off, none⟩) b.rs.length v.cr) from fun W h => by rw [← ha]; exact (HBX.out W h).2.2.2.1)
                  have HC2 := Lib.hid (show ∀ W, Below W0.heap.size W0 W → W.cell? ⟨b0, off + i * 2, none⟩ = some (.int .i64 p) ∧ W.cell? ⟨b0, off + i * 2 + 1, none⟩ = some (.int .i64 q) from fun W h => RowsOf.two (HBI.out _ (HLO.out _ h)).rs ha hx)
                  clear hcs k0 k1
                  go_upto_region 20 with (fail)
                  have b1 : o.length + 1 ≤ maxLen := by unfold maxLen; omega
                  have b2 : (o.length + 1) * 48 ≤ 140737488355328 := by omega
                  have HSD := Lib.hid (show RwS W0.heap.size W0 o u3 wr.drew from HS.out.below ((Below.refl _ _).drew))
                  have HW7 := Lib.hid (show Below wr.drew.heap.size wr.drew (wr.drew.alloc (.cells #[.int .i64 q] 2)) from (Below.refl _ _).alloc (Nat.le_refl _) _)
                  have HVN := Lib.hid (show ValAt (wr.drew.alloc (.cells #[.int .i64 q] 2)) (some ⟨wr.drew.heap.size, 0, none⟩) [q] from ValAt.new wr.drew [q])
                  have HOW := Lib.hid (own_below' HSD.out.row HW7.out)
                  refine wp_region_held_drew (S := fun W => Below W0.heap.size W0 W) (by kernel_rfl) (HSD.out.lo) (fun hS => ?_)
                  refine wpAnyH_take (i := 0) (v := u3) rfl (by kernel_rfl) (by kernel_rfl) (by kernel_rfl) (fun _ _ _ h => h) (Or.inl ⟨by simp [Region.wanted], fun W _ => by go_simp⟩) hS ?_
                  simp only [List.getElem_toArray, List.getElem_cons_zero, Act.put, List.setIfInBounds_toArray, List.set_cons_zero, List.set_cons_succ]
                  refine wpAnyH_take (i := 1) (v := .pointer (some ⟨w.heap.size, 3, none⟩)) rfl (by kernel_rfl) (by kernel_rfl) (by kernel_rfl) (fun _ _ _ h => h) (Or.inl ⟨by simp [Region.wanted], fun W _ => by go_simp⟩) hS ?_
                  simp only [List.getElem_toArray, List.getElem_cons_zero, List.getElem_cons_succ, Act.put, List.setIfInBounds_toArray, List.set_cons_zero, List.set_cons_succ]
                  refine wpAnyH_take (i := 2) (v := .slice (some ⟨b0, off, none⟩) b.rs.length v.cr) rfl (by kernel_rfl) (by kernel_rfl) (by kernel_rfl) (fun _ _ _ h => h) (Or.inl ⟨by simp [Region.wanted], fun W hW => by have kc := HCS.out W hW; go_simp⟩) hS ?_
                  simp only [List.getElem_toArray, List.getElem_cons_zero, List.getElem_cons_succ, Act.put, List.setIfInBounds_toArray, List.set_cons_zero, List.set_cons_succ]
                  refine wpAnyH_take (i := 3) (v := .int .i64 (i : Int)) rfl (by kernel_rfl) (by kernel_rfl) (by kernel_rfl) (fun _ _ _ h => h) (Or.inl ⟨by simp [Region.wanted], fun W _ => by go_simp⟩) hS ?_
                  simp only [List.getElem_toArray, List.getElem_cons_zero, List.getElem_cons_succ, Act.put, List.setIfInBounds_toArray, List.set_cons_zero, List.set_cons_succ]
                  refine wpAnyH_take (i := 4) (v := .pointer (some ⟨b0, off + i * 2, none⟩)) rfl (by kernel_rfl) (by kernel_rfl) (by kernel_rfl) (fun _ _ _ h => h) (Or.inl ⟨by simp [Region.wanted], fun W _ => by go_simp⟩) hS ?_
                  simp only [List.getElem_toArray, List.getElem_cons_zero, List.getElem_cons_succ, Act.put, List.setIfInBounds_toArray, List.set_cons_zero, List.set_cons_succ]
                  refine wpAnyH_take (i := 5) (v := .pointer (some ⟨b0, off + i * 2, none⟩)) rfl (by kernel_rfl) (by kernel_rfl) (by kernel_rfl) (fun _ _ _ h => h) (Or.inl ⟨by simp [Region.wanted], fun W _ => by go_simp⟩) hS ?_
                  simp only [List.getElem_toArray, List.getElem_cons_zero, List.getElem_cons_succ, Act.put, List.setIfInBounds_toArray, List.set_cons_zero, List.set_cons_succ]
                  refine wpAnyH_take (i := 6) (v := .int .i64 p) rfl (by kernel_rfl) (by kernel_rfl) (by kernel_rfl) (fun _ _ _ h => h) (Or.inl ⟨by simp [Region.wanted], fun W hW => by have kc := (HC2.out W hW).1; go_simp⟩) hS ?_
                  simp only [List.getElem_toArray, List.getElem_cons_zero, List.getElem_cons_succ, Act.put, List.setIfInBounds_toArray, List.set_cons_zero, List.set_cons_succ]
                  refine wpAnyH_take (i := 7) (v := .pointer (some ⟨w.heap.size, 3, none⟩)) rfl (by kernel_rfl) (by kernel_rfl) (by kernel_rfl) (fun _ _ _ h => h) (Or.inl ⟨by simp [Region.wanted], fun W _ => by go_simp⟩) hS ?_
                  simp only [List.getElem_toArray, List.getElem_cons_zero, List.getElem_cons_succ, Act.put, List.setIfInBounds_toArray, List.set_cons_zero, List.set_cons_succ]
                  refine wpAnyH_take (i := 8) (v := .slice (some ⟨b0, off, none⟩) b.rs.length v.cr) rfl (by kernel_rfl) (by kernel_rfl) (by kernel_rfl) (fun _ _ _ h => h) (Or.inl ⟨by simp [Region.wanted], fun W hW => by have kc := HCS.out W hW; go_simp⟩) hS ?_
                  simp only [List.getElem_toArray, List.getElem_cons_zero, List.getElem_cons_succ, Act.put, List.setIfInBounds_toArray, List.set_cons_zero, List.set_cons_succ]
                  refine wpAnyH_take (i := 9) (v := .int .i64 (i : Int)) rfl (by kernel_rfl) (by kernel_rfl) (by kernel_rfl) (fun _ _ _ h => h) (Or.inl ⟨by simp [Region.wanted], fun W _ => by go_simp⟩) hS ?_
                  simp only [List.getElem_toArray, List.getElem_cons_zero, List.getElem_cons_succ, Act.put, List.setIfInBounds_toArray, List.set_cons_zero, List.set_cons_succ]
                  refine wpAnyH_take (i := 10) (v := .pointer (some ⟨b0, off + i * 2, none⟩)) rfl (by kernel_rfl) (by kernel_rfl) (by kernel_rfl) (fun _ _ _ h => h) (Or.inl ⟨by simp [Region.wanted], fun W _ => by go_simp⟩) hS ?_
                  simp only [List.getElem_toArray, List.getElem_cons_zero, List.getElem_cons_succ, Act.put, List.setIfInBounds_toArray, List.set_cons_zero, List.set_cons_succ]
                  refine wpAnyH_take (i := 11) (v := .pointer (some ⟨b0, off + i * 2 + 1, none⟩)) rfl (by kernel_rfl) (by kernel_rfl) (by kernel_rfl) (fun _ _ _ h => h) (Or.inl ⟨by simp [Region.wanted], fun W _ => by go_simp⟩) hS ?_
                  simp only [List.getElem_toArray, List.getElem_cons_zero, List.getElem_cons_succ, Act.put, List.setIfInBounds_toArray, List.set_cons_zero, List.set_cons_succ]
                  refine wpAnyH_take (i := 12) (v := .int .i64 q) rfl (by kernel_rfl) (by kernel_rfl) (by kernel_rfl) (fun _ _ _ h => h) (Or.inl ⟨by simp [Region.wanted], fun W hW => by have kc := (HC2.out W hW).2; go_simp⟩) hS ?_
                  simp only [List.getElem_toArray, List.getElem_cons_zero, List.getElem_cons_succ, Act.put, List.setIfInBounds_toArray, List.set_cons_zero, List.set_cons_succ]
                  refine wpAnyH_ready (rs := [13]) (by kernel_rfl) (by simp) ?_
                  refine AllReadyH.cons rfl (fun K1 hK1 => ?_) AllReadyH.nil
                  refine wanted_go rfl ?_
                  simp only [List.getElem_toArray, List.getElem_cons_zero, List.getElem_cons_succ]
                  go_wp2
                  refine hK1.out _ _ ((hS).trans (HW7.out.mono HSD.out.sz)) (fun hS1 => ?_)
                  refine wpAnyH_take (i := 14) (v := .agg #[.int .i64 4, .int .i64 p, .int .i64 0, .slice (some ⟨wr.heap.size, 0, none⟩) 1 1]) rfl (by kernel_rfl) (by kernel_rfl) (by kernel_rfl) (fun _ _ _ h => h) (Or.inl ⟨by simp [Region.wanted], fun W _ => by go_simp⟩) hS1 ?_
                  simp only [List.getElem_toArray, List.getElem_cons_zero, List.getElem_cons_succ, Act.put, List.setIfInBounds_toArray, List.set_cons_zero, List.set_cons_succ]
                  refine wpAnyH_ready (rs := [15]) (by kernel_rfl) (by simp) ?_
                  refine AllReadyH.cons rfl (fun K2 hK2 => ?_) AllReadyH.nil
                  refine wanted_go rfl ?_
                  simp only [List.getElem_toArray, List.getElem_cons_zero, List.getElem_cons_succ]
                  go_wp2
                  refine hK2.out _ _ ((hS1).alloc (Nat.le_trans HSD.out.sz HW7.out.size) _) (fun hS2 => ?_)
                  refine wpAnyH_ready (rs := [16]) (by kernel_rfl) (by simp) ?_
                  refine AllReadyH.cons rfl (fun K3 hK3 => ?_) AllReadyH.nil
                  refine wanted_go rfl ?_
                  simp only [List.getElem_toArray, List.getElem_cons_zero, List.getElem_cons_succ]
                  (obtain ⟨v', w9, hr, hown, hgrow, _⟩ := run_append_own (P := Try.prog) (w := (wr.drew.alloc (.cells #[.int .i64 q] 2)).alloc (.cells #[.int .i64 4, .int .i64 p, .int .i64 0, .slice (some ⟨wr.heap.size, 0, none⟩) 1 1] 74)) W0.heap.size 70 70 74 i0 _ 4 48 Try.underlying70 hi0 hz0 hz1 hz2 rfl (by decide) _ _ _ (HOW.out.alloc _) ⟨wr.heap.size + 1, 0, none⟩ 1 1 [.int .i64 4, .int .i64 p, .int .i64 0, .slice (some ⟨wr.heap.size, 0, none⟩) 1 1] rfl (fun j u hu => by have h := new_cells (wr.drew.alloc (.cells #[.int .i64 q] 2)) [.int .i64 4, .int .i64 p, .int .i64 0, .slice (some ⟨wr.heap.size, 0, none⟩) 1 1] 74 j u hu; rw [World.size_alloc] at h; exact h) (one_rowV ⟨⟨4, p, 0, [q]⟩, some ⟨wr.heap.size, 0, none⟩, 1⟩) b1 b2 (by have := HSD.out.sz; have := HW7.out.size; rw [World.size_alloc]; omega); have HA := Lib.hid (HSD.out.app (x := ⟨⟨4, p, 0, [q]⟩, some ⟨wr.heap.size, 0, none⟩, 1⟩) HW7.out HVN.out hown hgrow); refine Lib.wp_append_run _ _ _ _ _ rfl _ _ rfl rfl _ _ hr ?_)
                  refine hK3.out _ _ (HA.out.lo) (fun hS3 => ?_)
                  refine wpAnyH_take (i := 17) (v := v') rfl (by kernel_rfl) (by kernel_rfl) (by kernel_rfl) (fun _ _ _ h => h) (Or.inl ⟨by simp [Region.wanted], fun W _ => by go_simp⟩) hS3 ?_
                  simp only [List.getElem_toArray, List.getElem_cons_zero, List.getElem_cons_succ, Act.put, List.setIfInBounds_toArray, List.set_cons_zero, List.set_cons_succ]
                  refine wpAnyH_done (by kernel_rfl) ?_ _
                  go_wp2
                  go_roundw
                  case rel => exact ⟨i + 1, _, by go_num, hlt, by rw [List.map_append, HM.out, HX.out]; simp [rwR, key], HA.out⟩
                  case measure => simp [intOf]; omega
                · have hil : i = b.rs.length := by omega
                  have HM2 := Lib.hid (show o.map RowV.r = b.hs.map rwH ++ b.ss.map rwS ++ b.os.map rwO ++ b.rs.map rwR by have h := HM.out; rw [hil, List.take_length] at h; exact h)
                  clear HM hil
                  have HM := Lib.hid HM2.out
                  clear HM2
                  have hle : o.length ≤ 8000 := by have h := congrArg List.length HM.out; simp at h; omega
                  have b1 : o.length + 1 ≤ maxLen := by unfold maxLen; omega
                  have b2 : (o.length + 1) * 48 ≤ 140737488355328 := by omega
                  have HW7 := Lib.hid (show Below wr.heap.size wr (wr.alloc (.cells #[.int .i64 b.co] 2)) from (Below.refl _ _).alloc (Nat.le_refl _) _)
                  have HVN := Lib.hid (show ValAt (wr.alloc (.cells #[.int .i64 b.co] 2)) (some ⟨wr.heap.size, 0, none⟩) [b.co] from ValAt.new wr [b.co])
                  have HOW := Lib.hid (own_below' HS.out.row HW7.out)
                  have HSZ := Lib.hid (show W0.heap.size ≤ (wr.alloc (.cells #[.int .i64 b.co] 2)).heap.size from Nat.le_trans HS.out.sz HW7.out.size)
                  clear hle
                  go_wp2_with (at_builtin; refine wpList_append_own _ rfl _ _ 70 rfl W0.heap.size 74 i0 (.agg #[.int .i64 0, .int .i64 0, .int .i64 0, .slice none 0 0]) 4 48 Try.underlying70 hi0 hz0 hz1 hz2 rfl (by decide) _ _ _ rfl (HOW.out.alloc _) ⟨wr.heap.size + 1, 0, none⟩ 1 1 [.int .i64 5, .int .i64 0, .int .i64 0, .slice (some ⟨wr.heap.size, 0, none⟩) 1 1] rfl rfl (by have h := new_cells (wr.alloc (.cells #[.int .i64 b.co] 2)) [.int .i64 5, .int .i64 0, .int .i64 0, .slice (some ⟨wr.heap.size, 0, none⟩) 1 1] 74; rw [World.size_alloc] at h; exact h) (one_rowV ⟨⟨5, 0, 0, [b.co]⟩, some ⟨wr.heap.size, 0, none⟩, 1⟩) b1 b2 (by have := HSZ.out; rw [World.size_alloc]; omega) ?_; intro v' w9 hown hgrow _; have HA := Lib.hid (HS.out.app (x := ⟨⟨5, 0, 0, [b.co]⟩, some ⟨wr.heap.size, 0, none⟩, 1⟩) HW7.out HVN.out hown hgrow); clear hown hgrow)
                  go_ret
                  exact ⟨v', _, rfl, ⟨own_fromD HA.out.row (HSZ0.out), HA.out.val, HLO.out _ HA.out.lo, Nat.le_trans HSZ0.out HA.out.sz⟩, by rw [List.map_append, HM.out]; simp [rowsD, rwC]⟩
end Go.Proofs.Ytellifcjamedkaa
