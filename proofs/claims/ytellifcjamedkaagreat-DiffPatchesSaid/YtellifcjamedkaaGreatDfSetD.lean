/- The document's set of a holder, of a rate: the contracts. -/
import Derived.Test.YtellifcjamedkaaGreatDfSetC
namespace Go.Proofs.YtellifcjamedkaaGreat
open Go.RowKit Base Base2
open List renaming getElem_toArray → lgT, getElem_cons_zero → lgZ, getElem_cons_succ → lgS, setIfInBounds_toArray → lsT, set_cons_zero → lsZ, set_cons_succ → lsS
set_option maxRecDepth 100000 in
set_option maxHeartbeats 16000000 in
theorem set_1y (v : Slots) (b : BookT) (A1 A2 : Option Addr) (C1 C2 nx : Nat) (xa xb : Int) (xv : List Int) (y0 y1 y2 : Int) (w : World) (hb : BookIn w v b) (hk : BookOk 900 b) (hy : I64s w A2 [y0, y1, y2]) :
    Calls Tryz.prog 35 #[.agg (cellsB v b), .agg #[.int .i64 1, .int .i64 xa, .int .i64 xb, .slice A1 nx C1, .slice A2 3 C2]] w (BookAns w (setChT b ⟨1, xa, xb, xv, [y0, y1, y2]⟩)) := by
  obtain ⟨XC, hXC⟩ : ∃ x : Array Value, x = #[.int .i64 1, .int .i64 xa, .int .i64 xb, .slice A1 nx C1, .slice A2 3 C2] := ⟨_, rfl⟩
  obtain ⟨W0, hW0⟩ : ∃ x, ((w.alloc (.cells (cellsB v b) 27)).alloc (.cells #[.int .i64 1, .int .i64 xa, .int .i64 xb, .slice A1 nx C1, .slice A2 3 C2] 43)).alloc (.cells #[.slice none 0 0, .slice none 0 0, .slice none 0 0, .slice none 0 0, .int .i64 0] 27) = x := ⟨_, rfl⟩
  have hA : Below w.heap.size w W0 := by rw [← hW0]; exact (((Below.refl _ w).alloc (Nat.le_refl _) _).alloc (by simp) _).alloc (by simp; omega) _
  have hN := three_new (W := w) (O := .cells (cellsB v b) 27) (P := .cells #[.int .i64 1, .int .i64 xa, .int .i64 xb, .slice A1 nx C1, .slice A2 3 C2] 43) (S := (.cells #[.slice none 0 0, .slice none 0 0, .slice none 0 0, .slice none 0 0, .int .i64 0] 27))
  rw [hW0] at hN
  have HS := Lib.hid (show SetS w XC v b W0 from ⟨hN.1, by rw [hXC]; exact hN.2.1, hN.2.2, hA, hb.below hA⟩)
  have HXC := Lib.hid hXC
  have HK := Lib.hid hk
  have xc := fun (W : World) (h : SetS w XC v b W) (i : Nat) => (cell_of_row _ _ i _ _ _ h.ch).trans (by rw [hXC] : XC[i]? = (#[.int .i64 1, .int .i64 xa, .int .i64 xb, .slice A1 nx C1, .slice A2 3 C2] : Array Value)[i]?)
  have HXX := Lib.hid (fun (v' : Slots) (b' : BookT) (W : World) (h : SetS w XC v' b' W) (i : Nat) => (cell_of_row _ _ i _ _ _ h.ch).trans (by rw [hXC] : XC[i]? = (#[.int .i64 1, .int .i64 xa, .int .i64 xb, .slice A1 nx C1, .slice A2 3 C2] : Array Value)[i]?))
  have b0 := HS.out.bx.cells.1
  have b1 := HS.out.bx.cells.2.1
  have b2 := HS.out.bx.cells.2.2.1
  have b3 := HS.out.bx.cells.2.2.2.1
  have b4 := HS.out.bx.cells.2.2.2.2
  have x0 := xc W0 HS.out 0
  have x1 := xc W0 HS.out 1
  have x2 := xc W0 HS.out 2
  have x4 := xc W0 HS.out 4
  clear xc
  obtain ⟨yg, yo, rfl, hyl, hyc⟩ := i64_cells hy (by simp)
  have HYC := Lib.hid (fun (W : World) (h : Below w.heap.size w W) => hyc W h)
  have z0 := HYC.out W0 HS.out.lo 0 y0 rfl
  have z1 := HYC.out W0 HS.out.lo 1 y1 rfl
  have z2 := HYC.out W0 HS.out.lo 2 y2 rfl
  rw [Nat.add_zero] at z0
  have HYF := Lib.hid (fun (W1 W : World) (h1 : Below w.heap.size w W1) (h : FrX w.heap.size W1 W) (i : Nat) (z : Int) (hz : ([y0, y1, y2] : List Int)[i]? = some z) => show W.cell? ⟨yg, yo + i, none⟩ = some (.int .i64 z) by
    rw [h.cellX (by omega) (Nat.lt_of_lt_of_le hyl h1.size)]; exact hyc W1 h1 i z hz)
  clear hy hyc hyl
  clear hb hk hXC hA hN
  obtain ⟨CB, hCB⟩ : ∃ x, cellsB v b = x := ⟨_, rfl⟩
  have HCB := Lib.hid hCB
  rw [hCB] at hW0 ⊢
  clear hCB
  obtain ⟨i0, hi0, hz0, hz1, hz2⟩ := info_parts infoH
  have HROW := Lib.hid HS.out.inn.hs
  have hkl := HK.out.hs.1
  have HKI := Lib.hid HK.out.hs.2
  have HCB1 := Lib.hid (fun W (h : Below W0.heap.size W0 W) => (HS.out.below h).bx.cells.1)
  have HCX1 := Lib.hid (fun W (h : Below W0.heap.size W0 W) => HXX.out _ _ _ (HS.out.below h) 1)
  have HSI := Lib.hid (show SetSt W0.heap.size W0 71 4 [] (.slice none 0 0) W0 from SetSt.nil (Nat.le_refl _))
  obtain ⟨L, hL⟩ : ∃ L, b.hs = L := ⟨_, rfl⟩
  have HLL := Lib.hid hL
  rw [hL] at HROW hkl HKI HCB1
  obtain ⟨av0, hav⟩ : ∃ a, v.h = a := ⟨_, rfl⟩
  obtain ⟨cv0, hcv⟩ : ∃ a, v.ch = a := ⟨_, rfl⟩
  rw [hav] at HROW HCB1
  rw [hcv] at HCB1
  clear hL hav hcv
  go_enter Tryz.func35, Tryz.ntmps35
  go_wp2
  clear b0 b1 b2 b3 b4 x0 x1 x2 x4 hW0 z0 z1 z2
  go_loopw [6, 7] (fun vo vi W => ∃ (j : Nat) (o : List Item), vi = .int .i64 (j : Int) ∧ j ≤ L.length ∧ (L.take j).filter (fun y => key 0 y != xa) = o ∧ SetSt W0.heap.size W0 71 4 o vo W) (fun _ vi _ => L.length - (intOf vi).toNat)
  case atStart => exact ⟨0, [], rfl, Nat.zero_le _, by rw [List.take_zero]; rfl, HSI.out⟩
  case round =>
    clear HSI
    obtain ⟨j, o, rfl, hj, hfo, hst⟩ := hrel
    have hol : o.length ≤ j := by
      have h := List.length_filter_le (fun y => key 0 y != xa) (L.take j)
      rw [hfo, List.length_take] at h
      omega
    have HSS := Lib.hid hst
    have HFO := Lib.hid hfo
    have c0 := HCB1.out _ HSS.out.lo
    clear hst hfo
    by_cases hlt : j < L.length
    · obtain ⟨y, hy⟩ : ∃ y, L[j]? = some y := ⟨L[j], by simp [hlt]⟩
      obtain ⟨bq, off, rfl, hb0, hcs⟩ := HROW.out.at hy
      obtain ⟨p, q, r, s, rfl⟩ := item4 (HKI.out _ (List.mem_of_getElem? hy)).1
      have HNX := Lib.hid (show (L.take (j + 1)).filter (fun y => key 0 y != xa) = o ++ (if (p != xa) = true then [[p, q, r, s]] else []) by rw [take_one hy, List.filter_append, HFO.out, List.filter_cons, List.filter_nil]; rfl)
      have HCS := Lib.hid hcs
      have HLD := Lib.hid (fun W (h : Below W0.heap.size W0 W) => load_hold W bq (off + j * 4) p q r s (HCS.out W h))
      clear hcs hy
      have k0 := HCS.out wr HSS.out.lo 0 p rfl
      rw [Nat.add_zero] at k0
      have x1 := HCX1.out wr HSS.out.lo
      have m1 : o.length + 1 ≤ maxLen := by unfold maxLen; omega
      have m2 : (o.length + 1) * 32 ≤ 140737488355328 := by omega
      obtain ⟨g, hg⟩ : ∃ g, (p != xa) = g := ⟨_, rfl⟩
      rw [hg] at HNX
      cases g with
      | false =>
        go_wp2
        go_quiet (fail)
        have HSq := Lib.hid (HSS.out.drewN nq)
        go_wp2
        go_roundw
        case rel => exact ⟨j + 1, _, by go_num, hlt, by rw [HNX.out]; simp, HSq.out⟩
        case measure => simp [intOf]; omega
      | true =>
        go_wp2
        go_quiet (fail)
        have HSq := Lib.hid (HSS.out.drewN nq)
        go_wp2_with (first | ((with_reducible refine atLoadS (ty := 71) (x := .tmp 40) rfl ?_); refine loadE (by rfl) 71 (.tmp 40) rfl _ (.agg #[.int .i64 p, .int .i64 q, .int .i64 r, .int .i64 s]) rfl (HLD.out _ HSq.out.lo) ?_) | (at_builtin; (refine wpList_append_own _ rfl _ _ 22 rfl W0.heap.size 71 i0 (.agg #[.int .i64 0, .int .i64 0, .int .i64 0, .int .i64 0]) 4 32 Tryz.underlying22 hi0 hz0 hz1 hz2 rfl (by decide) _ _ _ rfl (HSq.out.row.alloc _) ⟨wr.heap.size, 0, none⟩ 1 1 [.int .i64 p, .int .i64 q, .int .i64 r, .int .i64 s] rfl rfl (new_cells _ [.int .i64 p, .int .i64 q, .int .i64 r, .int .i64 s] _) (one_items [p, q, r, s]) m1 m2 (Nat.le_trans HSq.out.sz (by simp)) ?_; intro v' S4w hown hgrow _; have S4 := Lib.hid (SetSt.app (x := [p, q, r, s]) HSq.out hown hgrow); clear hown hgrow)))
        go_roundw
        case rel => exact ⟨j + 1, _, by go_num, hlt, by rw [HNX.out]; simp, S4.out⟩
        case measure => simp [intOf]; omega
    · have hfl : L.filter (fun y => key 0 y != xa) = o := by have h := HFO.out; rw [List.take_of_length_le (by omega)] at h; exact h
      obtain ⟨av, cv, hvo⟩ := own_formK HSS.out.row
      subst hvo
      have hs2 := HS.out.below HSS.out.lo
      have hlo : LenB { b with hs := o } := by
        have k1 := len_ok HK.out
        refine ⟨?_, ?_, ?_, ?_⟩
        · intro x hx
          have hx2 : x ∈ o := hx
          rw [← hfl] at hx2
          exact k1.h x (by rw [HLL.out]; exact (List.mem_filter.1 hx2).1)
        · exact k1.s
        · exact k1.o
        · exact k1.r
      have hin2 : BookIn wr ({ v with h := av, ch := cv } : Slots) ({ b with hs := o } : BookT) := ⟨rows_ownS hlo.h HSS.out.row, hs2.inn.ss, hs2.inn.os, hs2.inn.rs⟩
      have HS5 := Lib.hid (hs2.cell (v' := ({ v with h := av, ch := cv } : Slots)) (b' := ({ b with hs := o } : BookT)) (i := 0) (u := .slice av o.length cv) hin2 hlo (by simp [cellsB]))
      have hfz := free_of_blkN hs2.bx 0
      have HLO := Lib.hid hlo
      have HFL := Lib.hid hfl
      clear hs2 hin2 hlo hfl
      go_upto_region 13 with (fail)
      obtain ⟨W3, hW3⟩ : ∃ x, wr.setCell ⟨w.heap.size, 0, none⟩ (.slice av o.length cv) = x := ⟨_, rfl⟩
      rw [hW3] at HS5 ⊢
      clear hW3 hfz c0
      have x4 := HXX.out _ _ _ HS5.out 4
      have hit : ItemsOk 4 1000 ({ b with hs := o } : BookT).hs := ⟨by show o.length ≤ 1000; omega, fun x hx => by
        have hx2 : x ∈ o := hx
        rw [← HFL.out] at hx2
        exact HKI.out x (List.mem_filter.1 hx2).1⟩
      have HIT := Lib.hid hit
      clear hit
      go_upto_region 14 with (fail)
      clear x4
      have HCX := Lib.hid (fun W (h : FrX w.heap.size W3 W) (i : Nat) => (cell_of_row _ _ i _ _ _ (h.same _ _ (by omega) HS5.out.ch)).trans (by rw [HXC.out] : XC[i]? = (#[.int .i64 1, .int .i64 xa, .int .i64 xb, .slice A1 nx C1, .slice (some ⟨yg, yo, none⟩) 3 C2] : Array Value)[i]?))
      have HYX := Lib.hid (fun W (h : FrX w.heap.size W3 W) => (fun i => HYF.out W3 W HS5.out.lo h i))
      have HCT := Lib.hid (fun W (h : Below W3.heap.size W3 W) => setholder27 ({ v with h := av, ch := cv } : Slots) ({ b with hs := o } : BookT) xa y0 y1 y2 W (HS5.out.inn.below h) (HIT.out))
      have hlk : LenB (setHolderT ({ b with hs := o } : BookT) [xa, y0, y1, y2]) := len_holder HLO.out rfl
      go_upto_region 14 with (fail)
      refine wp_region_held_drew (S := fun W => FrX w.heap.size W3 W) (by kernel_rfl) (FrX.below ((Below.refl _ _).drew)) (fun hS => ?_)
      refine wpAnyH_take (i := 1) (v := .pointer (some ⟨w.heap.size + 1, 1, none⟩)) rfl (by kernel_rfl) (by kernel_rfl) (by kernel_rfl) (fun _ _ _ h => h) (Or.inl ⟨by simp [Region.wanted], fun W _ => by go_simp⟩) hS ?_
      simp only [lgT, lgZ, lgS, Act.put, lsT, lsZ, lsS]
      refine wpAnyH_take (i := 2) (v := .int .i64 xa) rfl (by kernel_rfl) (by kernel_rfl) (by kernel_rfl) (fun _ _ _ h => h) (Or.inl ⟨by simp [Region.wanted], fun W hW => by have kc := HCX.out W hW 1; go_simp⟩) hS ?_
      simp only [lgT, lgZ, lgS, Act.put, lsT, lsZ, lsS]
      refine wpAnyH_take (i := 3) (v := .slice (some ⟨yg, yo, none⟩) 3 C2) rfl (by kernel_rfl) (by kernel_rfl) (by kernel_rfl) (fun _ _ _ h => h) (Or.inl ⟨by simp [Region.wanted], fun W _ => by go_simp⟩) hS ?_
      simp only [lgT, lgZ, lgS, Act.put, lsT, lsZ, lsS]
      refine wpAnyH_take (i := 4) (v := .pointer (some ⟨yg, yo, none⟩)) rfl (by kernel_rfl) (by kernel_rfl) (by kernel_rfl) (fun _ _ _ h => h) (Or.inl ⟨by simp [Region.wanted], fun W _ => by go_simp⟩) hS ?_
      simp only [lgT, lgZ, lgS, Act.put, lsT, lsZ, lsS]
      refine wpAnyH_take (i := 5) (v := .int .i64 y0) rfl (by kernel_rfl) (by kernel_rfl) (by kernel_rfl) (fun _ _ _ h => h) (Or.inl ⟨by simp [Region.wanted], fun W hW => by have kz := HYX.out W hW 0 y0 rfl; rw [Nat.add_zero] at kz; go_simp⟩) hS ?_
      simp only [lgT, lgZ, lgS, Act.put, lsT, lsZ, lsS]
      refine wpAnyH_take (i := 6) (v := .slice (some ⟨yg, yo, none⟩) 3 C2) rfl (by kernel_rfl) (by kernel_rfl) (by kernel_rfl) (fun _ _ _ h => h) (Or.inl ⟨by simp [Region.wanted], fun W _ => by go_simp⟩) hS ?_
      simp only [lgT, lgZ, lgS, Act.put, lsT, lsZ, lsS]
      refine wpAnyH_take (i := 7) (v := .pointer (some ⟨yg, yo + 1, none⟩)) rfl (by kernel_rfl) (by kernel_rfl) (by kernel_rfl) (fun _ _ _ h => h) (Or.inl ⟨by simp [Region.wanted], fun W _ => by go_simp⟩) hS ?_
      simp only [lgT, lgZ, lgS, Act.put, lsT, lsZ, lsS]
      refine wpAnyH_take (i := 8) (v := .int .i64 y1) rfl (by kernel_rfl) (by kernel_rfl) (by kernel_rfl) (fun _ _ _ h => h) (Or.inl ⟨by simp [Region.wanted], fun W hW => by have kz := HYX.out W hW 1 y1 rfl; go_simp⟩) hS ?_
      simp only [lgT, lgZ, lgS, Act.put, lsT, lsZ, lsS]
      refine wpAnyH_take (i := 9) (v := .slice (some ⟨yg, yo, none⟩) 3 C2) rfl (by kernel_rfl) (by kernel_rfl) (by kernel_rfl) (fun _ _ _ h => h) (Or.inl ⟨by simp [Region.wanted], fun W _ => by go_simp⟩) hS ?_
      simp only [lgT, lgZ, lgS, Act.put, lsT, lsZ, lsS]
      refine wpAnyH_take (i := 10) (v := .pointer (some ⟨yg, yo + 2, none⟩)) rfl (by kernel_rfl) (by kernel_rfl) (by kernel_rfl) (fun _ _ _ h => h) (Or.inl ⟨by simp [Region.wanted], fun W _ => by go_simp⟩) hS ?_
      simp only [lgT, lgZ, lgS, Act.put, lsT, lsZ, lsS]
      refine wpAnyH_take (i := 11) (v := .int .i64 y2) rfl (by kernel_rfl) (by kernel_rfl) (by kernel_rfl) (fun _ _ _ h => h) (Or.inl ⟨by simp [Region.wanted], fun W hW => by have kz := HYX.out W hW 2 y2 rfl; go_simp⟩) hS ?_
      simp only [lgT, lgZ, lgS, Act.put, lsT, lsZ, lsS]
      refine wpAnyH_take (i := 12) (v := .agg #[.int .i64 xa, .int .i64 y0, .int .i64 y1, .int .i64 y2]) rfl (by kernel_rfl) (by kernel_rfl) (by kernel_rfl) (fun _ _ _ h => h) (Or.inl ⟨by simp [Region.wanted], fun W _ => by go_simp⟩) hS ?_
      simp only [lgT, lgZ, lgS, Act.put, lsT, lsZ, lsS]
      refine wpAnyH_ready (rs := [0]) (by kernel_rfl) (by simp) ?_
      refine AllReadyH.cons rfl (fun K0 hK0 => ?_) AllReadyH.nil
      refine wanted_go rfl ?_
      simp only [lgT, lgZ]
      have hld0 := load_book (W := W3.drew) (show BoxB W3.drew w.heap.size ({ v with h := av, ch := cv } : Slots) ({ b with hs := o } : BookT) from HS5.out.bx)
      refine wp_load_known 27 (.tmp 2) rfl (.pointer (some ⟨w.heap.size, 0, none⟩)) _ rfl hld0 ?_
      refine hK0.out _ _ (FrX.below ((Below.refl _ _).drew)) (fun q0 => ?_)
      refine wpAnyH_ready (rs := [13]) (by kernel_rfl) (by simp) ?_
      refine AllReadyH.cons rfl (fun K1 hK1 => ?_) AllReadyH.nil
      refine wanted_go rfl ?_
      simp only [lgT, lgZ, lgS]
      go_wp2_with (go_at_call 61; refine (HCT.out W3.drew ((Below.refl _ _).drew)).mono ?_; rintro e w9 ⟨⟨v9, rfl, hi9⟩, hb9⟩; have HI9 := Lib.hid hi9; have HB9 := Lib.hid (((Below.refl _ W3).drew : Below W3.heap.size W3 W3.drew).trans hb9); clear hi9 hb9)
      refine hK1.out _ _ (FrX.below HB9.out) (fun q1 => ?_)
      have hs9 := HS5.out.below HB9.out
      refine wpAnyH_ready (rs := [14]) (by kernel_rfl) (by simp) ?_
      refine AllReadyH.cons rfl (fun K2 hK2 => ?_) AllReadyH.nil
      refine wanted_go rfl ?_
      simp only [lgT, lgZ, lgS]
      refine wp_store_row 27 (.tmp 2) (.tmp 63) rfl w.heap.size (cellsB v9 (setHolderT ({ b with hs := o } : BookT) [xa, y0, y1, y2])) rfl rfl 27 _ hs9.bx info27 rfl (by simp [cellsB, Value.oneCell']) ?_
      refine hK2.out _ _ ((FrX.below HB9.out).trans (FrX.row _)) (fun q2 => ?_)
      refine wpAnyH_done (by kernel_rfl) ?_ _
      have HSE := Lib.hid (hs9.put HI9.out (hlk))
      clear hs9 q0 q1 q2 hld0 hS
      go_upto_region 37 with (fail)
      have HLD := Lib.hid (load_book HSE.out.bx)
      obtain ⟨e1, e2⟩ := set_end HSE.out.lo HSE.out.inn hlk HSE.out.rz
      have HE1 := Lib.hid e1
      have HE2 := Lib.hid e2
      have HRZ := Lib.hid HSE.out.rz
      clear e1 e2
      go_wp2_with (first | ((with_reducible refine atLoadS (ty := 27) (x := .tmp 2) rfl ?_); refine loadE (by rfl) 27 (.tmp 2) rfl _ (.agg (cellsB v9 (setHolderT ({ b with hs := o } : BookT) [xa, y0, y1, y2]))) rfl HLD.out ?_) | ((with_reducible refine atStoreP (ty := 27) (x := .tmp 4) (y := .tmp 176) rfl ?_); refine wpList_store_row rfl 27 (.tmp 4) (.tmp 176) rfl (w.heap.size + 2) (cellsB v9 (setHolderT ({ b with hs := o } : BookT) [xa, y0, y1, y2])) rfl rfl 27 _ HRZ.out info27 rfl (by simp [cellsB, Value.oneCell']) ?_))
      refine ret_cell rfl rfl rfl HE1.out Tryz.underlying27 rfl info27 ?_
      rw [show BookAns w (setChT b ⟨1, xa, xb, xv, [y0, y1, y2]⟩) = BookAns w (setHolderT ({ b with hs := o } : BookT) [xa, y0, y1, y2]) from by show BookAns w (setHolderT { b with hs := b.hs.filter (fun y => key 0 y != xa) } _) = _; rw [HLL.out, HFL.out]; rfl]; exact HE2.out
set_option maxRecDepth 100000 in
set_option maxHeartbeats 16000000 in
theorem set_1n (v : Slots) (b : BookT) (A1 A2 : Option Addr) (C1 C2 nx : Nat) (xa xb : Int) (xv : List Int) (w : World) (hb : BookIn w v b) (hk : BookOk 900 b) :
    Calls Tryz.prog 35 #[.agg (cellsB v b), .agg #[.int .i64 1, .int .i64 xa, .int .i64 xb, .slice A1 nx C1, .slice A2 0 C2]] w (BookAns w (setChT b ⟨1, xa, xb, xv, []⟩)) := by
  obtain ⟨XC, hXC⟩ : ∃ x : Array Value, x = #[.int .i64 1, .int .i64 xa, .int .i64 xb, .slice A1 nx C1, .slice A2 0 C2] := ⟨_, rfl⟩
  obtain ⟨W0, hW0⟩ : ∃ x, ((w.alloc (.cells (cellsB v b) 27)).alloc (.cells #[.int .i64 1, .int .i64 xa, .int .i64 xb, .slice A1 nx C1, .slice A2 0 C2] 43)).alloc (.cells #[.slice none 0 0, .slice none 0 0, .slice none 0 0, .slice none 0 0, .int .i64 0] 27) = x := ⟨_, rfl⟩
  have hA : Below w.heap.size w W0 := by rw [← hW0]; exact (((Below.refl _ w).alloc (Nat.le_refl _) _).alloc (by simp) _).alloc (by simp; omega) _
  have hN := three_new (W := w) (O := .cells (cellsB v b) 27) (P := .cells #[.int .i64 1, .int .i64 xa, .int .i64 xb, .slice A1 nx C1, .slice A2 0 C2] 43) (S := (.cells #[.slice none 0 0, .slice none 0 0, .slice none 0 0, .slice none 0 0, .int .i64 0] 27))
  rw [hW0] at hN
  have HS := Lib.hid (show SetS w XC v b W0 from ⟨hN.1, by rw [hXC]; exact hN.2.1, hN.2.2, hA, hb.below hA⟩)
  have HXC := Lib.hid hXC
  have HK := Lib.hid hk
  have xc := fun (W : World) (h : SetS w XC v b W) (i : Nat) => (cell_of_row _ _ i _ _ _ h.ch).trans (by rw [hXC] : XC[i]? = (#[.int .i64 1, .int .i64 xa, .int .i64 xb, .slice A1 nx C1, .slice A2 0 C2] : Array Value)[i]?)
  have HXX := Lib.hid (fun (v' : Slots) (b' : BookT) (W : World) (h : SetS w XC v' b' W) (i : Nat) => (cell_of_row _ _ i _ _ _ h.ch).trans (by rw [hXC] : XC[i]? = (#[.int .i64 1, .int .i64 xa, .int .i64 xb, .slice A1 nx C1, .slice A2 0 C2] : Array Value)[i]?))
  have b0 := HS.out.bx.cells.1
  have b1 := HS.out.bx.cells.2.1
  have b2 := HS.out.bx.cells.2.2.1
  have b3 := HS.out.bx.cells.2.2.2.1
  have b4 := HS.out.bx.cells.2.2.2.2
  have x0 := xc W0 HS.out 0
  have x1 := xc W0 HS.out 1
  have x2 := xc W0 HS.out 2
  have x4 := xc W0 HS.out 4
  clear xc
  clear hb hk hXC hA hN
  obtain ⟨CB, hCB⟩ : ∃ x, cellsB v b = x := ⟨_, rfl⟩
  have HCB := Lib.hid hCB
  rw [hCB] at hW0 ⊢
  clear hCB
  have hmk := make5
  go_enter Tryz.func35, Tryz.ntmps35
  go_upto_region 4 with (fail)
  refine at_world (Φ := fun W => SetS w XC v b W ∧ W.heap[W0.heap.size]? = some (.cells #[.int .i64 0, .int .i64 0, .int .i64 0, .int .i64 0, .int .i64 0] 2 (0, 0)) ∧ Below W0.heap.size W0 W) ⟨HS.out.below ((Below.refl _ _).alloc (Nat.le_refl _) _), heap_alloc_new W0 _, (Below.refl _ _).alloc (Nat.le_refl _) _⟩ ?_
  rintro W1 ⟨hs1, hzz, hb01⟩
  have HS1 := Lib.hid hs1
  have HZZ := Lib.hid hzz
  have hzn : w.heap.size ≠ W0.heap.size := by have := HS.out.bx; have := lt_of_blk this; omega
  have HZN := Lib.hid hzn
  have HYZ := Lib.hid (fun (W1' W : World) (h1 : W1'.heap[W0.heap.size]? = some (.cells #[.int .i64 0, .int .i64 0, .int .i64 0, .int .i64 0, .int .i64 0] 2 (0, 0))) (h : FrX w.heap.size W1' W) (i : Nat) => (cell_of_row _ _ i _ _ _ (h.same _ _ (Ne.symm HZN.out) h1) : W.cell? ⟨W0.heap.size, i, none⟩ = (#[.int .i64 0, .int .i64 0, .int .i64 0, .int .i64 0, .int .i64 0] : Array Value)[i]?))
  clear hs1 hzz hb01 hzn hmk hW0 b0 b1 b2 b3 b4 x0 x1 x2 x4
  generalize W0.heap.size = zg at *
  obtain ⟨i0, hi0, hz0, hz1, hz2⟩ := info_parts infoH
  have HROW := Lib.hid HS1.out.inn.hs
  have hkl := HK.out.hs.1
  have HKI := Lib.hid HK.out.hs.2
  have HCB1 := Lib.hid (fun W (h : Below W1.heap.size W1 W) => (HS1.out.below h).bx.cells.1)
  have HCX1 := Lib.hid (fun W (h : Below W1.heap.size W1 W) => HXX.out _ _ _ (HS1.out.below h) 1)
  have HSI := Lib.hid (show SetSt W1.heap.size W1 71 4 [] (.slice none 0 0) W1 from SetSt.nil (Nat.le_refl _))
  obtain ⟨L, hL⟩ : ∃ L, b.hs = L := ⟨_, rfl⟩
  have HLL := Lib.hid hL
  rw [hL] at HROW hkl HKI HCB1
  obtain ⟨av0, hav⟩ : ∃ a, v.h = a := ⟨_, rfl⟩
  obtain ⟨cv0, hcv⟩ : ∃ a, v.ch = a := ⟨_, rfl⟩
  rw [hav] at HROW HCB1
  rw [hcv] at HCB1
  clear hL hav hcv
  have b0 := HS1.out.bx.cells.1
  have b1 := HS1.out.bx.cells.2.1
  have b2 := HS1.out.bx.cells.2.2.1
  have b3 := HS1.out.bx.cells.2.2.2.1
  have b4 := HS1.out.bx.cells.2.2.2.2
  have x0 := HXX.out _ _ _ HS1.out 0
  have x1 := HXX.out _ _ _ HS1.out 1
  have x2 := HXX.out _ _ _ HS1.out 2
  have x4 := HXX.out _ _ _ HS1.out 4
  go_wp2
  clear b0 b1 b2 b3 b4 x0 x1 x2 x4
  go_loopw [6, 7] (fun vo vi W => ∃ (j : Nat) (o : List Item), vi = .int .i64 (j : Int) ∧ j ≤ L.length ∧ (L.take j).filter (fun y => key 0 y != xa) = o ∧ SetSt W1.heap.size W1 71 4 o vo W) (fun _ vi _ => L.length - (intOf vi).toNat)
  case atStart => exact ⟨0, [], rfl, Nat.zero_le _, by rw [List.take_zero]; rfl, HSI.out⟩
  case round =>
    clear HSI
    obtain ⟨j, o, rfl, hj, hfo, hst⟩ := hrel
    have hol : o.length ≤ j := by
      have h := List.length_filter_le (fun y => key 0 y != xa) (L.take j)
      rw [hfo, List.length_take] at h
      omega
    have HSS := Lib.hid hst
    have HFO := Lib.hid hfo
    have c0 := HCB1.out _ HSS.out.lo
    clear hst hfo
    by_cases hlt : j < L.length
    · obtain ⟨y, hy⟩ : ∃ y, L[j]? = some y := ⟨L[j], by simp [hlt]⟩
      obtain ⟨bq, off, rfl, hb0, hcs⟩ := HROW.out.at hy
      obtain ⟨p, q, r, s, rfl⟩ := item4 (HKI.out _ (List.mem_of_getElem? hy)).1
      have HNX := Lib.hid (show (L.take (j + 1)).filter (fun y => key 0 y != xa) = o ++ (if (p != xa) = true then [[p, q, r, s]] else []) by rw [take_one hy, List.filter_append, HFO.out, List.filter_cons, List.filter_nil]; rfl)
      have HCS := Lib.hid hcs
      have HLD := Lib.hid (fun W (h : Below W1.heap.size W1 W) => load_hold W bq (off + j * 4) p q r s (HCS.out W h))
      clear hcs hy
      have k0 := HCS.out wr HSS.out.lo 0 p rfl
      rw [Nat.add_zero] at k0
      have x1 := HCX1.out wr HSS.out.lo
      have m1 : o.length + 1 ≤ maxLen := by unfold maxLen; omega
      have m2 : (o.length + 1) * 32 ≤ 140737488355328 := by omega
      obtain ⟨g, hg⟩ : ∃ g, (p != xa) = g := ⟨_, rfl⟩
      rw [hg] at HNX
      cases g with
      | false =>
        go_wp2
        go_quiet (fail)
        have HSq := Lib.hid (HSS.out.drewN nq)
        go_wp2
        go_roundw
        case rel => exact ⟨j + 1, _, by go_num, hlt, by rw [HNX.out]; simp, HSq.out⟩
        case measure => simp [intOf]; omega
      | true =>
        go_wp2
        go_quiet (fail)
        have HSq := Lib.hid (HSS.out.drewN nq)
        go_wp2_with (first | ((with_reducible refine atLoadS (ty := 71) (x := .tmp 40) rfl ?_); refine loadE (by rfl) 71 (.tmp 40) rfl _ (.agg #[.int .i64 p, .int .i64 q, .int .i64 r, .int .i64 s]) rfl (HLD.out _ HSq.out.lo) ?_) | (at_builtin; (refine wpList_append_own _ rfl _ _ 22 rfl W1.heap.size 71 i0 (.agg #[.int .i64 0, .int .i64 0, .int .i64 0, .int .i64 0]) 4 32 Tryz.underlying22 hi0 hz0 hz1 hz2 rfl (by decide) _ _ _ rfl (HSq.out.row.alloc _) ⟨wr.heap.size, 0, none⟩ 1 1 [.int .i64 p, .int .i64 q, .int .i64 r, .int .i64 s] rfl rfl (new_cells _ [.int .i64 p, .int .i64 q, .int .i64 r, .int .i64 s] _) (one_items [p, q, r, s]) m1 m2 (Nat.le_trans HSq.out.sz (by simp)) ?_; intro v' S4w hown hgrow _; have S4 := Lib.hid (SetSt.app (x := [p, q, r, s]) HSq.out hown hgrow); clear hown hgrow)))
        go_roundw
        case rel => exact ⟨j + 1, _, by go_num, hlt, by rw [HNX.out]; simp, S4.out⟩
        case measure => simp [intOf]; omega
    · have hfl : L.filter (fun y => key 0 y != xa) = o := by have h := HFO.out; rw [List.take_of_length_le (by omega)] at h; exact h
      obtain ⟨av, cv, hvo⟩ := own_formK HSS.out.row
      subst hvo
      have hs2 := HS1.out.below HSS.out.lo
      have hlo : LenB { b with hs := o } := by
        have k1 := len_ok HK.out
        refine ⟨?_, ?_, ?_, ?_⟩
        · intro x hx
          have hx2 : x ∈ o := hx
          rw [← hfl] at hx2
          exact k1.h x (by rw [HLL.out]; exact (List.mem_filter.1 hx2).1)
        · exact k1.s
        · exact k1.o
        · exact k1.r
      have hin2 : BookIn wr ({ v with h := av, ch := cv } : Slots) ({ b with hs := o } : BookT) := ⟨rows_ownS hlo.h HSS.out.row, hs2.inn.ss, hs2.inn.os, hs2.inn.rs⟩
      have HS5 := Lib.hid (hs2.cell (v' := ({ v with h := av, ch := cv } : Slots)) (b' := ({ b with hs := o } : BookT)) (i := 0) (u := .slice av o.length cv) hin2 hlo (by simp [cellsB]))
      have hz5 : (wr.setCell ⟨w.heap.size, 0, none⟩ (.slice av o.length cv)).heap[zg]? = _ := (Below.heap_setCell _ _ _ _ (Ne.symm HZN.out)).trans ((HSS.out.lo.block _ (lt_of_blk HZZ.out)).trans HZZ.out)
      have HZ5 := Lib.hid hz5
      clear hz5
      have hfz := free_of_blkN hs2.bx 0
      have HLO := Lib.hid hlo
      have HFL := Lib.hid hfl
      clear hs2 hin2 hlo hfl
      go_upto_region 13 with (fail)
      obtain ⟨W3, hW3⟩ : ∃ x, wr.setCell ⟨w.heap.size, 0, none⟩ (.slice av o.length cv) = x := ⟨_, rfl⟩
      rw [hW3] at HS5 HZ5 ⊢
      clear hW3 hfz c0
      have x4 := HXX.out _ _ _ HS5.out 4
      go_upto_region 37 with (fail)
      clear x4
      have hlk := HLO.out
      have HLD := Lib.hid (load_book HS5.out.bx)
      obtain ⟨e1, e2⟩ := set_end HS5.out.lo HS5.out.inn hlk HS5.out.rz
      have HE1 := Lib.hid e1
      have HE2 := Lib.hid e2
      have HRZ := Lib.hid HS5.out.rz
      clear e1 e2
      go_wp2_with (first | ((with_reducible refine atLoadS (ty := 27) (x := .tmp 2) rfl ?_); refine loadE (by rfl) 27 (.tmp 2) rfl _ (.agg (cellsB ({ v with h := av, ch := cv } : Slots) ({ b with hs := o } : BookT))) rfl HLD.out ?_) | ((with_reducible refine atStoreP (ty := 27) (x := .tmp 4) (y := .tmp 176) rfl ?_); refine wpList_store_row rfl 27 (.tmp 4) (.tmp 176) rfl (w.heap.size + 2) (cellsB ({ v with h := av, ch := cv } : Slots) ({ b with hs := o } : BookT)) rfl rfl 27 _ HRZ.out info27 rfl (by simp [cellsB, Value.oneCell']) ?_))
      refine ret_cell rfl rfl rfl HE1.out Tryz.underlying27 rfl info27 ?_
      rw [show BookAns w (setChT b ⟨1, xa, xb, xv, []⟩) = BookAns w ({ b with hs := o } : BookT) from by show BookAns w { b with hs := b.hs.filter (fun y => key 0 y != xa) } = _; rw [HLL.out, HFL.out]]; exact HE2.out
set_option maxRecDepth 100000 in
set_option maxHeartbeats 16000000 in
theorem set_4y (v : Slots) (b : BookT) (A1 A2 : Option Addr) (C1 C2 nx : Nat) (xa xb : Int) (xv : List Int) (y0 : Int) (w : World) (hb : BookIn w v b) (hk : BookOk 900 b) (hy : I64s w A2 [y0]) :
    Calls Tryz.prog 35 #[.agg (cellsB v b), .agg #[.int .i64 4, .int .i64 xa, .int .i64 xb, .slice A1 nx C1, .slice A2 1 C2]] w (BookAns w (setChT b ⟨4, xa, xb, xv, [y0]⟩)) := by
  obtain ⟨XC, hXC⟩ : ∃ x : Array Value, x = #[.int .i64 4, .int .i64 xa, .int .i64 xb, .slice A1 nx C1, .slice A2 1 C2] := ⟨_, rfl⟩
  obtain ⟨W0, hW0⟩ : ∃ x, ((w.alloc (.cells (cellsB v b) 27)).alloc (.cells #[.int .i64 4, .int .i64 xa, .int .i64 xb, .slice A1 nx C1, .slice A2 1 C2] 43)).alloc (.cells #[.slice none 0 0, .slice none 0 0, .slice none 0 0, .slice none 0 0, .int .i64 0] 27) = x := ⟨_, rfl⟩
  have hA : Below w.heap.size w W0 := by rw [← hW0]; exact (((Below.refl _ w).alloc (Nat.le_refl _) _).alloc (by simp) _).alloc (by simp; omega) _
  have hN := three_new (W := w) (O := .cells (cellsB v b) 27) (P := .cells #[.int .i64 4, .int .i64 xa, .int .i64 xb, .slice A1 nx C1, .slice A2 1 C2] 43) (S := (.cells #[.slice none 0 0, .slice none 0 0, .slice none 0 0, .slice none 0 0, .int .i64 0] 27))
  rw [hW0] at hN
  have HS := Lib.hid (show SetS w XC v b W0 from ⟨hN.1, by rw [hXC]; exact hN.2.1, hN.2.2, hA, hb.below hA⟩)
  have HXC := Lib.hid hXC
  have HK := Lib.hid hk
  have xc := fun (W : World) (h : SetS w XC v b W) (i : Nat) => (cell_of_row _ _ i _ _ _ h.ch).trans (by rw [hXC] : XC[i]? = (#[.int .i64 4, .int .i64 xa, .int .i64 xb, .slice A1 nx C1, .slice A2 1 C2] : Array Value)[i]?)
  have HXX := Lib.hid (fun (v' : Slots) (b' : BookT) (W : World) (h : SetS w XC v' b' W) (i : Nat) => (cell_of_row _ _ i _ _ _ h.ch).trans (by rw [hXC] : XC[i]? = (#[.int .i64 4, .int .i64 xa, .int .i64 xb, .slice A1 nx C1, .slice A2 1 C2] : Array Value)[i]?))
  have b0 := HS.out.bx.cells.1
  have b1 := HS.out.bx.cells.2.1
  have b2 := HS.out.bx.cells.2.2.1
  have b3 := HS.out.bx.cells.2.2.2.1
  have b4 := HS.out.bx.cells.2.2.2.2
  have x0 := xc W0 HS.out 0
  have x1 := xc W0 HS.out 1
  have x2 := xc W0 HS.out 2
  have x4 := xc W0 HS.out 4
  clear xc
  obtain ⟨yg, yo, rfl, hyl, hyc⟩ := i64_cells hy (by simp)
  have HYC := Lib.hid (fun (W : World) (h : Below w.heap.size w W) => hyc W h)
  have z0 := HYC.out W0 HS.out.lo 0 y0 rfl
  rw [Nat.add_zero] at z0
  have HYF := Lib.hid (fun (W1 W : World) (h1 : Below w.heap.size w W1) (h : FrX w.heap.size W1 W) (i : Nat) (z : Int) (hz : ([y0] : List Int)[i]? = some z) => show W.cell? ⟨yg, yo + i, none⟩ = some (.int .i64 z) by
    rw [h.cellX (by omega) (Nat.lt_of_lt_of_le hyl h1.size)]; exact hyc W1 h1 i z hz)
  clear hy hyc hyl
  clear hb hk hXC hA hN
  obtain ⟨CB, hCB⟩ : ∃ x, cellsB v b = x := ⟨_, rfl⟩
  have HCB := Lib.hid hCB
  rw [hCB] at hW0 ⊢
  clear hCB
  obtain ⟨i0, hi0, hz0, hz1, hz2⟩ := info_parts infoR
  have HROW := Lib.hid HS.out.inn.rs
  have hkl := HK.out.rs.1
  have HKI := Lib.hid HK.out.rs.2
  have HCB1 := Lib.hid (fun W (h : Below W0.heap.size W0 W) => (HS.out.below h).bx.cells.2.2.2.1)
  have HCX1 := Lib.hid (fun W (h : Below W0.heap.size W0 W) => HXX.out _ _ _ (HS.out.below h) 1)
  have HSI := Lib.hid (show SetSt W0.heap.size W0 50 2 [] (.slice none 0 0) W0 from SetSt.nil (Nat.le_refl _))
  obtain ⟨L, hL⟩ : ∃ L, b.rs = L := ⟨_, rfl⟩
  have HLL := Lib.hid hL
  rw [hL] at HROW hkl HKI HCB1
  obtain ⟨av0, hav⟩ : ∃ a, v.r = a := ⟨_, rfl⟩
  obtain ⟨cv0, hcv⟩ : ∃ a, v.cr = a := ⟨_, rfl⟩
  rw [hav] at HROW HCB1
  rw [hcv] at HCB1
  clear hL hav hcv
  go_enter Tryz.func35, Tryz.ntmps35
  go_wp2
  clear b0 b1 b2 b3 b4 x0 x1 x2 x4 hW0 z0
  go_loopw [8, 9] (fun vo vi W => ∃ (j : Nat) (o : List Item), vi = .int .i64 (j : Int) ∧ j ≤ L.length ∧ (L.take j).filter (fun y => key 0 y != xa) = o ∧ SetSt W0.heap.size W0 50 2 o vo W) (fun _ vi _ => L.length - (intOf vi).toNat)
  case atStart => exact ⟨0, [], rfl, Nat.zero_le _, by rw [List.take_zero]; rfl, HSI.out⟩
  case round =>
    clear HSI
    obtain ⟨j, o, rfl, hj, hfo, hst⟩ := hrel
    have hol : o.length ≤ j := by
      have h := List.length_filter_le (fun y => key 0 y != xa) (L.take j)
      rw [hfo, List.length_take] at h
      omega
    have HSS := Lib.hid hst
    have HFO := Lib.hid hfo
    have c0 := HCB1.out _ HSS.out.lo
    clear hst hfo
    by_cases hlt : j < L.length
    · obtain ⟨y, hy⟩ : ∃ y, L[j]? = some y := ⟨L[j], by simp [hlt]⟩
      obtain ⟨bq, off, rfl, hb0, hcs⟩ := HROW.out.at hy
      obtain ⟨p, q, rfl⟩ := item2 (HKI.out _ (List.mem_of_getElem? hy)).1
      have HNX := Lib.hid (show (L.take (j + 1)).filter (fun y => key 0 y != xa) = o ++ (if (p != xa) = true then [[p, q]] else []) by rw [take_one hy, List.filter_append, HFO.out, List.filter_cons, List.filter_nil]; rfl)
      have HCS := Lib.hid hcs
      have HLD := Lib.hid (fun W (h : Below W0.heap.size W0 W) => load_rate W bq (off + j * 2) p q (HCS.out W h))
      clear hcs hy
      have k0 := HCS.out wr HSS.out.lo 0 p rfl
      rw [Nat.add_zero] at k0
      have x1 := HCX1.out wr HSS.out.lo
      have m1 : o.length + 1 ≤ maxLen := by unfold maxLen; omega
      have m2 : (o.length + 1) * 16 ≤ 140737488355328 := by omega
      obtain ⟨g, hg⟩ : ∃ g, (p != xa) = g := ⟨_, rfl⟩
      rw [hg] at HNX
      cases g with
      | false =>
        go_wp2
        go_quiet (fail)
        have HSq := Lib.hid (HSS.out.drewN nq)
        go_wp2
        go_roundw
        case rel => exact ⟨j + 1, _, by go_num, hlt, by rw [HNX.out]; simp, HSq.out⟩
        case measure => simp [intOf]; omega
      | true =>
        go_wp2
        go_quiet (fail)
        have HSq := Lib.hid (HSS.out.drewN nq)
        go_wp2_with (first | ((with_reducible refine atLoadS (ty := 50) (x := .tmp 149) rfl ?_); refine loadE (by rfl) 50 (.tmp 149) rfl _ (.agg #[.int .i64 p, .int .i64 q]) rfl (HLD.out _ HSq.out.lo) ?_) | (at_builtin; (refine wpList_append_own _ rfl _ _ 25 rfl W0.heap.size 50 i0 (.agg #[.int .i64 0, .int .i64 0]) 2 16 Tryz.underlying25 hi0 hz0 hz1 hz2 rfl (by decide) _ _ _ rfl (HSq.out.row.alloc _) ⟨wr.heap.size, 0, none⟩ 1 1 [.int .i64 p, .int .i64 q] rfl rfl (new_cells _ [.int .i64 p, .int .i64 q] _) (one_items [p, q]) m1 m2 (Nat.le_trans HSq.out.sz (by simp)) ?_; intro v' S4w hown hgrow _; have S4 := Lib.hid (SetSt.app (x := [p, q]) HSq.out hown hgrow); clear hown hgrow)))
        go_roundw
        case rel => exact ⟨j + 1, _, by go_num, hlt, by rw [HNX.out]; simp, S4.out⟩
        case measure => simp [intOf]; omega
    · have hfl : L.filter (fun y => key 0 y != xa) = o := by have h := HFO.out; rw [List.take_of_length_le (by omega)] at h; exact h
      obtain ⟨av, cv, hvo⟩ := own_formK HSS.out.row
      subst hvo
      have hs2 := HS.out.below HSS.out.lo
      have hlo : LenB { b with rs := o } := by
        have k1 := len_ok HK.out
        refine ⟨?_, ?_, ?_, ?_⟩
        · exact k1.h
        · exact k1.s
        · exact k1.o
        · intro x hx
          have hx2 : x ∈ o := hx
          rw [← hfl] at hx2
          exact k1.r x (by rw [HLL.out]; exact (List.mem_filter.1 hx2).1)
      have hin2 : BookIn wr ({ v with r := av, cr := cv } : Slots) ({ b with rs := o } : BookT) := ⟨hs2.inn.hs, hs2.inn.ss, hs2.inn.os, rows_ownS hlo.r HSS.out.row⟩
      have HS5 := Lib.hid (hs2.cell (v' := ({ v with r := av, cr := cv } : Slots)) (b' := ({ b with rs := o } : BookT)) (i := 3) (u := .slice av o.length cv) hin2 hlo (by simp [cellsB]))
      have hfz := free_of_blkN hs2.bx 3
      have HLO := Lib.hid hlo
      have HFL := Lib.hid hfl
      clear hs2 hin2 hlo hfl
      go_upto_region 32 with (fail)
      obtain ⟨W3, hW3⟩ : ∃ x, wr.setCell ⟨w.heap.size, 3, none⟩ (.slice av o.length cv) = x := ⟨_, rfl⟩
      rw [hW3] at HS5 ⊢
      clear hW3 hfz c0
      have x4 := HXX.out _ _ _ HS5.out 4
      have hit : ItemsOk 2 1000 ({ b with rs := o } : BookT).rs := ⟨by show o.length ≤ 1000; omega, fun x hx => by
        have hx2 : x ∈ o := hx
        rw [← HFL.out] at hx2
        exact HKI.out x (List.mem_filter.1 hx2).1⟩
      have HIT := Lib.hid hit
      clear hit
      go_upto_region 33 with (fail)
      clear x4
      have HCX := Lib.hid (fun W (h : FrX w.heap.size W3 W) (i : Nat) => (cell_of_row _ _ i _ _ _ (h.same _ _ (by omega) HS5.out.ch)).trans (by rw [HXC.out] : XC[i]? = (#[.int .i64 4, .int .i64 xa, .int .i64 xb, .slice A1 nx C1, .slice (some ⟨yg, yo, none⟩) 1 C2] : Array Value)[i]?))
      have HYX := Lib.hid (fun W (h : FrX w.heap.size W3 W) => (fun i => HYF.out W3 W HS5.out.lo h i))
      have HCT := Lib.hid (fun W (h : Below W3.heap.size W3 W) => setrate30 ({ v with r := av, cr := cv } : Slots) ({ b with rs := o } : BookT) xa y0 W (HS5.out.inn.below h) (HIT.out))
      have hlk : LenB (setRateT ({ b with rs := o } : BookT) [xa, y0]) := len_rate HLO.out rfl
      go_upto_region 33 with (fail)
      refine wp_region_held_drew (S := fun W => FrX w.heap.size W3 W) (by kernel_rfl) (FrX.below ((Below.refl _ _).drew)) (fun hS => ?_)
      refine wpAnyH_take (i := 1) (v := .pointer (some ⟨w.heap.size + 1, 1, none⟩)) rfl (by kernel_rfl) (by kernel_rfl) (by kernel_rfl) (fun _ _ _ h => h) (Or.inl ⟨by simp [Region.wanted], fun W _ => by go_simp⟩) hS ?_
      simp only [lgT, lgZ, lgS, Act.put, lsT, lsZ, lsS]
      refine wpAnyH_take (i := 2) (v := .int .i64 xa) rfl (by kernel_rfl) (by kernel_rfl) (by kernel_rfl) (fun _ _ _ h => h) (Or.inl ⟨by simp [Region.wanted], fun W hW => by have kc := HCX.out W hW 1; go_simp⟩) hS ?_
      simp only [lgT, lgZ, lgS, Act.put, lsT, lsZ, lsS]
      refine wpAnyH_take (i := 3) (v := .slice (some ⟨yg, yo, none⟩) 1 C2) rfl (by kernel_rfl) (by kernel_rfl) (by kernel_rfl) (fun _ _ _ h => h) (Or.inl ⟨by simp [Region.wanted], fun W _ => by go_simp⟩) hS ?_
      simp only [lgT, lgZ, lgS, Act.put, lsT, lsZ, lsS]
      refine wpAnyH_take (i := 4) (v := .pointer (some ⟨yg, yo, none⟩)) rfl (by kernel_rfl) (by kernel_rfl) (by kernel_rfl) (fun _ _ _ h => h) (Or.inl ⟨by simp [Region.wanted], fun W _ => by go_simp⟩) hS ?_
      simp only [lgT, lgZ, lgS, Act.put, lsT, lsZ, lsS]
      refine wpAnyH_take (i := 5) (v := .int .i64 y0) rfl (by kernel_rfl) (by kernel_rfl) (by kernel_rfl) (fun _ _ _ h => h) (Or.inl ⟨by simp [Region.wanted], fun W hW => by have kz := HYX.out W hW 0 y0 rfl; rw [Nat.add_zero] at kz; go_simp⟩) hS ?_
      simp only [lgT, lgZ, lgS, Act.put, lsT, lsZ, lsS]
      refine wpAnyH_take (i := 6) (v := .agg #[.int .i64 xa, .int .i64 y0]) rfl (by kernel_rfl) (by kernel_rfl) (by kernel_rfl) (fun _ _ _ h => h) (Or.inl ⟨by simp [Region.wanted], fun W _ => by go_simp⟩) hS ?_
      simp only [lgT, lgZ, lgS, Act.put, lsT, lsZ, lsS]
      refine wpAnyH_ready (rs := [0]) (by kernel_rfl) (by simp) ?_
      refine AllReadyH.cons rfl (fun K0 hK0 => ?_) AllReadyH.nil
      refine wanted_go rfl ?_
      simp only [lgT, lgZ]
      have hld0 := load_book (W := W3.drew) (show BoxB W3.drew w.heap.size ({ v with r := av, cr := cv } : Slots) ({ b with rs := o } : BookT) from HS5.out.bx)
      refine wp_load_known 27 (.tmp 2) rfl (.pointer (some ⟨w.heap.size, 0, none⟩)) _ rfl hld0 ?_
      refine hK0.out _ _ (FrX.below ((Below.refl _ _).drew)) (fun q0 => ?_)
      refine wpAnyH_ready (rs := [7]) (by kernel_rfl) (by simp) ?_
      refine AllReadyH.cons rfl (fun K1 hK1 => ?_) AllReadyH.nil
      refine wanted_go rfl ?_
      simp only [lgT, lgZ, lgS]
      go_wp2_with (go_at_call 64; refine (HCT.out W3.drew ((Below.refl _ _).drew)).mono ?_; rintro e w9 ⟨⟨v9, rfl, hi9⟩, hb9⟩; have HI9 := Lib.hid hi9; have HB9 := Lib.hid (((Below.refl _ W3).drew : Below W3.heap.size W3 W3.drew).trans hb9); clear hi9 hb9)
      refine hK1.out _ _ (FrX.below HB9.out) (fun q1 => ?_)
      have hs9 := HS5.out.below HB9.out
      refine wpAnyH_ready (rs := [8]) (by kernel_rfl) (by simp) ?_
      refine AllReadyH.cons rfl (fun K2 hK2 => ?_) AllReadyH.nil
      refine wanted_go rfl ?_
      simp only [lgT, lgZ, lgS]
      refine wp_store_row 27 (.tmp 2) (.tmp 166) rfl w.heap.size (cellsB v9 (setRateT ({ b with rs := o } : BookT) [xa, y0])) rfl rfl 27 _ hs9.bx info27 rfl (by simp [cellsB, Value.oneCell']) ?_
      refine hK2.out _ _ ((FrX.below HB9.out).trans (FrX.row _)) (fun q2 => ?_)
      refine wpAnyH_done (by kernel_rfl) ?_ _
      have HSE := Lib.hid (hs9.put HI9.out (hlk))
      clear hs9 q0 q1 q2 hld0 hS
      go_upto_region 37 with (fail)
      have HLD := Lib.hid (load_book HSE.out.bx)
      obtain ⟨e1, e2⟩ := set_end HSE.out.lo HSE.out.inn hlk HSE.out.rz
      have HE1 := Lib.hid e1
      have HE2 := Lib.hid e2
      have HRZ := Lib.hid HSE.out.rz
      clear e1 e2
      go_wp2_with (first | ((with_reducible refine atLoadS (ty := 27) (x := .tmp 2) rfl ?_); refine loadE (by rfl) 27 (.tmp 2) rfl _ (.agg (cellsB v9 (setRateT ({ b with rs := o } : BookT) [xa, y0]))) rfl HLD.out ?_) | ((with_reducible refine atStoreP (ty := 27) (x := .tmp 4) (y := .tmp 176) rfl ?_); refine wpList_store_row rfl 27 (.tmp 4) (.tmp 176) rfl (w.heap.size + 2) (cellsB v9 (setRateT ({ b with rs := o } : BookT) [xa, y0])) rfl rfl 27 _ HRZ.out info27 rfl (by simp [cellsB, Value.oneCell']) ?_))
      refine ret_cell rfl rfl rfl HE1.out Tryz.underlying27 rfl info27 ?_
      rw [show BookAns w (setChT b ⟨4, xa, xb, xv, [y0]⟩) = BookAns w (setRateT ({ b with rs := o } : BookT) [xa, y0]) from by show BookAns w (setRateT { b with rs := b.rs.filter (fun y => key 0 y != xa) } _) = _; rw [HLL.out, HFL.out]; rfl]; exact HE2.out
set_option maxRecDepth 100000 in
set_option maxHeartbeats 16000000 in
theorem set_4n (v : Slots) (b : BookT) (A1 A2 : Option Addr) (C1 C2 nx : Nat) (xa xb : Int) (xv : List Int) (w : World) (hb : BookIn w v b) (hk : BookOk 900 b) :
    Calls Tryz.prog 35 #[.agg (cellsB v b), .agg #[.int .i64 4, .int .i64 xa, .int .i64 xb, .slice A1 nx C1, .slice A2 0 C2]] w (BookAns w (setChT b ⟨4, xa, xb, xv, []⟩)) := by
  obtain ⟨XC, hXC⟩ : ∃ x : Array Value, x = #[.int .i64 4, .int .i64 xa, .int .i64 xb, .slice A1 nx C1, .slice A2 0 C2] := ⟨_, rfl⟩
  obtain ⟨W0, hW0⟩ : ∃ x, ((w.alloc (.cells (cellsB v b) 27)).alloc (.cells #[.int .i64 4, .int .i64 xa, .int .i64 xb, .slice A1 nx C1, .slice A2 0 C2] 43)).alloc (.cells #[.slice none 0 0, .slice none 0 0, .slice none 0 0, .slice none 0 0, .int .i64 0] 27) = x := ⟨_, rfl⟩
  have hA : Below w.heap.size w W0 := by rw [← hW0]; exact (((Below.refl _ w).alloc (Nat.le_refl _) _).alloc (by simp) _).alloc (by simp; omega) _
  have hN := three_new (W := w) (O := .cells (cellsB v b) 27) (P := .cells #[.int .i64 4, .int .i64 xa, .int .i64 xb, .slice A1 nx C1, .slice A2 0 C2] 43) (S := (.cells #[.slice none 0 0, .slice none 0 0, .slice none 0 0, .slice none 0 0, .int .i64 0] 27))
  rw [hW0] at hN
  have HS := Lib.hid (show SetS w XC v b W0 from ⟨hN.1, by rw [hXC]; exact hN.2.1, hN.2.2, hA, hb.below hA⟩)
  have HXC := Lib.hid hXC
  have HK := Lib.hid hk
  have xc := fun (W : World) (h : SetS w XC v b W) (i : Nat) => (cell_of_row _ _ i _ _ _ h.ch).trans (by rw [hXC] : XC[i]? = (#[.int .i64 4, .int .i64 xa, .int .i64 xb, .slice A1 nx C1, .slice A2 0 C2] : Array Value)[i]?)
  have HXX := Lib.hid (fun (v' : Slots) (b' : BookT) (W : World) (h : SetS w XC v' b' W) (i : Nat) => (cell_of_row _ _ i _ _ _ h.ch).trans (by rw [hXC] : XC[i]? = (#[.int .i64 4, .int .i64 xa, .int .i64 xb, .slice A1 nx C1, .slice A2 0 C2] : Array Value)[i]?))
  have b0 := HS.out.bx.cells.1
  have b1 := HS.out.bx.cells.2.1
  have b2 := HS.out.bx.cells.2.2.1
  have b3 := HS.out.bx.cells.2.2.2.1
  have b4 := HS.out.bx.cells.2.2.2.2
  have x0 := xc W0 HS.out 0
  have x1 := xc W0 HS.out 1
  have x2 := xc W0 HS.out 2
  have x4 := xc W0 HS.out 4
  clear xc
  clear hb hk hXC hA hN
  obtain ⟨CB, hCB⟩ : ∃ x, cellsB v b = x := ⟨_, rfl⟩
  have HCB := Lib.hid hCB
  rw [hCB] at hW0 ⊢
  clear hCB
  have hmk := make5
  go_enter Tryz.func35, Tryz.ntmps35
  go_upto_region 4 with (fail)
  refine at_world (Φ := fun W => SetS w XC v b W ∧ W.heap[W0.heap.size]? = some (.cells #[.int .i64 0, .int .i64 0, .int .i64 0, .int .i64 0, .int .i64 0] 2 (0, 0)) ∧ Below W0.heap.size W0 W) ⟨HS.out.below ((Below.refl _ _).alloc (Nat.le_refl _) _), heap_alloc_new W0 _, (Below.refl _ _).alloc (Nat.le_refl _) _⟩ ?_
  rintro W1 ⟨hs1, hzz, hb01⟩
  have HS1 := Lib.hid hs1
  have HZZ := Lib.hid hzz
  have hzn : w.heap.size ≠ W0.heap.size := by have := HS.out.bx; have := lt_of_blk this; omega
  have HZN := Lib.hid hzn
  have HYZ := Lib.hid (fun (W1' W : World) (h1 : W1'.heap[W0.heap.size]? = some (.cells #[.int .i64 0, .int .i64 0, .int .i64 0, .int .i64 0, .int .i64 0] 2 (0, 0))) (h : FrX w.heap.size W1' W) (i : Nat) => (cell_of_row _ _ i _ _ _ (h.same _ _ (Ne.symm HZN.out) h1) : W.cell? ⟨W0.heap.size, i, none⟩ = (#[.int .i64 0, .int .i64 0, .int .i64 0, .int .i64 0, .int .i64 0] : Array Value)[i]?))
  clear hs1 hzz hb01 hzn hmk hW0 b0 b1 b2 b3 b4 x0 x1 x2 x4
  generalize W0.heap.size = zg at *
  obtain ⟨i0, hi0, hz0, hz1, hz2⟩ := info_parts infoR
  have HROW := Lib.hid HS1.out.inn.rs
  have hkl := HK.out.rs.1
  have HKI := Lib.hid HK.out.rs.2
  have HCB1 := Lib.hid (fun W (h : Below W1.heap.size W1 W) => (HS1.out.below h).bx.cells.2.2.2.1)
  have HCX1 := Lib.hid (fun W (h : Below W1.heap.size W1 W) => HXX.out _ _ _ (HS1.out.below h) 1)
  have HSI := Lib.hid (show SetSt W1.heap.size W1 50 2 [] (.slice none 0 0) W1 from SetSt.nil (Nat.le_refl _))
  obtain ⟨L, hL⟩ : ∃ L, b.rs = L := ⟨_, rfl⟩
  have HLL := Lib.hid hL
  rw [hL] at HROW hkl HKI HCB1
  obtain ⟨av0, hav⟩ : ∃ a, v.r = a := ⟨_, rfl⟩
  obtain ⟨cv0, hcv⟩ : ∃ a, v.cr = a := ⟨_, rfl⟩
  rw [hav] at HROW HCB1
  rw [hcv] at HCB1
  clear hL hav hcv
  have b0 := HS1.out.bx.cells.1
  have b1 := HS1.out.bx.cells.2.1
  have b2 := HS1.out.bx.cells.2.2.1
  have b3 := HS1.out.bx.cells.2.2.2.1
  have b4 := HS1.out.bx.cells.2.2.2.2
  have x0 := HXX.out _ _ _ HS1.out 0
  have x1 := HXX.out _ _ _ HS1.out 1
  have x2 := HXX.out _ _ _ HS1.out 2
  have x4 := HXX.out _ _ _ HS1.out 4
  go_wp2
  clear b0 b1 b2 b3 b4 x0 x1 x2 x4
  go_loopw [8, 9] (fun vo vi W => ∃ (j : Nat) (o : List Item), vi = .int .i64 (j : Int) ∧ j ≤ L.length ∧ (L.take j).filter (fun y => key 0 y != xa) = o ∧ SetSt W1.heap.size W1 50 2 o vo W) (fun _ vi _ => L.length - (intOf vi).toNat)
  case atStart => exact ⟨0, [], rfl, Nat.zero_le _, by rw [List.take_zero]; rfl, HSI.out⟩
  case round =>
    clear HSI
    obtain ⟨j, o, rfl, hj, hfo, hst⟩ := hrel
    have hol : o.length ≤ j := by
      have h := List.length_filter_le (fun y => key 0 y != xa) (L.take j)
      rw [hfo, List.length_take] at h
      omega
    have HSS := Lib.hid hst
    have HFO := Lib.hid hfo
    have c0 := HCB1.out _ HSS.out.lo
    clear hst hfo
    by_cases hlt : j < L.length
    · obtain ⟨y, hy⟩ : ∃ y, L[j]? = some y := ⟨L[j], by simp [hlt]⟩
      obtain ⟨bq, off, rfl, hb0, hcs⟩ := HROW.out.at hy
      obtain ⟨p, q, rfl⟩ := item2 (HKI.out _ (List.mem_of_getElem? hy)).1
      have HNX := Lib.hid (show (L.take (j + 1)).filter (fun y => key 0 y != xa) = o ++ (if (p != xa) = true then [[p, q]] else []) by rw [take_one hy, List.filter_append, HFO.out, List.filter_cons, List.filter_nil]; rfl)
      have HCS := Lib.hid hcs
      have HLD := Lib.hid (fun W (h : Below W1.heap.size W1 W) => load_rate W bq (off + j * 2) p q (HCS.out W h))
      clear hcs hy
      have k0 := HCS.out wr HSS.out.lo 0 p rfl
      rw [Nat.add_zero] at k0
      have x1 := HCX1.out wr HSS.out.lo
      have m1 : o.length + 1 ≤ maxLen := by unfold maxLen; omega
      have m2 : (o.length + 1) * 16 ≤ 140737488355328 := by omega
      obtain ⟨g, hg⟩ : ∃ g, (p != xa) = g := ⟨_, rfl⟩
      rw [hg] at HNX
      cases g with
      | false =>
        go_wp2
        go_quiet (fail)
        have HSq := Lib.hid (HSS.out.drewN nq)
        go_wp2
        go_roundw
        case rel => exact ⟨j + 1, _, by go_num, hlt, by rw [HNX.out]; simp, HSq.out⟩
        case measure => simp [intOf]; omega
      | true =>
        go_wp2
        go_quiet (fail)
        have HSq := Lib.hid (HSS.out.drewN nq)
        go_wp2_with (first | ((with_reducible refine atLoadS (ty := 50) (x := .tmp 149) rfl ?_); refine loadE (by rfl) 50 (.tmp 149) rfl _ (.agg #[.int .i64 p, .int .i64 q]) rfl (HLD.out _ HSq.out.lo) ?_) | (at_builtin; (refine wpList_append_own _ rfl _ _ 25 rfl W1.heap.size 50 i0 (.agg #[.int .i64 0, .int .i64 0]) 2 16 Tryz.underlying25 hi0 hz0 hz1 hz2 rfl (by decide) _ _ _ rfl (HSq.out.row.alloc _) ⟨wr.heap.size, 0, none⟩ 1 1 [.int .i64 p, .int .i64 q] rfl rfl (new_cells _ [.int .i64 p, .int .i64 q] _) (one_items [p, q]) m1 m2 (Nat.le_trans HSq.out.sz (by simp)) ?_; intro v' S4w hown hgrow _; have S4 := Lib.hid (SetSt.app (x := [p, q]) HSq.out hown hgrow); clear hown hgrow)))
        go_roundw
        case rel => exact ⟨j + 1, _, by go_num, hlt, by rw [HNX.out]; simp, S4.out⟩
        case measure => simp [intOf]; omega
    · have hfl : L.filter (fun y => key 0 y != xa) = o := by have h := HFO.out; rw [List.take_of_length_le (by omega)] at h; exact h
      obtain ⟨av, cv, hvo⟩ := own_formK HSS.out.row
      subst hvo
      have hs2 := HS1.out.below HSS.out.lo
      have hlo : LenB { b with rs := o } := by
        have k1 := len_ok HK.out
        refine ⟨?_, ?_, ?_, ?_⟩
        · exact k1.h
        · exact k1.s
        · exact k1.o
        · intro x hx
          have hx2 : x ∈ o := hx
          rw [← hfl] at hx2
          exact k1.r x (by rw [HLL.out]; exact (List.mem_filter.1 hx2).1)
      have hin2 : BookIn wr ({ v with r := av, cr := cv } : Slots) ({ b with rs := o } : BookT) := ⟨hs2.inn.hs, hs2.inn.ss, hs2.inn.os, rows_ownS hlo.r HSS.out.row⟩
      have HS5 := Lib.hid (hs2.cell (v' := ({ v with r := av, cr := cv } : Slots)) (b' := ({ b with rs := o } : BookT)) (i := 3) (u := .slice av o.length cv) hin2 hlo (by simp [cellsB]))
      have hz5 : (wr.setCell ⟨w.heap.size, 3, none⟩ (.slice av o.length cv)).heap[zg]? = _ := (Below.heap_setCell _ _ _ _ (Ne.symm HZN.out)).trans ((HSS.out.lo.block _ (lt_of_blk HZZ.out)).trans HZZ.out)
      have HZ5 := Lib.hid hz5
      clear hz5
      have hfz := free_of_blkN hs2.bx 3
      have HLO := Lib.hid hlo
      have HFL := Lib.hid hfl
      clear hs2 hin2 hlo hfl
      go_upto_region 32 with (fail)
      obtain ⟨W3, hW3⟩ : ∃ x, wr.setCell ⟨w.heap.size, 3, none⟩ (.slice av o.length cv) = x := ⟨_, rfl⟩
      rw [hW3] at HS5 HZ5 ⊢
      clear hW3 hfz c0
      have x4 := HXX.out _ _ _ HS5.out 4
      go_upto_region 37 with (fail)
      clear x4
      have hlk := HLO.out
      have HLD := Lib.hid (load_book HS5.out.bx)
      obtain ⟨e1, e2⟩ := set_end HS5.out.lo HS5.out.inn hlk HS5.out.rz
      have HE1 := Lib.hid e1
      have HE2 := Lib.hid e2
      have HRZ := Lib.hid HS5.out.rz
      clear e1 e2
      go_wp2_with (first | ((with_reducible refine atLoadS (ty := 27) (x := .tmp 2) rfl ?_); refine loadE (by rfl) 27 (.tmp 2) rfl _ (.agg (cellsB ({ v with r := av, cr := cv } : Slots) ({ b with rs := o } : BookT))) rfl HLD.out ?_) | ((with_reducible refine atStoreP (ty := 27) (x := .tmp 4) (y := .tmp 176) rfl ?_); refine wpList_store_row rfl 27 (.tmp 4) (.tmp 176) rfl (w.heap.size + 2) (cellsB ({ v with r := av, cr := cv } : Slots) ({ b with rs := o } : BookT)) rfl rfl 27 _ HRZ.out info27 rfl (by simp [cellsB, Value.oneCell']) ?_))
      refine ret_cell rfl rfl rfl HE1.out Tryz.underlying27 rfl info27 ?_
      rw [show BookAns w (setChT b ⟨4, xa, xb, xv, []⟩) = BookAns w ({ b with rs := o } : BookT) from by show BookAns w { b with rs := b.rs.filter (fun y => key 0 y != xa) } = _; rw [HLL.out, HFL.out]]; exact HE2.out
end Go.Proofs.YtellifcjamedkaaGreat
