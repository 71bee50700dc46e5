/- The document's diff of two books: the contract. -/
import Derived.Test.YtellifcjamedkaaDfRef3
namespace Go.Proofs.Ytellifcjamedkaa
open Go.RowKit Base Base2

/-- A step of a region that draws, over a frame as a list. -/
theorem takeL {P : Program} {ops : Array Oper} {Q : Exit → Act → World → Prop} {md : Region.Mode} {S : World → Prop} {i : Nat} {oi : Oper} {v : Value} {fuel : Nat} {listed : Array Bool} {l l' : List Value} {d : List Deferred} {w : World} {k : Tmp} (hi : ops[i]? = some oi) (hk : oi.dst = some k)
    (hs : Region.noSelect ops = true) (hf : Region.free md ops listed i = true) (hr : (Region.ready md ops listed).contains i = true)
    (hQ : ∀ c a w, Q (.panic c) (a.put oi.dst v) w → Q (.panic c) a w) (hy : YieldsIf P ops S oi v ⟨l.toArray, d⟩) (hS : S w) (hl : l.set k v = l')
    (h : wpAnyH P md ops Q S fuel (listed.setIfInBounds i true) ⟨l'.toArray, d⟩ w) : wpAnyH P md ops Q S (fuel + 1) listed ⟨l.toArray, d⟩ w := by
  refine wpAnyH_take hi hs hf hr hQ hy hS ?_
  rw [hk]
  subst hl
  simpa [Act.put] using h
set_option maxRecDepth 100000 in
set_option maxHeartbeats 16000000 in
theorem rdiff12 (v u : Slots) (a b : BookT) (w : World) (ha : BookIn w v a) (hb : BookIn w u b) (ka : BookOk 2000 a) (kb : BookOk 2000 b) :
    Calls Try.prog 11 #[.agg (cellsB v a), .agg (cellsB u b)] w fun e w' => ∃ vo o, e = .returned vo ∧ ChS w.heap.size w o vo w' ∧ o.map ChV.c = diffT a b := by
  obtain ⟨i0, hi0, hz0, hz1, hz2⟩ := info_parts infoCh
  obtain ⟨W0, hW0⟩ : ∃ W0, W0 = ((w.alloc (.cells (cellsB v a) 27)).alloc (.cells (cellsB u b) 27)) := ⟨_, rfl⟩
  have hA : Below w.heap.size w W0 := by rw [hW0]; exact ((Below.refl _ w).alloc (Nat.le_refl _) _).alloc (by simp) _
  have hg1 : BoxB W0 w.heap.size v a := by rw [hW0]; exact (Below.heap_alloc (w.alloc (.cells (cellsB v a) 27)) (.cells (cellsB u b) 27) w.heap.size (by simp)).trans (heap_alloc_new w (.cells (cellsB v a) 27))
  have hg2 : BoxB W0 (w.heap.size + 1) u b := by
    rw [hW0]
    have h := heap_alloc_new (w.alloc (.cells (cellsB v a) 27)) (.cells (cellsB u b) 27)
    rw [World.size_alloc] at h
    exact h
  have hsz : W0.heap.size = w.heap.size + 2 := by rw [hW0]; simp
  have HSZ0 := Lib.hid (show w.heap.size ≤ W0.heap.size by omega)
  have HLO := Lib.hid (fun W (h : Below W0.heap.size W0 W) => hA.trans (h.mono HSZ0.out))
  have HL1 := Lib.hid (fun W (h : Below W0.heap.size W0 W) => load_book (hg1.below h (by omega)))
  have HL2 := Lib.hid (fun W (h : Below W0.heap.size W0 W) => load_book (hg2.below h (by omega)))
  have HC1 := Lib.hid (fun W (h : Below W0.heap.size W0 W) => rrows28 v a W (ha.below (HLO.out W h)) ka)
  have HC2 := Lib.hid (fun W (h : Below W0.heap.size W0 W) => rrows28 u b W (hb.below (HLO.out W h)) kb)
  have HK1 := Lib.hid (rowsD_len ka)
  have HK2 := Lib.hid (rowsD_len kb)
  go_enter Try.func11, Try.ntmps11
  generalize hCA : cellsB v a = CA at *
  generalize hCB : cellsB u b = CB at *
  go_upto_region 1 with (fail)
  rw [← hW0]
  clear hA hg1 hg2 hsz ha hb ka kb hW0 hCA hCB
  refine wp_region_held_drew (S := fun W => Below W0.heap.size W0 W) (by kernel_rfl) ((Below.refl _ _).drew) (fun hS => ?_)
  refine takeL (i := 0) (v := .agg CA) rfl rfl (by kernel_rfl) (by kernel_rfl) (by kernel_rfl) (fun _ _ _ h => h) (yields_atD (wanted_noneD rfl) 27 (.tmp 2) rfl (.pointer (some ⟨w.heap.size, 0, none⟩)) _ rfl (fun W hW => HL1.out W hW)) hS (by dsimp only [List.set_cons_zero, List.set_cons_succ]) ?_
  refine takeL (i := 2) (v := .agg CB) rfl rfl (by kernel_rfl) (by kernel_rfl) (by kernel_rfl) (fun _ _ _ h => h) (yields_atD (wanted_noneD rfl) 27 (.tmp 3) rfl (.pointer (some ⟨w.heap.size + 1, 0, none⟩)) _ rfl (fun W hW => HL2.out W hW)) hS (by dsimp only [List.set_cons_zero, List.set_cons_succ]) ?_
  refine wpAnyH_ready (rs := [1]) (by kernel_rfl) (by simp) ?_
  refine AllReadyH.cons rfl (fun K1 hK1 => ?_) AllReadyH.nil
  refine wanted_go rfl ?_
  simp only [List.getElem_toArray, List.getElem_cons_zero, List.getElem_cons_succ]
  go_wp2_with (go_at_call 25; refine (HC1.out _ hS).mono ?_; rintro e w1 ⟨vx, ox, rfl, h1, hm1⟩; have HX1 := Lib.hid h1; have HM1 := Lib.hid hm1; have HB1 := Lib.hid (hS.trans (h1.lo.mono hS.size)); clear h1 hm1)
  refine hK1.out _ _ (HB1.out) (fun hS1 => ?_)
  refine wpAnyH_ready (rs := [3]) (by kernel_rfl) (by simp) ?_
  refine AllReadyH.cons rfl (fun K2 hK2 => ?_) AllReadyH.nil
  refine wanted_go rfl ?_
  simp only [List.getElem_toArray, List.getElem_cons_zero, List.getElem_cons_succ]
  go_wp2_with (go_at_call 25; refine (HC2.out _ HB1.out).mono ?_; rintro e Wd ⟨vy, oy, rfl, h2, hm2⟩; have HY2 := Lib.hid h2; have HM2 := Lib.hid hm2; have HB2 := Lib.hid (HB1.out.trans (h2.lo.mono HB1.out.size)); have HX2 := Lib.hid (HX1.out.below h2.lo); clear h2 hm2 hS HB1 HX1 HL1 HL2 HC1 HC2)
  refine hK2.out _ _ (HB2.out) (fun hS2 => ?_)
  refine takeL (i := 4) (v := vx) rfl rfl (by kernel_rfl) (by kernel_rfl) (by kernel_rfl) (fun _ _ _ h => h) (Or.inl ⟨by simp [Region.wanted], fun W _ => by go_simp⟩) hS2 (by dsimp only [List.set_cons_zero, List.set_cons_succ]) ?_
  refine takeL (i := 5) (v := vy) rfl rfl (by kernel_rfl) (by kernel_rfl) (by kernel_rfl) (fun _ _ _ h => h) (Or.inl ⟨by simp [Region.wanted], fun W _ => by go_simp⟩) hS2 (by dsimp only [List.set_cons_zero, List.set_cons_succ]) ?_
  refine wpAnyH_done (by kernel_rfl) ?_ _
  have hox : ox.length = (rowsD a).length := by rw [← HM1.out, List.length_map]
  have hoy : oy.length = (rowsD b).length := by rw [← HM2.out, List.length_map]
  have hnx0 : ox.length ≤ 8001 := by rw [hox]; exact HK1.out.2
  have hny0 : oy.length ≤ 8001 := by rw [hoy]; exact HK2.out.2
  obtain ⟨gx, px, hvx⟩ := HX2.out.form (by rw [hox]; exact HK1.out.1)
  obtain ⟨gy, py, hvy⟩ := HY2.out.form (by rw [hoy]; exact HK2.out.1)
  obtain ⟨nx, hnx⟩ : ∃ n, ox.length = n := ⟨_, rfl⟩
  obtain ⟨ny, hny⟩ : ∃ n, oy.length = n := ⟨_, rfl⟩
  have HXC := Lib.hid (fun (W : World) (h : Below Wd.heap.size Wd W) (i : Nat) (x : RowV) (hx : ox[i]? = some x) => (HX2.out.below h).at hx hvx)
  have HYC := Lib.hid (fun (W : World) (h : Below Wd.heap.size Wd W) (i : Nat) (x : RowV) (hx : oy[i]? = some x) => (HY2.out.below h).at hx hvy)
  have HXV := Lib.hid (fun (W : World) (h : Below Wd.heap.size Wd W) (i : Nat) (x : RowV) (hx : ox[i]? = some x) => ((HX2.out.val x (List.mem_of_getElem? hx)).below h))
  have HYV := Lib.hid (fun (W : World) (h : Below Wd.heap.size Wd W) (i : Nat) (x : RowV) (hx : oy[i]? = some x) => ((HY2.out.val x (List.mem_of_getElem? hx)).below h))
  have HXS := Lib.hid (fun (i : Nat) (x : RowV) (hx : ox[i]? = some x) => rowV_short HM1.out (List.mem_of_getElem? hx))
  have HSZ1 := Lib.hid (show w.heap.size ≤ Wd.heap.size from Nat.le_trans HSZ0.out HB2.out.size)
  have HLW := Lib.hid (fun W (h : Below Wd.heap.size Wd W) => HLO.out W (HB2.out.trans (h.mono HB2.out.size)))
  have HS0 := Lib.hid (ChS.nil (W0 := Wd) (Nat.le_refl Wd.heap.size))
  have HM0 := Lib.hid (show ([] : List ChV).map ChV.c ++ mergeD ((ox.drop 0).map RowV.r) ((oy.drop 0).map RowV.r) = diffT a b by rw [List.drop_zero, List.drop_zero, HM1.out, HM2.out]; rfl)
  have HEX := Lib.hid (show ∀ i, nx ≤ i → ox.length ≤ i by intro i h; omega)
  have HEY := Lib.hid (show ∀ i, ny ≤ i → oy.length ≤ i by intro i h; omega)
  have HNX := Lib.hid (show ∀ i, i < nx → ∃ x, ox[i]? = some x from fun i h => ⟨ox[i]'(by omega), by simp [show i < ox.length by omega]⟩)
  have HNY := Lib.hid (show ∀ i, i < ny → ∃ x, oy[i]? = some x from fun i h => ⟨oy[i]'(by omega), by simp [show i < oy.length by omega]⟩)
  rw [hnx] at hvx hnx0
  rw [hny] at hvy hny0
  subst hvx hvy
  clear hox hoy hnx hny HX2 HY2 HM1 HM2 HK1 HK2 HB2
  go_wp2
  go_loopw [7, 8, 9] (fun v7 v8 v9 W => ∃ (i k : Nat) (oo : List ChV), v8 = .int .i64 (i : Int) ∧ v9 = .int .i64 (k : Int) ∧ i ≤ nx ∧ k ≤ ny ∧ oo.length ≤ i + k ∧ oo.map ChV.c ++ mergeD ((ox.drop i).map RowV.r) ((oy.drop k).map RowV.r) = diffT a b ∧ ChS Wd.heap.size Wd oo v7 W) (fun _ v8 v9 _ => (nx - (intOf v8).toNat) + (ny - (intOf v9).toNat))
  case atStart => exact ⟨0, 0, [], rfl, rfl, Nat.zero_le _, Nat.zero_le _, Nat.zero_le _, HM0.out, HS0.out⟩
  case round =>
    clear HS0 HM0
    obtain ⟨i, k, oo, rfl, rfl, hi, hk, hlo, hm, hs⟩ := hrel
    have HS := Lib.hid hs
    have HM := Lib.hid hm
    clear hs hm
    by_cases hlx : i < nx
    · obtain ⟨⟨⟨xl, xa, xb, xv⟩, xA, xC⟩, hx⟩ := HNX.out i hlx
      have HXCc := Lib.hid (fun W h => HXC.out W h i _ hx)
      have HXVv := Lib.hid (fun W h => HXV.out W h i _ hx)
      have HX0 := Lib.hid hx
      have HXS5 := Lib.hid (HXS.out i _ hx)
      clear hx
      dsimp only at HXCc HXVv HXS5
      have hin : ((i : Int) == (nx : Int)) = false := by simp; omega
      go_upto_region 9 with (fail)
      refine at_world (Φ := fun W => ChS Wd.heap.size Wd oo u7 W) HS.out ?_
      clear HS
      rintro W8 hs8
      have HS := Lib.hid hs8
      clear hs8
      have HSC := Lib.hid HS.out
      go_cut [69] from 69 to 112 (fun s69 wx => ∃ t : Bool, s69 = .bool t ∧ ChS Wd.heap.size Wd oo u7 wx ∧ ((t = true ∧ (oo ++ [(⟨⟨xl, xa, xb, xv, []⟩, xA, xC, none, 0⟩ : ChV)]).map ChV.c ++ mergeD ((ox.drop (i + 1)).map RowV.r) ((oy.drop k).map RowV.r) = diffT a b) ∨ (t = false ∧ k < ny ∧ ∃ (yl ya yb : Int) (yv : List Int) (yA : Option Addr) (yC : Nat), oy[k]? = some (⟨⟨yl, ya, yb, yv⟩, yA, yC⟩ : RowV) ∧ lessD xl xa xb yl ya yb = false)))
      · by_cases hly : k < ny
        · obtain ⟨⟨⟨yl, ya, yb, yv⟩, yA, yC⟩, hy⟩ := HNY.out k hly
          have HYCc := Lib.hid (fun W h => HYC.out W h k _ hy)
          have HYVv := Lib.hid (fun W h => HYV.out W h k _ hy)
          have HY0 := Lib.hid hy
          clear hy
          dsimp only at HYCc HYVv
          have hkn : ((k : Int) == (ny : Int)) = false := by simp; omega
          obtain ⟨tt, hL1⟩ : ∃ tt, lessD xl xa xb yl ya yb = tt := ⟨_, rfl⟩
          have L1 := Lib.hid (show ∀ W, Calls Try.prog 26 #[.int .i64 xl, .int .i64 xa, .int .i64 xb, .int .i64 yl, .int .i64 ya, .int .i64 yb] W fun e w' => e = .returned (.bool tt) ∧ W = w' from fun W => by have h := rless29 xl xa xb yl ya yb W; rw [hL1] at h; exact h)
          have HLT := Lib.hid hL1
          clear hL1
          obtain ⟨kx0, kx1, kx2, kx3⟩ := HXCc.out _ HS.out.lo
          obtain ⟨ky0, ky1, ky2, ky3⟩ := HYCc.out _ HS.out.lo
          go_quiet ((go_at_call 26; exact quietD L1.out _ _))
          have HS2 := Lib.hid (HS.out.below (below_drews nq))
          have HF := Lib.hid (show (tt = true ∧ (oo ++ [(⟨⟨xl, xa, xb, xv, []⟩, xA, xC, none, 0⟩ : ChV)]).map ChV.c ++ mergeD ((ox.drop (i + 1)).map RowV.r) ((oy.drop k).map RowV.r) = diffT a b) ∨ (tt = false ∧ k < ny ∧ ∃ (yl ya yb : Int) (yv : List Int) (yA : Option Addr) (yC : Nat), oy[k]? = some (⟨⟨yl, ya, yb, yv⟩, yA, yC⟩ : RowV) ∧ lessD xl xa xb yl ya yb = false) by
            cases tt with
            | true => exact .inl ⟨rfl, step_del HM.out HX0.out HY0.out HLT.out⟩
            | false => exact .inr ⟨rfl, hly, yl, ya, yb, yv, yA, yC, HY0.out, HLT.out⟩)
          go_wp2
          go_meet
          exact ⟨tt, rfl, HS2.out, HF.out⟩
        · have hke : k = ny := by omega
          have hkn : ((k : Int) == (ny : Int)) = true := by simp; omega
          obtain ⟨kx0, kx1, kx2, kx3⟩ := HXCc.out _ HS.out.lo
          go_quiet (fail)
          have HS2 := Lib.hid (HS.out.below (below_drews nq))
          have HF := Lib.hid (step_del0 HM.out HX0.out (HEY.out k (by omega)))
          go_wp2
          go_meet
          exact ⟨true, rfl, HS2.out, .inl ⟨rfl, HF.out⟩⟩
      case rest =>
        obtain ⟨t, rfl, hs9, hcase⟩ := hcut
        have HS := Lib.hid hs9
        clear hs9 HSC
        rcases hcase with ⟨rfl, hdel⟩ | ⟨rfl, hly, yl, ya, yb, yv, yA, yC, hy, hL1⟩
        · have HDEL := Lib.hid hdel
          clear hdel
          go_upto_region 10 with (fail)
          refine at_world (Φ := fun W => ChS Wd.heap.size Wd oo u7 W) HS.out ?_
          clear HS
          rintro W9 hs9
          have HSD := Lib.hid (show ChS Wd.heap.size Wd oo u7 W9.drew from hs9.below ((Below.refl _ _).drew))
          clear hs9
          have b1 : oo.length + 1 ≤ maxLen := by unfold maxLen; omega
          have b2 : (oo.length + 1) * 72 ≤ 140737488355328 := by omega
          refine wp_region_held_drew (S := fun W => Below Wd.heap.size Wd W) (by kernel_rfl) (HSD.out.lo) (fun hS => ?_)
          refine takeL (i := 0) (v := u7) rfl rfl (by kernel_rfl) (by kernel_rfl) (by kernel_rfl) (fun _ _ _ h => h) (Or.inl ⟨by simp [Region.wanted], fun W _ => by go_simp⟩) hS (by dsimp only [List.set_cons_zero, List.set_cons_succ]) ?_
          refine takeL (i := 1) (v := .slice (some ⟨gx, 0, none⟩) nx px) rfl rfl (by kernel_rfl) (by kernel_rfl) (by kernel_rfl) (fun _ _ _ h => h) (Or.inl ⟨by simp [Region.wanted], fun W _ => by go_simp⟩) hS (by dsimp only [List.set_cons_zero, List.set_cons_succ]) ?_
          refine takeL (i := 2) (v := .int .i64 (i : Int)) rfl rfl (by kernel_rfl) (by kernel_rfl) (by kernel_rfl) (fun _ _ _ h => h) (Or.inl ⟨by simp [Region.wanted], fun W _ => by go_simp⟩) hS (by dsimp only [List.set_cons_zero, List.set_cons_succ]) ?_
          refine takeL (i := 3) (v := .pointer (some ⟨gx, i * 4, none⟩)) rfl rfl (by kernel_rfl) (by kernel_rfl) (by kernel_rfl) (fun _ _ _ h => h) (Or.inl ⟨by simp [Region.wanted], fun W _ => by go_simp⟩) hS (by dsimp only [List.set_cons_zero, List.set_cons_succ]) ?_
          refine takeL (i := 4) (v := .pointer (some ⟨gx, i * 4, none⟩)) rfl rfl (by kernel_rfl) (by kernel_rfl) (by kernel_rfl) (fun _ _ _ h => h) (Or.inl ⟨by simp [Region.wanted], fun W _ => by go_simp⟩) hS (by dsimp only [List.set_cons_zero, List.set_cons_succ]) ?_
          refine takeL (i := 5) (v := .int .i64 xl) rfl rfl (by kernel_rfl) (by kernel_rfl) (by kernel_rfl) (fun _ _ _ h => h) (Or.inl ⟨by simp [Region.wanted], fun W hW => by have kc := (HXCc.out W hW).1; go_simp⟩) hS (by dsimp only [List.set_cons_zero, List.set_cons_succ]) ?_
          refine takeL (i := 6) (v := .slice (some ⟨gx, 0, none⟩) nx px) rfl rfl (by kernel_rfl) (by kernel_rfl) (by kernel_rfl) (fun _ _ _ h => h) (Or.inl ⟨by simp [Region.wanted], fun W _ => by go_simp⟩) hS (by dsimp only [List.set_cons_zero, List.set_cons_succ]) ?_
          refine takeL (i := 7) (v := .int .i64 (i : Int)) rfl rfl (by kernel_rfl) (by kernel_rfl) (by kernel_rfl) (fun _ _ _ h => h) (Or.inl ⟨by simp [Region.wanted], fun W _ => by go_simp⟩) hS (by dsimp only [List.set_cons_zero, List.set_cons_succ]) ?_
          refine takeL (i := 8) (v := .pointer (some ⟨gx, i * 4, none⟩)) rfl rfl (by kernel_rfl) (by kernel_rfl) (by kernel_rfl) (fun _ _ _ h => h) (Or.inl ⟨by simp [Region.wanted], fun W _ => by go_simp⟩) hS (by dsimp only [List.set_cons_zero, List.set_cons_succ]) ?_
          refine takeL (i := 9) (v := .pointer (some ⟨gx, i * 4 + 1, none⟩)) rfl rfl (by kernel_rfl) (by kernel_rfl) (by kernel_rfl) (fun _ _ _ h => h) (Or.inl ⟨by simp [Region.wanted], fun W _ => by go_simp⟩) hS (by dsimp only [List.set_cons_zero, List.set_cons_succ]) ?_
          refine takeL (i := 10) (v := .int .i64 xa) rfl rfl (by kernel_rfl) (by kernel_rfl) (by kernel_rfl) (fun _ _ _ h => h) (Or.inl ⟨by simp [Region.wanted], fun W hW => by have kc := (HXCc.out W hW).2.1; go_simp⟩) hS (by dsimp only [List.set_cons_zero, List.set_cons_succ]) ?_
          refine takeL (i := 11) (v := .slice (some ⟨gx, 0, none⟩) nx px) rfl rfl (by kernel_rfl) (by kernel_rfl) (by kernel_rfl) (fun _ _ _ h => h) (Or.inl ⟨by simp [Region.wanted], fun W _ => by go_simp⟩) hS (by dsimp only [List.set_cons_zero, List.set_cons_succ]) ?_
          refine takeL (i := 12) (v := .int .i64 (i : Int)) rfl rfl (by kernel_rfl) (by kernel_rfl) (by kernel_rfl) (fun _ _ _ h => h) (Or.inl ⟨by simp [Region.wanted], fun W _ => by go_simp⟩) hS (by dsimp only [List.set_cons_zero, List.set_cons_succ]) ?_
          refine takeL (i := 13) (v := .pointer (some ⟨gx, i * 4, none⟩)) rfl rfl (by kernel_rfl) (by kernel_rfl) (by kernel_rfl) (fun _ _ _ h => h) (Or.inl ⟨by simp [Region.wanted], fun W _ => by go_simp⟩) hS (by dsimp only [List.set_cons_zero, List.set_cons_succ]) ?_
          refine takeL (i := 14) (v := .pointer (some ⟨gx, i * 4 + 2, none⟩)) rfl rfl (by kernel_rfl) (by kernel_rfl) (by kernel_rfl) (fun _ _ _ h => h) (Or.inl ⟨by simp [Region.wanted], fun W _ => by go_simp⟩) hS (by dsimp only [List.set_cons_zero, List.set_cons_succ]) ?_
          refine takeL (i := 15) (v := .int .i64 xb) rfl rfl (by kernel_rfl) (by kernel_rfl) (by kernel_rfl) (fun _ _ _ h => h) (Or.inl ⟨by simp [Region.wanted], fun W hW => by have kc := (HXCc.out W hW).2.2.1; go_simp⟩) hS (by dsimp only [List.set_cons_zero, List.set_cons_succ]) ?_
          refine takeL (i := 16) (v := .slice (some ⟨gx, 0, none⟩) nx px) rfl rfl (by kernel_rfl) (by kernel_rfl) (by kernel_rfl) (fun _ _ _ h => h) (Or.inl ⟨by simp [Region.wanted], fun W _ => by go_simp⟩) hS (by dsimp only [List.set_cons_zero, List.set_cons_succ]) ?_
          refine takeL (i := 17) (v := .int .i64 (i : Int)) rfl rfl (by kernel_rfl) (by kernel_rfl) (by kernel_rfl) (fun _ _ _ h => h) (Or.inl ⟨by simp [Region.wanted], fun W _ => by go_simp⟩) hS (by dsimp only [List.set_cons_zero, List.set_cons_succ]) ?_
          refine takeL (i := 18) (v := .pointer (some ⟨gx, i * 4, none⟩)) rfl rfl (by kernel_rfl) (by kernel_rfl) (by kernel_rfl) (fun _ _ _ h => h) (Or.inl ⟨by simp [Region.wanted], fun W _ => by go_simp⟩) hS (by dsimp only [List.set_cons_zero, List.set_cons_succ]) ?_
          refine takeL (i := 19) (v := .pointer (some ⟨gx, i * 4 + 3, none⟩)) rfl rfl (by kernel_rfl) (by kernel_rfl) (by kernel_rfl) (fun _ _ _ h => h) (Or.inl ⟨by simp [Region.wanted], fun W _ => by go_simp⟩) hS (by dsimp only [List.set_cons_zero, List.set_cons_succ]) ?_
          refine takeL (i := 20) (v := .slice xA xv.length xC) rfl rfl (by kernel_rfl) (by kernel_rfl) (by kernel_rfl) (fun _ _ _ h => h) (Or.inl ⟨by simp [Region.wanted], fun W hW => by have kc := (HXCc.out W hW).2.2.2; go_simp⟩) hS (by dsimp only [List.set_cons_zero, List.set_cons_succ]) ?_
          refine takeL (i := 21) (v := .agg #[.int .i64 xl, .int .i64 xa, .int .i64 xb, .slice xA xv.length xC, .slice none 0 0]) rfl rfl (by kernel_rfl) (by kernel_rfl) (by kernel_rfl) (fun _ _ _ h => h) (Or.inl ⟨by simp [Region.wanted], fun W _ => by go_simp⟩) hS (by dsimp only [List.set_cons_zero, List.set_cons_succ]) ?_
          refine wpAnyH_ready (rs := [22]) (by kernel_rfl) (by simp) ?_
          refine AllReadyH.cons rfl (fun K1 hK1 => ?_) AllReadyH.nil
          refine wanted_go rfl ?_
          simp only [List.getElem_toArray, List.getElem_cons_zero, List.getElem_cons_succ]
          go_wp2
          refine hK1.out _ _ ((hS).alloc HSD.out.sz _) (fun hS1 => ?_)
          refine wpAnyH_ready (rs := [23]) (by kernel_rfl) (by simp) ?_
          refine AllReadyH.cons rfl (fun K2 hK2 => ?_) AllReadyH.nil
          refine wanted_go rfl ?_
          simp only [List.getElem_toArray, List.getElem_cons_zero, List.getElem_cons_succ]
          (obtain ⟨v', w9, hr, hown, hgrow, _⟩ := run_append_own (P := Try.prog) (w := W9.drew.alloc (.cells #[.int .i64 xl, .int .i64 xa, .int .i64 xb, .slice xA xv.length xC, .slice none 0 0] 47)) Wd.heap.size 35 35 47 i0 _ 5 72 Try.underlying35 hi0 hz0 hz1 hz2 rfl (by decide) _ _ _ (HSD.out.row.alloc _) ⟨W9.heap.size, 0, none⟩ 1 1 [.int .i64 xl, .int .i64 xa, .int .i64 xb, .slice xA xv.length xC, .slice none 0 0] rfl (fun j u hu => new_cells W9.drew [.int .i64 xl, .int .i64 xa, .int .i64 xb, .slice xA xv.length xC, .slice none 0 0] 47 j u hu) (one_chV ⟨⟨xl, xa, xb, xv, []⟩, xA, xC, none, 0⟩) b1 b2 (by have := HSD.out.sz; rw [World.size_alloc]; omega); have HA := Lib.hid (HSD.out.app (x := ⟨⟨xl, xa, xb, xv, []⟩, xA, xC, none, 0⟩) ⟨HXVv.out _ HSD.out.lo, .inl rfl⟩ hown hgrow); refine Lib.wp_append_run _ _ _ _ _ rfl _ _ rfl rfl _ _ hr ?_)
          refine hK2.out _ _ (HA.out.lo) (fun hS2 => ?_)
          refine takeL (i := 24) (v := v') rfl rfl (by kernel_rfl) (by kernel_rfl) (by kernel_rfl) (fun _ _ _ h => h) (Or.inl ⟨by simp [Region.wanted], fun W _ => by go_simp⟩) hS2 (by dsimp only [List.set_cons_zero, List.set_cons_succ]) ?_
          refine wpAnyH_done (by kernel_rfl) ?_ _
          have HM3 := HDEL
          clear HM
          go_wp2
          go_roundw
          case rel => exact ⟨i + 1, k, _, by go_num, by go_num, by omega, by omega, by rw [List.length_append, List.length_cons, List.length_nil]; omega, HM3.out, HA.out⟩
          case measure => simp [intOf]; omega
        · have HYCc := Lib.hid (fun W h => HYC.out W h k _ hy)
          have HYVv := Lib.hid (fun W h => HYV.out W h k _ hy)
          have HY0 := Lib.hid hy
          clear hy
          dsimp only at HYCc HYVv
          have hkn : ((k : Int) == (ny : Int)) = false := by simp; omega
          obtain ⟨tt, hL2⟩ : ∃ tt, lessD yl ya yb xl xa xb = tt := ⟨_, rfl⟩
          have L2 := Lib.hid (show ∀ W, Calls Try.prog 26 #[.int .i64 yl, .int .i64 ya, .int .i64 yb, .int .i64 xl, .int .i64 xa, .int .i64 xb] W fun e w' => e = .returned (.bool tt) ∧ W = w' from fun W => by have h := rless29 yl ya yb xl xa xb W; rw [hL2] at h; exact h)
          have HL1 := Lib.hid hL1
          have HLT := Lib.hid hL2
          clear hL1 hL2
          go_upto_region 12 with (fail)
          refine at_world (Φ := fun W => ChS Wd.heap.size Wd oo u7 W) HS.out ?_
          clear HS
          rintro W8 hs8
          have HS := Lib.hid hs8
          clear hs8
          obtain ⟨kx0, kx1, kx2, kx3⟩ := HXCc.out _ HS.out.lo
          obtain ⟨ky0, ky1, ky2, ky3⟩ := HYCc.out _ HS.out.lo
          go_quiet ((go_at_call 26; exact quietD L2.out _ _))
          clear kx0 kx1 kx2 kx3
          clear ky0 ky1 ky2 ky3
          have HS2 := Lib.hid (HS.out.below (below_drews nq))
          clear HS
          have HS := Lib.hid HS2.out
          clear HS2
          cases tt with
          | true =>
            go_upto_region 13 with (fail)
            refine at_world (Φ := fun W => ChS Wd.heap.size Wd oo u7 W) HS.out ?_
            clear HS
            rintro W9 hs9
            have HSD := Lib.hid (show ChS Wd.heap.size Wd oo u7 W9.drew from hs9.below ((Below.refl _ _).drew))
            clear hs9
            have b1 : oo.length + 1 ≤ maxLen := by unfold maxLen; omega
            have b2 : (oo.length + 1) * 72 ≤ 140737488355328 := by omega
            refine wp_region_held_drew (S := fun W => Below Wd.heap.size Wd W) (by kernel_rfl) (HSD.out.lo) (fun hS => ?_)
            refine takeL (i := 0) (v := u7) rfl rfl (by kernel_rfl) (by kernel_rfl) (by kernel_rfl) (fun _ _ _ h => h) (Or.inl ⟨by simp [Region.wanted], fun W _ => by go_simp⟩) hS (by dsimp only [List.set_cons_zero, List.set_cons_succ]) ?_
            refine takeL (i := 1) (v := .slice (some ⟨gy, 0, none⟩) ny py) rfl rfl (by kernel_rfl) (by kernel_rfl) (by kernel_rfl) (fun _ _ _ h => h) (Or.inl ⟨by simp [Region.wanted], fun W _ => by go_simp⟩) hS (by dsimp only [List.set_cons_zero, List.set_cons_succ]) ?_
            refine takeL (i := 2) (v := .int .i64 (k : Int)) rfl rfl (by kernel_rfl) (by kernel_rfl) (by kernel_rfl) (fun _ _ _ h => h) (Or.inl ⟨by simp [Region.wanted], fun W _ => by go_simp⟩) hS (by dsimp only [List.set_cons_zero, List.set_cons_succ]) ?_
            refine takeL (i := 3) (v := .pointer (some ⟨gy, k * 4, none⟩)) rfl rfl (by kernel_rfl) (by kernel_rfl) (by kernel_rfl) (fun _ _ _ h => h) (Or.inl ⟨by simp [Region.wanted], fun W _ => by go_simp⟩) hS (by dsimp only [List.set_cons_zero, List.set_cons_succ]) ?_
            refine takeL (i := 4) (v := .pointer (some ⟨gy, k * 4, none⟩)) rfl rfl (by kernel_rfl) (by kernel_rfl) (by kernel_rfl) (fun _ _ _ h => h) (Or.inl ⟨by simp [Region.wanted], fun W _ => by go_simp⟩) hS (by dsimp only [List.set_cons_zero, List.set_cons_succ]) ?_
            refine takeL (i := 5) (v := .int .i64 yl) rfl rfl (by kernel_rfl) (by kernel_rfl) (by kernel_rfl) (fun _ _ _ h => h) (Or.inl ⟨by simp [Region.wanted], fun W hW => by have kc := (HYCc.out W hW).1; go_simp⟩) hS (by dsimp only [List.set_cons_zero, List.set_cons_succ]) ?_
            refine takeL (i := 6) (v := .slice (some ⟨gy, 0, none⟩) ny py) rfl rfl (by kernel_rfl) (by kernel_rfl) (by kernel_rfl) (fun _ _ _ h => h) (Or.inl ⟨by simp [Region.wanted], fun W _ => by go_simp⟩) hS (by dsimp only [List.set_cons_zero, List.set_cons_succ]) ?_
            refine takeL (i := 7) (v := .int .i64 (k : Int)) rfl rfl (by kernel_rfl) (by kernel_rfl) (by kernel_rfl) (fun _ _ _ h => h) (Or.inl ⟨by simp [Region.wanted], fun W _ => by go_simp⟩) hS (by dsimp only [List.set_cons_zero, List.set_cons_succ]) ?_
            refine takeL (i := 8) (v := .pointer (some ⟨gy, k * 4, none⟩)) rfl rfl (by kernel_rfl) (by kernel_rfl) (by kernel_rfl) (fun _ _ _ h => h) (Or.inl ⟨by simp [Region.wanted], fun W _ => by go_simp⟩) hS (by dsimp only [List.set_cons_zero, List.set_cons_succ]) ?_
            refine takeL (i := 9) (v := .pointer (some ⟨gy, k * 4 + 1, none⟩)) rfl rfl (by kernel_rfl) (by kernel_rfl) (by kernel_rfl) (fun _ _ _ h => h) (Or.inl ⟨by simp [Region.wanted], fun W _ => by go_simp⟩) hS (by dsimp only [List.set_cons_zero, List.set_cons_succ]) ?_
            refine takeL (i := 10) (v := .int .i64 ya) rfl rfl (by kernel_rfl) (by kernel_rfl) (by kernel_rfl) (fun _ _ _ h => h) (Or.inl ⟨by simp [Region.wanted], fun W hW => by have kc := (HYCc.out W hW).2.1; go_simp⟩) hS (by dsimp only [List.set_cons_zero, List.set_cons_succ]) ?_
            refine takeL (i := 11) (v := .slice (some ⟨gy, 0, none⟩) ny py) rfl rfl (by kernel_rfl) (by kernel_rfl) (by kernel_rfl) (fun _ _ _ h => h) (Or.inl ⟨by simp [Region.wanted], fun W _ => by go_simp⟩) hS (by dsimp only [List.set_cons_zero, List.set_cons_succ]) ?_
            refine takeL (i := 12) (v := .int .i64 (k : Int)) rfl rfl (by kernel_rfl) (by kernel_rfl) (by kernel_rfl) (fun _ _ _ h => h) (Or.inl ⟨by simp [Region.wanted], fun W _ => by go_simp⟩) hS (by dsimp only [List.set_cons_zero, List.set_cons_succ]) ?_
            refine takeL (i := 13) (v := .pointer (some ⟨gy, k * 4, none⟩)) rfl rfl (by kernel_rfl) (by kernel_rfl) (by kernel_rfl) (fun _ _ _ h => h) (Or.inl ⟨by simp [Region.wanted], fun W _ => by go_simp⟩) hS (by dsimp only [List.set_cons_zero, List.set_cons_succ]) ?_
            refine takeL (i := 14) (v := .pointer (some ⟨gy, k * 4 + 2, none⟩)) rfl rfl (by kernel_rfl) (by kernel_rfl) (by kernel_rfl) (fun _ _ _ h => h) (Or.inl ⟨by simp [Region.wanted], fun W _ => by go_simp⟩) hS (by dsimp only [List.set_cons_zero, List.set_cons_succ]) ?_
            refine takeL (i := 15) (v := .int .i64 yb) rfl rfl (by kernel_rfl) (by kernel_rfl) (by kernel_rfl) (fun _ _ _ h => h) (Or.inl ⟨by simp [Region.wanted], fun W hW => by have kc := (HYCc.out W hW).2.2.1; go_simp⟩) hS (by dsimp only [List.set_cons_zero, List.set_cons_succ]) ?_
            refine takeL (i := 16) (v := .slice (some ⟨gy, 0, none⟩) ny py) rfl rfl (by kernel_rfl) (by kernel_rfl) (by kernel_rfl) (fun _ _ _ h => h) (Or.inl ⟨by simp [Region.wanted], fun W _ => by go_simp⟩) hS (by dsimp only [List.set_cons_zero, List.set_cons_succ]) ?_
            refine takeL (i := 17) (v := .int .i64 (k : Int)) rfl rfl (by kernel_rfl) (by kernel_rfl) (by kernel_rfl) (fun _ _ _ h => h) (Or.inl ⟨by simp [Region.wanted], fun W _ => by go_simp⟩) hS (by dsimp only [List.set_cons_zero, List.set_cons_succ]) ?_
            refine takeL (i := 18) (v := .pointer (some ⟨gy, k * 4, none⟩)) rfl rfl (by kernel_rfl) (by kernel_rfl) (by kernel_rfl) (fun _ _ _ h => h) (Or.inl ⟨by simp [Region.wanted], fun W _ => by go_simp⟩) hS (by dsimp only [List.set_cons_zero, List.set_cons_succ]) ?_
            refine takeL (i := 19) (v := .pointer (some ⟨gy, k * 4 + 3, none⟩)) rfl rfl (by kernel_rfl) (by kernel_rfl) (by kernel_rfl) (fun _ _ _ h => h) (Or.inl ⟨by simp [Region.wanted], fun W _ => by go_simp⟩) hS (by dsimp only [List.set_cons_zero, List.set_cons_succ]) ?_
            refine takeL (i := 20) (v := .slice yA yv.length yC) rfl rfl (by kernel_rfl) (by kernel_rfl) (by kernel_rfl) (fun _ _ _ h => h) (Or.inl ⟨by simp [Region.wanted], fun W hW => by have kc := (HYCc.out W hW).2.2.2; go_simp⟩) hS (by dsimp only [List.set_cons_zero, List.set_cons_succ]) ?_
            refine takeL (i := 21) (v := .agg #[.int .i64 yl, .int .i64 ya, .int .i64 yb, .slice none 0 0, .slice yA yv.length yC]) rfl rfl (by kernel_rfl) (by kernel_rfl) (by kernel_rfl) (fun _ _ _ h => h) (Or.inl ⟨by simp [Region.wanted], fun W _ => by go_simp⟩) hS (by dsimp only [List.set_cons_zero, List.set_cons_succ]) ?_
            refine wpAnyH_ready (rs := [22]) (by kernel_rfl) (by simp) ?_
            refine AllReadyH.cons rfl (fun K1 hK1 => ?_) AllReadyH.nil
            refine wanted_go rfl ?_
            simp only [List.getElem_toArray, List.getElem_cons_zero, List.getElem_cons_succ]
            go_wp2
            refine hK1.out _ _ ((hS).alloc HSD.out.sz _) (fun hS1 => ?_)
            refine wpAnyH_ready (rs := [23]) (by kernel_rfl) (by simp) ?_
            refine AllReadyH.cons rfl (fun K2 hK2 => ?_) AllReadyH.nil
            refine wanted_go rfl ?_
            simp only [List.getElem_toArray, List.getElem_cons_zero, List.getElem_cons_succ]
            (obtain ⟨v', w9, hr, hown, hgrow, _⟩ := run_append_own (P := Try.prog) (w := W9.drew.alloc (.cells #[.int .i64 yl, .int .i64 ya, .int .i64 yb, .slice none 0 0, .slice yA yv.length yC] 47)) Wd.heap.size 35 35 47 i0 _ 5 72 Try.underlying35 hi0 hz0 hz1 hz2 rfl (by decide) _ _ _ (HSD.out.row.alloc _) ⟨W9.heap.size, 0, none⟩ 1 1 [.int .i64 yl, .int .i64 ya, .int .i64 yb, .slice none 0 0, .slice yA yv.length yC] rfl (fun j u hu => new_cells W9.drew [.int .i64 yl, .int .i64 ya, .int .i64 yb, .slice none 0 0, .slice yA yv.length yC] 47 j u hu) (one_chV ⟨⟨yl, ya, yb, [], yv⟩, none, 0, yA, yC⟩) b1 b2 (by have := HSD.out.sz; rw [World.size_alloc]; omega); have HA := Lib.hid (HSD.out.app (x := ⟨⟨yl, ya, yb, [], yv⟩, none, 0, yA, yC⟩) ⟨.inl rfl, HYVv.out _ HSD.out.lo⟩ hown hgrow); refine Lib.wp_append_run _ _ _ _ _ rfl _ _ rfl rfl _ _ hr ?_)
            refine hK2.out _ _ (HA.out.lo) (fun hS2 => ?_)
            refine takeL (i := 24) (v := v') rfl rfl (by kernel_rfl) (by kernel_rfl) (by kernel_rfl) (fun _ _ _ h => h) (Or.inl ⟨by simp [Region.wanted], fun W _ => by go_simp⟩) hS2 (by dsimp only [List.set_cons_zero, List.set_cons_succ]) ?_
            refine wpAnyH_done (by kernel_rfl) ?_ _
            have HM3 := Lib.hid (step_ins HM.out HX0.out HY0.out HL1.out HLT.out)
            clear HM
            go_wp2
            go_roundw
            case rel => exact ⟨i, k + 1, _, by go_num, by go_num, by omega, by omega, by rw [List.length_append, List.length_cons, List.length_nil]; omega, HM3.out, HA.out⟩
            case measure => simp [intOf]; omega
          | false =>
            go_upto_region 5 with (fail)
            refine at_world (Φ := fun W => ChS Wd.heap.size Wd oo u7 W) HS.out ?_
            clear HS
            rintro W6 hs8
            have HS := Lib.hid hs8
            clear hs8
            obtain ⟨ee, he⟩ : ∃ ee, decide (xv = yv) = ee := ⟨_, rfl⟩
            have HSM := Lib.hid (show ∀ n, Calls Try.prog 24 #[.slice xA xv.length xC, .slice yA yv.length yC] (W6.drewN n) fun e w' => e = .returned (.bool ee) ∧ ∃ k, w' = (W6.drewN n).drewN k from fun n => by have h := rsame12 xA yA xv yv xC yC (W6.drewN n) (((HXVv.out _ HS.out.lo).below (below_drews n)).i64s) (((HYVv.out _ HS.out.lo).below (below_drews n)).i64s) (by have := HXS5.out; omega); rw [he] at h; exact h)
            have HE := Lib.hid he
            clear he
            obtain ⟨kx0, kx1, kx2, kx3⟩ := HXCc.out _ HS.out.lo
            obtain ⟨ky0, ky1, ky2, ky3⟩ := HYCc.out _ HS.out.lo
            go_quiet ((go_at_call 24; exact quietS HSM.out _))
            clear kx0 kx1 kx2 kx3
            clear ky0 ky1 ky2 ky3
            have HS2 := Lib.hid (HS.out.below (below_drews nq))
            clear HS
            have HS := Lib.hid HS2.out
            clear HS2
            clear HSM
            cases ee with
            | true =>
              have HM3 := Lib.hid (step_same HM.out HX0.out HY0.out HL1.out HLT.out (of_decide_eq_true HE.out))
              clear HM
              go_wp2
              go_roundw
              case rel => exact ⟨i + 1, k + 1, _, by go_num, by go_num, by omega, by omega, by omega, HM3.out, HS.out⟩
              case measure => simp [intOf]; omega
            | false =>
              go_upto_region 6 with (fail)
              refine at_world (Φ := fun W => ChS Wd.heap.size Wd oo u7 W) HS.out ?_
              clear HS
              rintro W9 hs9
              have HSD := Lib.hid (show ChS Wd.heap.size Wd oo u7 W9.drew from hs9.below ((Below.refl _ _).drew))
              clear hs9
              have b1 : oo.length + 1 ≤ maxLen := by unfold maxLen; omega
              have b2 : (oo.length + 1) * 72 ≤ 140737488355328 := by omega
              refine wp_region_held_drew (S := fun W => Below Wd.heap.size Wd W) (by kernel_rfl) (HSD.out.lo) (fun hS => ?_)
              refine takeL (i := 0) (v := u7) rfl rfl (by kernel_rfl) (by kernel_rfl) (by kernel_rfl) (fun _ _ _ h => h) (Or.inl ⟨by simp [Region.wanted], fun W _ => by go_simp⟩) hS (by dsimp only [List.set_cons_zero, List.set_cons_succ]) ?_
              refine takeL (i := 1) (v := .slice (some ⟨gx, 0, none⟩) nx px) rfl rfl (by kernel_rfl) (by kernel_rfl) (by kernel_rfl) (fun _ _ _ h => h) (Or.inl ⟨by simp [Region.wanted], fun W _ => by go_simp⟩) hS (by dsimp only [List.set_cons_zero, List.set_cons_succ]) ?_
              refine takeL (i := 2) (v := .int .i64 (i : Int)) rfl rfl (by kernel_rfl) (by kernel_rfl) (by kernel_rfl) (fun _ _ _ h => h) (Or.inl ⟨by simp [Region.wanted], fun W _ => by go_simp⟩) hS (by dsimp only [List.set_cons_zero, List.set_cons_succ]) ?_
              refine takeL (i := 3) (v := .pointer (some ⟨gx, i * 4, none⟩)) rfl rfl (by kernel_rfl) (by kernel_rfl) (by kernel_rfl) (fun _ _ _ h => h) (Or.inl ⟨by simp [Region.wanted], fun W _ => by go_simp⟩) hS (by dsimp only [List.set_cons_zero, List.set_cons_succ]) ?_
              refine takeL (i := 4) (v := .pointer (some ⟨gx, i * 4, none⟩)) rfl rfl (by kernel_rfl) (by kernel_rfl) (by kernel_rfl) (fun _ _ _ h => h) (Or.inl ⟨by simp [Region.wanted], fun W _ => by go_simp⟩) hS (by dsimp only [List.set_cons_zero, List.set_cons_succ]) ?_
              refine takeL (i := 5) (v := .int .i64 xl) rfl rfl (by kernel_rfl) (by kernel_rfl) (by kernel_rfl) (fun _ _ _ h => h) (Or.inl ⟨by simp [Region.wanted], fun W hW => by have kc := (HXCc.out W hW).1; go_simp⟩) hS (by dsimp only [List.set_cons_zero, List.set_cons_succ]) ?_
              refine takeL (i := 6) (v := .slice (some ⟨gx, 0, none⟩) nx px) rfl rfl (by kernel_rfl) (by kernel_rfl) (by kernel_rfl) (fun _ _ _ h => h) (Or.inl ⟨by simp [Region.wanted], fun W _ => by go_simp⟩) hS (by dsimp only [List.set_cons_zero, List.set_cons_succ]) ?_
              refine takeL (i := 7) (v := .int .i64 (i : Int)) rfl rfl (by kernel_rfl) (by kernel_rfl) (by kernel_rfl) (fun _ _ _ h => h) (Or.inl ⟨by simp [Region.wanted], fun W _ => by go_simp⟩) hS (by dsimp only [List.set_cons_zero, List.set_cons_succ]) ?_
              refine takeL (i := 8) (v := .pointer (some ⟨gx, i * 4, none⟩)) rfl rfl (by kernel_rfl) (by kernel_rfl) (by kernel_rfl) (fun _ _ _ h => h) (Or.inl ⟨by simp [Region.wanted], fun W _ => by go_simp⟩) hS (by dsimp only [List.set_cons_zero, List.set_cons_succ]) ?_
              refine takeL (i := 9) (v := .pointer (some ⟨gx, i * 4 + 1, none⟩)) rfl rfl (by kernel_rfl) (by kernel_rfl) (by kernel_rfl) (fun _ _ _ h => h) (Or.inl ⟨by simp [Region.wanted], fun W _ => by go_simp⟩) hS (by dsimp only [List.set_cons_zero, List.set_cons_succ]) ?_
              refine takeL (i := 10) (v := .int .i64 xa) rfl rfl (by kernel_rfl) (by kernel_rfl) (by kernel_rfl) (fun _ _ _ h => h) (Or.inl ⟨by simp [Region.wanted], fun W hW => by have kc := (HXCc.out W hW).2.1; go_simp⟩) hS (by dsimp only [List.set_cons_zero, List.set_cons_succ]) ?_
              refine takeL (i := 11) (v := .slice (some ⟨gx, 0, none⟩) nx px) rfl rfl (by kernel_rfl) (by kernel_rfl) (by kernel_rfl) (fun _ _ _ h => h) (Or.inl ⟨by simp [Region.wanted], fun W _ => by go_simp⟩) hS (by dsimp only [List.set_cons_zero, List.set_cons_succ]) ?_
              refine takeL (i := 12) (v := .int .i64 (i : Int)) rfl rfl (by kernel_rfl) (by kernel_rfl) (by kernel_rfl) (fun _ _ _ h => h) (Or.inl ⟨by simp [Region.wanted], fun W _ => by go_simp⟩) hS (by dsimp only [List.set_cons_zero, List.set_cons_succ]) ?_
              refine takeL (i := 13) (v := .pointer (some ⟨gx, i * 4, none⟩)) rfl rfl (by kernel_rfl) (by kernel_rfl) (by kernel_rfl) (fun _ _ _ h => h) (Or.inl ⟨by simp [Region.wanted], fun W _ => by go_simp⟩) hS (by dsimp only [List.set_cons_zero, List.set_cons_succ]) ?_
              refine takeL (i := 14) (v := .pointer (some ⟨gx, i * 4 + 2, none⟩)) rfl rfl (by kernel_rfl) (by kernel_rfl) (by kernel_rfl) (fun _ _ _ h => h) (Or.inl ⟨by simp [Region.wanted], fun W _ => by go_simp⟩) hS (by dsimp only [List.set_cons_zero, List.set_cons_succ]) ?_
              refine takeL (i := 15) (v := .int .i64 xb) rfl rfl (by kernel_rfl) (by kernel_rfl) (by kernel_rfl) (fun _ _ _ h => h) (Or.inl ⟨by simp [Region.wanted], fun W hW => by have kc := (HXCc.out W hW).2.2.1; go_simp⟩) hS (by dsimp only [List.set_cons_zero, List.set_cons_succ]) ?_
              refine takeL (i := 16) (v := .slice (some ⟨gx, 0, none⟩) nx px) rfl rfl (by kernel_rfl) (by kernel_rfl) (by kernel_rfl) (fun _ _ _ h => h) (Or.inl ⟨by simp [Region.wanted], fun W _ => by go_simp⟩) hS (by dsimp only [List.set_cons_zero, List.set_cons_succ]) ?_
              refine takeL (i := 17) (v := .int .i64 (i : Int)) rfl rfl (by kernel_rfl) (by kernel_rfl) (by kernel_rfl) (fun _ _ _ h => h) (Or.inl ⟨by simp [Region.wanted], fun W _ => by go_simp⟩) hS (by dsimp only [List.set_cons_zero, List.set_cons_succ]) ?_
              refine takeL (i := 18) (v := .pointer (some ⟨gx, i * 4, none⟩)) rfl rfl (by kernel_rfl) (by kernel_rfl) (by kernel_rfl) (fun _ _ _ h => h) (Or.inl ⟨by simp [Region.wanted], fun W _ => by go_simp⟩) hS (by dsimp only [List.set_cons_zero, List.set_cons_succ]) ?_
              refine takeL (i := 19) (v := .pointer (some ⟨gx, i * 4 + 3, none⟩)) rfl rfl (by kernel_rfl) (by kernel_rfl) (by kernel_rfl) (fun _ _ _ h => h) (Or.inl ⟨by simp [Region.wanted], fun W _ => by go_simp⟩) hS (by dsimp only [List.set_cons_zero, List.set_cons_succ]) ?_
              refine takeL (i := 20) (v := .slice xA xv.length xC) rfl rfl (by kernel_rfl) (by kernel_rfl) (by kernel_rfl) (fun _ _ _ h => h) (Or.inl ⟨by simp [Region.wanted], fun W hW => by have kc := (HXCc.out W hW).2.2.2; go_simp⟩) hS (by dsimp only [List.set_cons_zero, List.set_cons_succ]) ?_
              refine takeL (i := 21) (v := .slice (some ⟨gy, 0, none⟩) ny py) rfl rfl (by kernel_rfl) (by kernel_rfl) (by kernel_rfl) (fun _ _ _ h => h) (Or.inl ⟨by simp [Region.wanted], fun W _ => by go_simp⟩) hS (by dsimp only [List.set_cons_zero, List.set_cons_succ]) ?_
              refine takeL (i := 22) (v := .int .i64 (k : Int)) rfl rfl (by kernel_rfl) (by kernel_rfl) (by kernel_rfl) (fun _ _ _ h => h) (Or.inl ⟨by simp [Region.wanted], fun W _ => by go_simp⟩) hS (by dsimp only [List.set_cons_zero, List.set_cons_succ]) ?_
              refine takeL (i := 23) (v := .pointer (some ⟨gy, k * 4, none⟩)) rfl rfl (by kernel_rfl) (by kernel_rfl) (by kernel_rfl) (fun _ _ _ h => h) (Or.inl ⟨by simp [Region.wanted], fun W _ => by go_simp⟩) hS (by dsimp only [List.set_cons_zero, List.set_cons_succ]) ?_
              refine takeL (i := 24) (v := .pointer (some ⟨gy, k * 4 + 3, none⟩)) rfl rfl (by kernel_rfl) (by kernel_rfl) (by kernel_rfl) (fun _ _ _ h => h) (Or.inl ⟨by simp [Region.wanted], fun W _ => by go_simp⟩) hS (by dsimp only [List.set_cons_zero, List.set_cons_succ]) ?_
              refine takeL (i := 25) (v := .slice yA yv.length yC) rfl rfl (by kernel_rfl) (by kernel_rfl) (by kernel_rfl) (fun _ _ _ h => h) (Or.inl ⟨by simp [Region.wanted], fun W hW => by have kc := (HYCc.out W hW).2.2.2; go_simp⟩) hS (by dsimp only [List.set_cons_zero, List.set_cons_succ]) ?_
              refine takeL (i := 26) (v := .agg #[.int .i64 xl, .int .i64 xa, .int .i64 xb, .slice xA xv.length xC, .slice yA yv.length yC]) rfl rfl (by kernel_rfl) (by kernel_rfl) (by kernel_rfl) (fun _ _ _ h => h) (Or.inl ⟨by simp [Region.wanted], fun W _ => by go_simp⟩) hS (by dsimp only [List.set_cons_zero, List.set_cons_succ]) ?_
              refine wpAnyH_ready (rs := [27]) (by kernel_rfl) (by simp) ?_
              refine AllReadyH.cons rfl (fun K1 hK1 => ?_) AllReadyH.nil
              refine wanted_go rfl ?_
              simp only [List.getElem_toArray, List.getElem_cons_zero, List.getElem_cons_succ]
              go_wp2
              refine hK1.out _ _ ((hS).alloc HSD.out.sz _) (fun hS1 => ?_)
              refine wpAnyH_ready (rs := [28]) (by kernel_rfl) (by simp) ?_
              refine AllReadyH.cons rfl (fun K2 hK2 => ?_) AllReadyH.nil
              refine wanted_go rfl ?_
              simp only [List.getElem_toArray, List.getElem_cons_zero, List.getElem_cons_succ]
              (obtain ⟨v', w9, hr, hown, hgrow, _⟩ := run_append_own (P := Try.prog) (w := W9.drew.alloc (.cells #[.int .i64 xl, .int .i64 xa, .int .i64 xb, .slice xA xv.length xC, .slice yA yv.length yC] 47)) Wd.heap.size 35 35 47 i0 _ 5 72 Try.underlying35 hi0 hz0 hz1 hz2 rfl (by decide) _ _ _ (HSD.out.row.alloc _) ⟨W9.heap.size, 0, none⟩ 1 1 [.int .i64 xl, .int .i64 xa, .int .i64 xb, .slice xA xv.length xC, .slice yA yv.length yC] rfl (fun j u hu => new_cells W9.drew [.int .i64 xl, .int .i64 xa, .int .i64 xb, .slice xA xv.length xC, .slice yA yv.length yC] 47 j u hu) (one_chV ⟨⟨xl, xa, xb, xv, yv⟩, xA, xC, yA, yC⟩) b1 b2 (by have := HSD.out.sz; rw [World.size_alloc]; omega); have HA := Lib.hid (HSD.out.app (x := ⟨⟨xl, xa, xb, xv, yv⟩, xA, xC, yA, yC⟩) ⟨HXVv.out _ HSD.out.lo, HYVv.out _ HSD.out.lo⟩ hown hgrow); refine Lib.wp_append_run _ _ _ _ _ rfl _ _ rfl rfl _ _ hr ?_)
              refine hK2.out _ _ (HA.out.lo) (fun hS2 => ?_)
              refine takeL (i := 29) (v := v') rfl rfl (by kernel_rfl) (by kernel_rfl) (by kernel_rfl) (fun _ _ _ h => h) (Or.inl ⟨by simp [Region.wanted], fun W _ => by go_simp⟩) hS2 (by dsimp only [List.set_cons_zero, List.set_cons_succ]) ?_
              refine wpAnyH_done (by kernel_rfl) ?_ _
              have HM3 := Lib.hid (step_chg HM.out HX0.out HY0.out HL1.out HLT.out (of_decide_eq_false HE.out))
              clear HM
              go_wp2
              go_roundw
              case rel => exact ⟨i + 1, k + 1, _, by go_num, by go_num, by omega, by omega, by rw [List.length_append, List.length_cons, List.length_nil]; omega, HM3.out, HA.out⟩
              case measure => simp [intOf]; omega
    · have hie : i = nx := by omega
      have hin : ((i : Int) == (nx : Int)) = true := by simp; omega
      by_cases hly : k < ny
      · obtain ⟨⟨⟨yl, ya, yb, yv⟩, yA, yC⟩, hy⟩ := HNY.out k hly
        have HYCc := Lib.hid (fun W h => HYC.out W h k _ hy)
        have HYVv := Lib.hid (fun W h => HYV.out W h k _ hy)
        have HY0 := Lib.hid hy
        clear hy
        dsimp only at HYCc HYVv
        have hkn : ((k : Int) == (ny : Int)) = false := by simp; omega
        go_upto_region 9 with (fail)
        refine at_world (Φ := fun W => ChS Wd.heap.size Wd oo u7 W) HS.out ?_
        clear HS
        rintro W8 hs8
        have HS := Lib.hid hs8
        clear hs8
        obtain ⟨ky0, ky1, ky2, ky3⟩ := HYCc.out _ HS.out.lo
        go_quiet (fail)
        clear ky0 ky1 ky2 ky3
        have HS2 := Lib.hid (HS.out.below (below_drews nq))
        clear HS
        have HS := Lib.hid HS2.out
        clear HS2
        go_upto_region 12 with (fail)
        refine at_world (Φ := fun W => ChS Wd.heap.size Wd oo u7 W) HS.out ?_
        clear HS
        rintro W8 hs8
        have HS := Lib.hid hs8
        clear hs8
        obtain ⟨ky0, ky1, ky2, ky3⟩ := HYCc.out _ HS.out.lo
        go_quiet (fail)
        clear ky0 ky1 ky2 ky3
        have HS2 := Lib.hid (HS.out.below (below_drews nq))
        clear HS
        have HS := Lib.hid HS2.out
        clear HS2
        go_upto_region 13 with (fail)
        refine at_world (Φ := fun W => ChS Wd.heap.size Wd oo u7 W) HS.out ?_
        clear HS
        rintro W9 hs9
        have HSD := Lib.hid (show ChS Wd.heap.size Wd oo u7 W9.drew from hs9.below ((Below.refl _ _).drew))
        clear hs9
        have b1 : oo.length + 1 ≤ maxLen := by unfold maxLen; omega
        have b2 : (oo.length + 1) * 72 ≤ 140737488355328 := by omega
        refine wp_region_held_drew (S := fun W => Below Wd.heap.size Wd W) (by kernel_rfl) (HSD.out.lo) (fun hS => ?_)
        refine takeL (i := 0) (v := u7) rfl rfl (by kernel_rfl) (by kernel_rfl) (by kernel_rfl) (fun _ _ _ h => h) (Or.inl ⟨by simp [Region.wanted], fun W _ => by go_simp⟩) hS (by dsimp only [List.set_cons_zero, List.set_cons_succ]) ?_
        refine takeL (i := 1) (v := .slice (some ⟨gy, 0, none⟩) ny py) rfl rfl (by kernel_rfl) (by kernel_rfl) (by kernel_rfl) (fun _ _ _ h => h) (Or.inl ⟨by simp [Region.wanted], fun W _ => by go_simp⟩) hS (by dsimp only [List.set_cons_zero, List.set_cons_succ]) ?_
        refine takeL (i := 2) (v := .int .i64 (k : Int)) rfl rfl (by kernel_rfl) (by kernel_rfl) (by kernel_rfl) (fun _ _ _ h => h) (Or.inl ⟨by simp [Region.wanted], fun W _ => by go_simp⟩) hS (by dsimp only [List.set_cons_zero, List.set_cons_succ]) ?_
        refine takeL (i := 3) (v := .pointer (some ⟨gy, k * 4, none⟩)) rfl rfl (by kernel_rfl) (by kernel_rfl) (by kernel_rfl) (fun _ _ _ h => h) (Or.inl ⟨by simp [Region.wanted], fun W _ => by go_simp⟩) hS (by dsimp only [List.set_cons_zero, List.set_cons_succ]) ?_
        refine takeL (i := 4) (v := .pointer (some ⟨gy, k * 4, none⟩)) rfl rfl (by kernel_rfl) (by kernel_rfl) (by kernel_rfl) (fun _ _ _ h => h) (Or.inl ⟨by simp [Region.wanted], fun W _ => by go_simp⟩) hS (by dsimp only [List.set_cons_zero, List.set_cons_succ]) ?_
        refine takeL (i := 5) (v := .int .i64 yl) rfl rfl (by kernel_rfl) (by kernel_rfl) (by kernel_rfl) (fun _ _ _ h => h) (Or.inl ⟨by simp [Region.wanted], fun W hW => by have kc := (HYCc.out W hW).1; go_simp⟩) hS (by dsimp only [List.set_cons_zero, List.set_cons_succ]) ?_
        refine takeL (i := 6) (v := .slice (some ⟨gy, 0, none⟩) ny py) rfl rfl (by kernel_rfl) (by kernel_rfl) (by kernel_rfl) (fun _ _ _ h => h) (Or.inl ⟨by simp [Region.wanted], fun W _ => by go_simp⟩) hS (by dsimp only [List.set_cons_zero, List.set_cons_succ]) ?_
        refine takeL (i := 7) (v := .int .i64 (k : Int)) rfl rfl (by kernel_rfl) (by kernel_rfl) (by kernel_rfl) (fun _ _ _ h => h) (Or.inl ⟨by simp [Region.wanted], fun W _ => by go_simp⟩) hS (by dsimp only [List.set_cons_zero, List.set_cons_succ]) ?_
        refine takeL (i := 8) (v := .pointer (some ⟨gy, k * 4, none⟩)) rfl rfl (by kernel_rfl) (by kernel_rfl) (by kernel_rfl) (fun _ _ _ h => h) (Or.inl ⟨by simp [Region.wanted], fun W _ => by go_simp⟩) hS (by dsimp only [List.set_cons_zero, List.set_cons_succ]) ?_
        refine takeL (i := 9) (v := .pointer (some ⟨gy, k * 4 + 1, none⟩)) rfl rfl (by kernel_rfl) (by kernel_rfl) (by kernel_rfl) (fun _ _ _ h => h) (Or.inl ⟨by simp [Region.wanted], fun W _ => by go_simp⟩) hS (by dsimp only [List.set_cons_zero, List.set_cons_succ]) ?_
        refine takeL (i := 10) (v := .int .i64 ya) rfl rfl (by kernel_rfl) (by kernel_rfl) (by kernel_rfl) (fun _ _ _ h => h) (Or.inl ⟨by simp [Region.wanted], fun W hW => by have kc := (HYCc.out W hW).2.1; go_simp⟩) hS (by dsimp only [List.set_cons_zero, List.set_cons_succ]) ?_
        refine takeL (i := 11) (v := .slice (some ⟨gy, 0, none⟩) ny py) rfl rfl (by kernel_rfl) (by kernel_rfl) (by kernel_rfl) (fun _ _ _ h => h) (Or.inl ⟨by simp [Region.wanted], fun W _ => by go_simp⟩) hS (by dsimp only [List.set_cons_zero, List.set_cons_succ]) ?_
        refine takeL (i := 12) (v := .int .i64 (k : Int)) rfl rfl (by kernel_rfl) (by kernel_rfl) (by kernel_rfl) (fun _ _ _ h => h) (Or.inl ⟨by simp [Region.wanted], fun W _ => by go_simp⟩) hS (by dsimp only [List.set_cons_zero, List.set_cons_succ]) ?_
        refine takeL (i := 13) (v := .pointer (some ⟨gy, k * 4, none⟩)) rfl rfl (by kernel_rfl) (by kernel_rfl) (by kernel_rfl) (fun _ _ _ h => h) (Or.inl ⟨by simp [Region.wanted], fun W _ => by go_simp⟩) hS (by dsimp only [List.set_cons_zero, List.set_cons_succ]) ?_
        refine takeL (i := 14) (v := .pointer (some ⟨gy, k * 4 + 2, none⟩)) rfl rfl (by kernel_rfl) (by kernel_rfl) (by kernel_rfl) (fun _ _ _ h => h) (Or.inl ⟨by simp [Region.wanted], fun W _ => by go_simp⟩) hS (by dsimp only [List.set_cons_zero, List.set_cons_succ]) ?_
        refine takeL (i := 15) (v := .int .i64 yb) rfl rfl (by kernel_rfl) (by kernel_rfl) (by kernel_rfl) (fun _ _ _ h => h) (Or.inl ⟨by simp [Region.wanted], fun W hW => by have kc := (HYCc.out W hW).2.2.1; go_simp⟩) hS (by dsimp only [List.set_cons_zero, List.set_cons_succ]) ?_
        refine takeL (i := 16) (v := .slice (some ⟨gy, 0, none⟩) ny py) rfl rfl (by kernel_rfl) (by kernel_rfl) (by kernel_rfl) (fun _ _ _ h => h) (Or.inl ⟨by simp [Region.wanted], fun W _ => by go_simp⟩) hS (by dsimp only [List.set_cons_zero, List.set_cons_succ]) ?_
        refine takeL (i := 17) (v := .int .i64 (k : Int)) rfl rfl (by kernel_rfl) (by kernel_rfl) (by kernel_rfl) (fun _ _ _ h => h) (Or.inl ⟨by simp [Region.wanted], fun W _ => by go_simp⟩) hS (by dsimp only [List.set_cons_zero, List.set_cons_succ]) ?_
        refine takeL (i := 18) (v := .pointer (some ⟨gy, k * 4, none⟩)) rfl rfl (by kernel_rfl) (by kernel_rfl) (by kernel_rfl) (fun _ _ _ h => h) (Or.inl ⟨by simp [Region.wanted], fun W _ => by go_simp⟩) hS (by dsimp only [List.set_cons_zero, List.set_cons_succ]) ?_
        refine takeL (i := 19) (v := .pointer (some ⟨gy, k * 4 + 3, none⟩)) rfl rfl (by kernel_rfl) (by kernel_rfl) (by kernel_rfl) (fun _ _ _ h => h) (Or.inl ⟨by simp [Region.wanted], fun W _ => by go_simp⟩) hS (by dsimp only [List.set_cons_zero, List.set_cons_succ]) ?_
        refine takeL (i := 20) (v := .slice yA yv.length yC) rfl rfl (by kernel_rfl) (by kernel_rfl) (by kernel_rfl) (fun _ _ _ h => h) (Or.inl ⟨by simp [Region.wanted], fun W hW => by have kc := (HYCc.out W hW).2.2.2; go_simp⟩) hS (by dsimp only [List.set_cons_zero, List.set_cons_succ]) ?_
        refine takeL (i := 21) (v := .agg #[.int .i64 yl, .int .i64 ya, .int .i64 yb, .slice none 0 0, .slice yA yv.length yC]) rfl rfl (by kernel_rfl) (by kernel_rfl) (by kernel_rfl) (fun _ _ _ h => h) (Or.inl ⟨by simp [Region.wanted], fun W _ => by go_simp⟩) hS (by dsimp only [List.set_cons_zero, List.set_cons_succ]) ?_
        refine wpAnyH_ready (rs := [22]) (by kernel_rfl) (by simp) ?_
        refine AllReadyH.cons rfl (fun K1 hK1 => ?_) AllReadyH.nil
        refine wanted_go rfl ?_
        simp only [List.getElem_toArray, List.getElem_cons_zero, List.getElem_cons_succ]
        go_wp2
        refine hK1.out _ _ ((hS).alloc HSD.out.sz _) (fun hS1 => ?_)
        refine wpAnyH_ready (rs := [23]) (by kernel_rfl) (by simp) ?_
        refine AllReadyH.cons rfl (fun K2 hK2 => ?_) AllReadyH.nil
        refine wanted_go rfl ?_
        simp only [List.getElem_toArray, List.getElem_cons_zero, List.getElem_cons_succ]
        (obtain ⟨v', w9, hr, hown, hgrow, _⟩ := run_append_own (P := Try.prog) (w := W9.drew.alloc (.cells #[.int .i64 yl, .int .i64 ya, .int .i64 yb, .slice none 0 0, .slice yA yv.length yC] 47)) Wd.heap.size 35 35 47 i0 _ 5 72 Try.underlying35 hi0 hz0 hz1 hz2 rfl (by decide) _ _ _ (HSD.out.row.alloc _) ⟨W9.heap.size, 0, none⟩ 1 1 [.int .i64 yl, .int .i64 ya, .int .i64 yb, .slice none 0 0, .slice yA yv.length yC] rfl (fun j u hu => new_cells W9.drew [.int .i64 yl, .int .i64 ya, .int .i64 yb, .slice none 0 0, .slice yA yv.length yC] 47 j u hu) (one_chV ⟨⟨yl, ya, yb, [], yv⟩, none, 0, yA, yC⟩) b1 b2 (by have := HSD.out.sz; rw [World.size_alloc]; omega); have HA := Lib.hid (HSD.out.app (x := ⟨⟨yl, ya, yb, [], yv⟩, none, 0, yA, yC⟩) ⟨.inl rfl, HYVv.out _ HSD.out.lo⟩ hown hgrow); refine Lib.wp_append_run _ _ _ _ _ rfl _ _ rfl rfl _ _ hr ?_)
        refine hK2.out _ _ (HA.out.lo) (fun hS2 => ?_)
        refine takeL (i := 24) (v := v') rfl rfl (by kernel_rfl) (by kernel_rfl) (by kernel_rfl) (fun _ _ _ h => h) (Or.inl ⟨by simp [Region.wanted], fun W _ => by go_simp⟩) hS2 (by dsimp only [List.set_cons_zero, List.set_cons_succ]) ?_
        refine wpAnyH_done (by kernel_rfl) ?_ _
        have HM3 := Lib.hid (step_ins0 HM.out HY0.out (HEX.out i (by omega)))
        clear HM
        go_wp2
        go_roundw
        case rel => exact ⟨i, k + 1, _, by go_num, by go_num, by omega, by omega, by rw [List.length_append, List.length_cons, List.length_nil]; omega, HM3.out, HA.out⟩
        case measure => simp [intOf]; omega
      · have HMF := Lib.hid (show oo.map ChV.c = diffT a b by have h := HM.out; rw [drop_end (HEX.out i (by omega)), drop_end (HEY.out k (by omega))] at h; simpa [mergeD] using h)
        go_wp2
        go_ret
        exact ⟨_, oo, rfl, ⟨own_fromD HS.out.row HSZ1.out, HS.out.val, HLW.out _ HS.out.lo, Nat.le_trans HSZ1.out HS.out.sz⟩, HMF.out⟩
end Go.Proofs.Ytellifcjamedkaa
