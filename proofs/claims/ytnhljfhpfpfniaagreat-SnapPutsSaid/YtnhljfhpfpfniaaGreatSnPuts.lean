/- The walk of SnapPuts. -/
import Derived.Test.YtnhljfhpfpfniaaGreatSnLaw
import Derived.Test.YtnhljfhpfpfniaaGreatBkFinds
namespace Go.Proofs.YtnhljfhpfpfniaaGreat
open Go.RowKit Base Base2

theorem snap_size {b : BookT} (h : BookOk 200 b) : (snapB b).size ≤ 70000 := by
  have h1 := encB_size b.co.toNat
  have h2 := colsB_len (cs := colsT b) (m := 200) (fun c hc => (cols_len h c hc).1) 15 (Nat.le_refl _)
  rw [snapB_app, ByteArray.size_append]
  rw [show (colsT b).take 15 = colsT b from rfl] at h2
  omega
theorem snOk {b : BookT} (h : BookOk 200 b) (hm : mayT b = true) : SnOk b := ⟨hm, h.monoS (by omega)⟩
theorem get_same {b : BookT} (h : SnOk b) : getSn (snapB b) = (b, 0) := by
  have h2 := snap_get h []
  rw [List.append_nil, if_pos rfl] at h2
  exact h2
theorem get_more {b : BookT} (h : SnOk b) (more : ByteArray) : (getSn (snapB b ++ more)).2 = if more = ⟨#[]⟩ then 0 else 3 := by
  have h2 := snap_get h more.data.toList
  have e : (snapB b ++ more).data.toList = snapL b ++ more.data.toList := by simp [snapB]
  unfold getSn
  rw [e, h2]
  by_cases hm : more = ⟨#[]⟩
  · subst hm; simp
  · rw [if_neg hm, if_neg]
    intro e2
    apply hm
    apply ByteArray.ext
    exact Array.toList_inj.1 (by simpa using e2)
set_option maxRecDepth 100000 in
set_option maxHeartbeats 8000000 in
theorem sn3 {K : World → Prop} (C : SnapC K) (v : Slots) (b : BookT) (more : ByteArray) (w : World) (hK : K w) (hb : BookIn w v b) (hw : BookWf b) :
    Calls Tryz.prog 3 #[.agg (cellsB v b), .string more] w fun e w' => e = .returned (.bool true) ∧ Below w.heap.size w w' := by
  have HKP := Lib.hid C.keep
  have hb0 : Below w.heap.size w (w.alloc (.cells (cellsB v b) 27)) := (Below.refl _ w).alloc (Nat.le_refl _) _
  have HS0 := Lib.hid (show Bs K w w.heap.size v b (w.alloc (.cells (cellsB v b) 27)) from ⟨HKP.out _ _ hK hb0, hb0, BoxB.new w v b, hb.below hb0⟩)
  have HAL := Lib.hid (fun W (h : K W) => alive6S C W h)
  have HGR := Lib.hid (fun W => great8 v b W)
  have HI := Lib.hid (show (Tryz.prog.info? 27).map (·.size) = some (cellsB v b).size from info27)
  have HX := Lib.hid (fun W (h : Bs K w w.heap.size v b W) => (show W.heap[w.heap.size]? = some (.cells (cellsB v b) 27 (0, 0)) from h.box))
  cases hg : greatT b with
  | true =>
    rw [hg] at HGR
    obtain ⟨cb, hcb⟩ : ∃ c, cellsB v b = c := ⟨_, rfl⟩
    rw [hcb] at HS0 HGR HI HX ⊢
    clear hg hb hw hb0 hcb C hK
    go_enter Tryz.func3, Tryz.ntmps3
    go_wp2_with (first | (go_at_call 6; refine (HAL.out _ HS0.out.k).mono ?_; rintro e w1 ⟨rfl, hb1⟩; have HS1 := Lib.hid (HS0.out.below HKP.out hb1); clear hb1 HS0) | ((with_reducible refine atLoad (ty := 27) (x := .tmp 2) rfl ?_); refine wpList_load_row rfl 27 (.tmp 2) rfl w.heap.size rfl 27 cb (0, 0) _ (HX.out _ HS1.out) Tryz.underlying27 rfl HI.out ?_) | (go_at_call 7; refine (HGR.out _).mono ?_; rintro e w2 ⟨rfl, hb2⟩; have HS2 := Lib.hid (HS1.out.below HKP.out hb2); clear hb2))
    go_ret
    exact ⟨rfl, HS2.out.lo⟩
  | false =>
    have hk := ok_of_great hg hw
    rw [hg] at HGR
    clear hg
    by_cases hms : 100 < more.size
    · have hms2 : (100 : Int) < (more.size : Int) := by omega
      obtain ⟨cb, hcb⟩ : ∃ c, cellsB v b = c := ⟨_, rfl⟩
      rw [hcb] at HS0 HGR HI HX ⊢
      clear hb hw hb0 hcb C hK hk hms
      go_enter Tryz.func3, Tryz.ntmps3
      go_wp2_with (first | (go_at_call 6; refine (HAL.out _ HS0.out.k).mono ?_; rintro e w1 ⟨rfl, hb1⟩; have HS1 := Lib.hid (HS0.out.below HKP.out hb1); clear hb1 HS0) | ((with_reducible refine atLoad (ty := 27) (x := .tmp 2) rfl ?_); refine wpList_load_row rfl 27 (.tmp 2) rfl w.heap.size rfl 27 cb (0, 0) _ (HX.out _ HS1.out) Tryz.underlying27 rfl HI.out ?_) | (go_at_call 7; refine (HGR.out _).mono ?_; rintro e w2 ⟨rfl, hb2⟩; have HS2 := Lib.hid (HS1.out.below HKP.out hb2); clear hb2))
      go_ret
      exact ⟨rfl, HS2.out.lo⟩
    · have hms2 : ¬ (100 : Int) < (more.size : Int) := by omega
      have hk1 : BookOk 2000 b := hk.monoS (by omega)
      have HMA := Lib.hid (fun W (h : Bs K w w.heap.size v b W) => may10 v b W h.bin hk1)
      have HPU := Lib.hid (fun W (h : Bs K w w.heap.size v b W) => C.put v b W h.k h.bin (hk.monoS (by omega)))
      unfold putSn at HPU
      cases hm : mayT b with
      | false =>
        rw [hm] at HMA HPU
        have HPV := Lib.hid (show ∀ W, Bs K w w.heap.size v b W → Calls Tryz.prog 8 #[.agg (cellsB v b)] W fun e w' => e = .returned (.tuple #[.string ⟨#[]⟩, .int .i64 1]) ∧ Below W.heap.size W w' from HPU.out)
        have HPU := Lib.hid HPV.out
        clear HPV
        obtain ⟨cb, hcb⟩ : ∃ c, cellsB v b = c := ⟨_, rfl⟩
        rw [hcb] at HS0 HGR HI HX HMA HPU ⊢
        clear hb hw hb0 hcb C hK hk hms hk1 hm
        go_enter Tryz.func3, Tryz.ntmps3
        go_wp2_with (first | (go_at_call 6; refine (HAL.out _ HS0.out.k).mono ?_; rintro e w1 ⟨rfl, hb1⟩; have HS1 := Lib.hid (HS0.out.below HKP.out hb1); clear hb1 HS0) | ((with_reducible refine atLoad (ty := 27) (x := .tmp 2) rfl ?_); refine wpList_load_row rfl 27 (.tmp 2) rfl w.heap.size rfl 27 cb (0, 0) _ (HX.out _ HS3.out) Tryz.underlying27 rfl HI.out ?_) | ((with_reducible refine atLoad (ty := 27) (x := .tmp 2) rfl ?_); refine wpList_load_row rfl 27 (.tmp 2) rfl w.heap.size rfl 27 cb (0, 0) _ (HX.out _ HS2.out) Tryz.underlying27 rfl HI.out ?_) | ((with_reducible refine atLoad (ty := 27) (x := .tmp 2) rfl ?_); refine wpList_load_row rfl 27 (.tmp 2) rfl w.heap.size rfl 27 cb (0, 0) _ (HX.out _ HS1.out) Tryz.underlying27 rfl HI.out ?_) | (go_at_call 7; refine (HGR.out _).mono ?_; rintro e w2 ⟨rfl, hb2⟩; have HS2 := Lib.hid (HS1.out.below HKP.out hb2); clear hb2) | (go_at_call 9; refine (HMA.out _ HS3.out).mono ?_; rintro e w4 ⟨rfl, hb4⟩; have HS4 := Lib.hid (HS3.out.below HKP.out hb4); clear hb4) | (go_at_call 8; refine (HPU.out _ HS2.out).mono ?_; rintro e w3 ⟨rfl, hb3⟩; have HS3 := Lib.hid (HS2.out.below HKP.out hb3); clear hb3))
        go_ret
        exact ⟨rfl, HS4.out.lo⟩
      | true =>
        have hsn := snOk hk hm
        have hgm := get_more hsn more
        rw [hm] at HMA HPU
        have hsz := snap_size hk
        have hco : 0 ≤ b.co := hsn.sizes.2.2.2.1
        have HPV := Lib.hid (show ∀ W, Bs K w w.heap.size v b W → Calls Tryz.prog 8 #[.agg (cellsB v b)] W fun e w' => e = .returned (.tuple #[.string (snapB b), .int .i64 0]) ∧ Below W.heap.size W w' from HPU.out)
        have HRP := Lib.hid (fun W (h : Bs K w w.heap.size v b W) => rput11 v b W h.bin hk1 hco)
        have HG1 := Lib.hid (fun W (h : K W) => C.get (snapB b) W h (by omega))
        rw [get_same hsn] at HG1
        have HG2 := Lib.hid (fun W (h : K W) => C.get (snapB b ++ more) W h (by rw [ByteArray.size_append]; omega))
        obtain ⟨b2, hb2⟩ : ∃ x, (getSn (snapB b ++ more)).1 = x := ⟨_, rfl⟩
        rw [hb2, hgm] at HG2
        have HSM := Lib.hid (fun W (u : Slots) (h : BookIn W u b) (h2 : BookIn W v b) => same_selfS u v b W h h2 hk1)
        clear HPU hgm hb2
        obtain ⟨cb, hcb⟩ : ∃ c, cellsB v b = c := ⟨_, rfl⟩
        generalize snapB b = SB at *
        rw [hcb] at HS0 HGR HI HX HMA HPV HRP HSM ⊢
        clear hb hw hb0 hcb C hK hk hms hk1 hm hsn hco
        go_enter Tryz.func3, Tryz.ntmps3
        go_upto_region 9 with (first | (go_at_call 6; refine (HAL.out _ HS0.out.k).mono ?_; rintro e w1 ⟨rfl, hb1⟩; have HS1 := Lib.hid (HS0.out.below HKP.out hb1); clear hb1 HS0) | ((with_reducible refine atStore (ty := 27) (x := .tmp 7) (y := .tmp 37) rfl ?_); refine wpList_store_row rfl 27 (.tmp 7) (.tmp 37) rfl w5.heap.size (cellsB u5 b) rfl rfl 27 #[.slice none 0 0, .slice none 0 0, .slice none 0 0, .slice none 0 0, .int .i64 0] (heap_alloc_new w5 _) info27 rfl (by simp [cellsB, Value.oneCell']) ?_) | ((with_reducible refine atLoad (ty := 27) (x := .tmp 2) rfl ?_); refine wpList_load_row rfl 27 (.tmp 2) rfl w.heap.size rfl 27 cb (0, 0) _ (HX.out _ HS3.out) Tryz.underlying27 rfl HI.out ?_) | ((with_reducible refine atLoad (ty := 27) (x := .tmp 2) rfl ?_); refine wpList_load_row rfl 27 (.tmp 2) rfl w.heap.size rfl 27 cb (0, 0) _ (HX.out _ HS2.out) Tryz.underlying27 rfl HI.out ?_) | ((with_reducible refine atLoad (ty := 27) (x := .tmp 2) rfl ?_); refine wpList_load_row rfl 27 (.tmp 2) rfl w.heap.size rfl 27 cb (0, 0) _ (HX.out _ HS1.out) Tryz.underlying27 rfl HI.out ?_) | (go_at_call 7; refine (HGR.out _).mono ?_; rintro e w2 ⟨rfl, hb2⟩; have HS2 := Lib.hid (HS1.out.below HKP.out hb2); clear hb2) | (go_at_call 9; refine (HMA.out _ HS3.out).mono ?_; rintro e w4 ⟨rfl, hb4⟩; have HS4 := Lib.hid (HS3.out.below HKP.out hb4); clear hb4) | (go_at_call 8; refine (HPV.out _ HS2.out).mono ?_; rintro e w3 ⟨rfl, hb3⟩; have HS3 := Lib.hid (HS2.out.below HKP.out hb3); clear hb3) | (go_at_call 10; refine (HG1.out _ HS4.out.k).mono ?_; rintro e w5 ⟨⟨u5, rfl, hin5⟩, hb5⟩))
        have hbA : Below w5.heap.size w5 ((w5.alloc (.cells #[.slice none 0 0, .slice none 0 0, .slice none 0 0, .slice none 0 0, .int .i64 0] 27)).setRow w5.heap.size (cellsB u5 b)) := below_rowB ((Below.refl _ _).alloc (Nat.le_refl _) _) (Nat.le_refl _)
        refine at_world (Φ := fun W => Bs K w w.heap.size v b W ∧ BoxB W w5.heap.size u5 b ∧ BookIn W u5 b) ⟨HS4.out.below HKP.out (hb5.trans (hbA.mono hb5.size)), setRow_heap _ _ _ _ _ _ (heap_alloc_new w5 _), hin5.below hbA⟩ ?_
        clear hbA hb5 hin5 HS4 HS3 HS2 HS1 HG1 HMA HPV HGR HAL
        generalize w5.heap.size = g
        rintro W9 ⟨hs9, hx9, hi9⟩
        have HS9 := Lib.hid hs9
        have HX9 := Lib.hid (fun W (h : Below W9.heap.size W9 W) => (show W.heap[g]? = some (.cells (cellsB u5 b) 27 (0, 0)) from (h.block g (lt_blkB hx9)).trans hx9))
        have HI9 := Lib.hid (fun W (h : Below W9.heap.size W9 W) => hi9.below h)
        have HIU := Lib.hid (show (Tryz.prog.info? 27).map (·.size) = some (cellsB u5 b).size from info27)
        clear hs9 hx9 hi9
        by_cases hmo : more = ⟨#[]⟩
        · subst hmo
          rw [if_pos rfl] at HG2
          go_upto_region 12 with (first | (go_at_call 11; refine (HRP.out _ HS9.out).mono ?_; rintro e w10 ⟨rfl, hb10⟩; have HS10 := Lib.hid (HS9.out.below HKP.out hb10); have HB10 := Lib.hid hb10; clear hb10) | ((with_reducible refine atStore (ty := 27) (x := .tmp 9) (y := .tmp 62) rfl ?_); refine wpList_store_row rfl 27 (.tmp 9) (.tmp 62) rfl w12.heap.size (cellsB u12 b2) rfl rfl 27 #[.slice none 0 0, .slice none 0 0, .slice none 0 0, .slice none 0 0, .int .i64 0] (heap_alloc_new w12 _) info27 rfl (by simp [cellsB, Value.oneCell']) ?_) | (go_at_call 10; refine (HG2.out _ HS11.out.k).mono ?_; rintro e w12 ⟨⟨u12, rfl, hin12⟩, hb12⟩) | (go_at_call 12; refine (HSM.out _ u5 (HI9.out _ HB10.out) HS10.out.bin).mono ?_; rintro e w11 ⟨rfl, hb11⟩; have HS11 := Lib.hid (HS10.out.below HKP.out hb11); clear hb11) | ((with_reducible refine atLoad (ty := 27) (x := .tmp 7) rfl ?_); refine wpList_load_rowG (by rfl) 27 (.tmp 7) rfl g rfl 27 (cellsB u5 b) (0, 0) _ (HX9.out _ HB10.out) Tryz.underlying27 rfl HIU.out ?_) | ((with_reducible refine atLoad (ty := 27) (x := .tmp 2) rfl ?_); refine wpList_load_rowG (by rfl) 27 (.tmp 2) rfl w.heap.size rfl 27 cb (0, 0) _ (HX.out _ HS10.out) Tryz.underlying27 rfl HI.out ?_) | ((with_reducible refine atLoad (ty := 27) (x := .tmp 2) rfl ?_); refine wpList_load_rowG (by rfl) 27 (.tmp 2) rfl w.heap.size rfl 27 cb (0, 0) _ (HX.out _ HS9.out) Tryz.underlying27 rfl HI.out ?_))
          refine at_world (Φ := fun W => Below w.heap.size w W) (HS11.out.lo.trans ((hb12.trans ((below_rowB ((Below.refl _ _).alloc (Nat.le_refl _) (.cells #[.slice none 0 0, .slice none 0 0, .slice none 0 0, .slice none 0 0, .int .i64 0] 27)) (Nat.le_refl _) (ks := cellsB u12 b2)).mono hb12.size)).mono HS11.out.lo.size)) ?_
          rintro W12 h12
          have H12 := Lib.hid h12
          clear h12
          go_wp2
          go_ret
          exact ⟨rfl, H12.out⟩
        · rw [if_neg hmo] at HG2
          have hmq : more.toList.isEmpty = false := by rw [List.isEmpty_eq_false_iff, ByteArray.toList_eq]; exact fun e => hmo (ByteArray.ext (Array.toList_inj.1 (by simpa using e)))
          go_upto_region 12 with (first | (go_at_call 11; refine (HRP.out _ HS9.out).mono ?_; rintro e w10 ⟨rfl, hb10⟩; have HS10 := Lib.hid (HS9.out.below HKP.out hb10); have HB10 := Lib.hid hb10; clear hb10) | ((with_reducible refine atStore (ty := 27) (x := .tmp 9) (y := .tmp 62) rfl ?_); refine wpList_store_row rfl 27 (.tmp 9) (.tmp 62) rfl w12.heap.size (cellsB u12 b2) rfl rfl 27 #[.slice none 0 0, .slice none 0 0, .slice none 0 0, .slice none 0 0, .int .i64 0] (heap_alloc_new w12 _) info27 rfl (by simp [cellsB, Value.oneCell']) ?_) | (go_at_call 10; refine (HG2.out _ HS11.out.k).mono ?_; rintro e w12 ⟨⟨u12, rfl, hin12⟩, hb12⟩) | (go_at_call 12; refine (HSM.out _ u5 (HI9.out _ HB10.out) HS10.out.bin).mono ?_; rintro e w11 ⟨rfl, hb11⟩; have HS11 := Lib.hid (HS10.out.below HKP.out hb11); clear hb11) | ((with_reducible refine atLoad (ty := 27) (x := .tmp 7) rfl ?_); refine wpList_load_rowG (by rfl) 27 (.tmp 7) rfl g rfl 27 (cellsB u5 b) (0, 0) _ (HX9.out _ HB10.out) Tryz.underlying27 rfl HIU.out ?_) | ((with_reducible refine atLoad (ty := 27) (x := .tmp 2) rfl ?_); refine wpList_load_rowG (by rfl) 27 (.tmp 2) rfl w.heap.size rfl 27 cb (0, 0) _ (HX.out _ HS10.out) Tryz.underlying27 rfl HI.out ?_) | ((with_reducible refine atLoad (ty := 27) (x := .tmp 2) rfl ?_); refine wpList_load_rowG (by rfl) 27 (.tmp 2) rfl w.heap.size rfl 27 cb (0, 0) _ (HX.out _ HS9.out) Tryz.underlying27 rfl HI.out ?_))
          refine at_world (Φ := fun W => Below w.heap.size w W) (HS11.out.lo.trans ((hb12.trans ((below_rowB ((Below.refl _ _).alloc (Nat.le_refl _) (.cells #[.slice none 0 0, .slice none 0 0, .slice none 0 0, .slice none 0 0, .int .i64 0] 27)) (Nat.le_refl _) (ks := cellsB u12 b2)).mono hb12.size)).mono HS11.out.lo.size)) ?_
          rintro W12 h12
          have H12 := Lib.hid h12
          clear h12
          go_wp2
          go_ret
          exact ⟨rfl, H12.out⟩
end Go.Proofs.YtnhljfhpfpfniaaGreat
