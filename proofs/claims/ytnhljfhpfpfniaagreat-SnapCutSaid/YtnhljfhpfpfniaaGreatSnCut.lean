/- The walk of SnapCut. -/
import Derived.Test.YtnhljfhpfpfniaaGreatSnPuts
namespace Go.Proofs.YtnhljfhpfpfniaaGreat
open Go.RowKit Base Base2

theorem putL_pos (l : List Int) : 1 ≤ (putL l).length := by
  have := (M.enc_len l.length).1
  unfold putL
  rw [List.length_append]; omega
theorem putCols_ge : ∀ cs : List (List Int), cs.length ≤ (putCols cs).length
  | [] => Nat.le_refl _
  | c :: cs => by
    have ih := putCols_ge cs
    have h := putL_pos c
    have e : putCols (c :: cs) = putL c ++ putCols cs := by simp [putCols]
    rw [e, List.length_append, List.length_cons]; omega
theorem snap_ge (b : BookT) : 16 ≤ (snapB b).size := by
  have h1 := putCols_ge (colsT b)
  have h2 := (M.enc_len b.co.toNat).1
  have h3 : (colsT b).length = 15 := rfl
  have e : (snapB b).size = (snapL b).length := by simp [snapB, ByteArray.size]
  rw [e]
  unfold snapL
  rw [List.length_append]; omega
theorem get_cut {b : BookT} (h : SnOk b) {k : Nat} (hk : k < (snapB b).size) : (getSn ((snapB b).extract 0 k)).2 ≠ 0 := by
  have e : (snapB b).size = (snapL b).length := by simp [snapB, ByteArray.size]
  have h2 := snap_cut h (n := k) (by rw [← e]; exact hk)
  have e2 : ((snapB b).extract 0 k).data.toList = (snapL b).take k := by simp [snapB]
  unfold getSn
  rw [e2]; exact h2
set_option maxRecDepth 100000 in
set_option maxHeartbeats 8000000 in
theorem sn5 {K : World → Prop} (C : SnapC K) (v : Slots) (b : BookT) (n : Nat) (hn : n ≤ 65535) (w : World) (hK : K w) (hb : BookIn w v b) (hw : BookWf b) :
    Calls Tryz.prog 5 #[.agg (cellsB v b), .int .u16 (n : Int)] w fun e w' => e = .returned (.bool true) ∧ Below w.heap.size w w' := by
  have HKP := Lib.hid C.keep
  have hb0 : Below w.heap.size w (w.alloc (.cells (cellsB v b) 27)) := (Below.refl _ w).alloc (Nat.le_refl _) _
  have HS0 := Lib.hid (show Bs K w w.heap.size v b (w.alloc (.cells (cellsB v b) 27)) from ⟨HKP.out _ _ hK hb0, hb0, BoxB.new w v b, hb.below hb0⟩)
  have HAL := Lib.hid (fun W (h : K W) => alive6S C W h)
  have HGR := Lib.hid (fun W => great8 v b W)
  have HI := Lib.hid (show (Tryz.prog.info? 27).map (·.size) = some (cellsB v b).size from info27)
  have HX := Lib.hid (fun W (h : Bs K w w.heap.size v b W) => (show W.heap[w.heap.size]? = some (.cells (cellsB v b) 27 (0, 0)) from h.box))
  cases hg : greatT b with
  | true =>
    rw [hg] at HGR
    obtain ⟨cb, hcb⟩ : ∃ c, cellsB v b = c := ⟨_, rfl⟩
    rw [hcb] at HS0 HGR HI HX ⊢
    clear hg hb hw hb0 hcb C hK
    go_enter Tryz.func5, Tryz.ntmps5
    go_wp2_with (first | (go_at_call 6; refine (HAL.out _ HS0.out.k).mono ?_; rintro e w1 ⟨rfl, hb1⟩; have HS1 := Lib.hid (HS0.out.below HKP.out hb1); clear hb1 HS0) | ((with_reducible refine atLoad (ty := 27) (x := .tmp 2) rfl ?_); refine wpList_load_row rfl 27 (.tmp 2) rfl w.heap.size rfl 27 cb (0, 0) _ (HX.out _ HS1.out) Tryz.underlying27 rfl HI.out ?_) | (go_at_call 7; refine (HGR.out _).mono ?_; rintro e w2 ⟨rfl, hb2⟩; have HS2 := Lib.hid (HS1.out.below HKP.out hb2); clear hb2))
    go_ret
    exact ⟨rfl, HS2.out.lo⟩
  | false =>
    have hk := ok_of_great hg hw
    rw [hg] at HGR
    clear hg
    have hk1 : BookOk 2000 b := hk.monoS (by omega)
    have HMA := Lib.hid (fun W (h : Bs K w w.heap.size v b W) => may10 v b W h.bin hk1)
    have HPU := Lib.hid (fun W (h : Bs K w w.heap.size v b W) => C.put v b W h.k h.bin (hk.monoS (by omega)))
    unfold putSn at HPU
    cases hm : mayT b with
    | false =>
      rw [hm] at HMA
      obtain ⟨cb, hcb⟩ : ∃ c, cellsB v b = c := ⟨_, rfl⟩
      rw [hcb] at HS0 HGR HI HX HMA ⊢
      clear hb hw hb0 hcb C hK hk hk1 hm HPU
      go_enter Tryz.func5, Tryz.ntmps5
      go_wp2_with (first | (go_at_call 6; refine (HAL.out _ HS0.out.k).mono ?_; rintro e w1 ⟨rfl, hb1⟩; have HS1 := Lib.hid (HS0.out.below HKP.out hb1); clear hb1 HS0) | ((with_reducible refine atLoad (ty := 27) (x := .tmp 2) rfl ?_); refine wpList_load_rowG (by rfl) 27 (.tmp 2) rfl w.heap.size rfl 27 cb (0, 0) _ (HX.out _ HS2.out) Tryz.underlying27 rfl HI.out ?_) | ((with_reducible refine atLoad (ty := 27) (x := .tmp 2) rfl ?_); refine wpList_load_row rfl 27 (.tmp 2) rfl w.heap.size rfl 27 cb (0, 0) _ (HX.out _ HS1.out) Tryz.underlying27 rfl HI.out ?_) | (go_at_call 7; refine (HGR.out _).mono ?_; rintro e w2 ⟨rfl, hb2⟩; have HS2 := Lib.hid (HS1.out.below HKP.out hb2); clear hb2) | (go_at_call 9; refine (HMA.out _ HS2.out).mono ?_; rintro e w3 ⟨rfl, hb3⟩; have HS3 := Lib.hid (HS2.out.below HKP.out hb3); clear hb3))
      go_ret
      exact ⟨rfl, HS3.out.lo⟩
    | true =>
      have hsn := snOk hk hm
      rw [hm] at HMA HPU
      have hsz := snap_size hk
      have hge := snap_ge b
      have hkm : n % (snapB b).size < (snapB b).size := Nat.mod_lt _ (by omega)
      have HPV := Lib.hid (show ∀ W, Bs K w w.heap.size v b W → Calls Tryz.prog 8 #[.agg (cellsB v b)] W fun e w' => e = .returned (.tuple #[.string (snapB b), .int .i64 0]) ∧ Below W.heap.size W w' from HPU.out)
      have HG2 := Lib.hid (fun W (h : K W) => C.get ((snapB b).extract 0 (n % (snapB b).size)) W h (by rw [ByteArray.size_extract]; omega))
      have HNE := Lib.hid (get_cut hsn hkm)
      obtain ⟨b2, hb2⟩ : ∃ x, (getSn ((snapB b).extract 0 (n % (snapB b).size))).1 = x := ⟨_, rfl⟩
      obtain ⟨e2, he2⟩ : ∃ x, (getSn ((snapB b).extract 0 (n % (snapB b).size))).2 = x := ⟨_, rfl⟩
      rw [hb2, he2] at HG2
      rw [he2] at HNE
      have hen : (e2 != 0) = true := by have := HNE.out; simp [this]
      clear HPU hb2 he2 HNE
      obtain ⟨cb, hcb⟩ : ∃ c, cellsB v b = c := ⟨_, rfl⟩
      generalize snapB b = SB at *
      rw [hcb] at HS0 HGR HI HX HMA HPV ⊢
      clear hb hw hb0 hcb C hK hk hk1 hm hsn
      have hsp : (0 : Int) < (SB.size : Int) := by omega
      have hs16 : ¬ (SB.size : Int) < 16 := by omega
      have hrem : ((n : Int).tmod (SB.size : Int)) = ((n % SB.size : Nat) : Int) := by simp; exact Int.tmod_eq_emod_of_nonneg (by omega)
      have hwu : IntKind.i64.wrap (n : Int) = (n : Int) := by rw [IntKind.wrap_i64]; omega
      have hne0 : ¬ (SB.size : Int) = 0 := by omega
      go_enter Tryz.func5, Tryz.ntmps5
      go_upto_region 8 with (first | (go_at_call 6; refine (HAL.out _ HS0.out.k).mono ?_; rintro e w1 ⟨rfl, hb1⟩; have HS1 := Lib.hid (HS0.out.below HKP.out hb1); clear hb1 HS0) | ((with_reducible refine atLoad (ty := 27) (x := .tmp 2) rfl ?_); refine wpList_load_row rfl 27 (.tmp 2) rfl w.heap.size rfl 27 cb (0, 0) _ (HX.out _ HS3.out) Tryz.underlying27 rfl HI.out ?_) | ((with_reducible refine atLoad (ty := 27) (x := .tmp 2) rfl ?_); refine wpList_load_rowG (by rfl) 27 (.tmp 2) rfl w.heap.size rfl 27 cb (0, 0) _ (HX.out _ HS2.out) Tryz.underlying27 rfl HI.out ?_) | ((with_reducible refine atLoad (ty := 27) (x := .tmp 2) rfl ?_); refine wpList_load_row rfl 27 (.tmp 2) rfl w.heap.size rfl 27 cb (0, 0) _ (HX.out _ HS1.out) Tryz.underlying27 rfl HI.out ?_) | (go_at_call 7; refine (HGR.out _).mono ?_; rintro e w2 ⟨rfl, hb2⟩; have HS2 := Lib.hid (HS1.out.below HKP.out hb2); clear hb2) | (go_at_call 9; refine (HMA.out _ HS2.out).mono ?_; rintro e w3 ⟨rfl, hb3⟩; have HS3 := Lib.hid (HS2.out.below HKP.out hb3); clear hb3) | (go_at_call 8; refine (HPV.out _ HS3.out).mono ?_; rintro e w4 ⟨rfl, hb4⟩; have HS4 := Lib.hid (HS3.out.below HKP.out hb4); clear hb4))
      go_upto_region 9 with (first | ((with_reducible refine atStore (ty := 27) (x := .tmp 7) (y := .tmp 39) rfl ?_); refine wpList_store_row rfl 27 (.tmp 7) (.tmp 39) rfl w5.heap.size (cellsB u5 b2) rfl rfl 27 #[.slice none 0 0, .slice none 0 0, .slice none 0 0, .slice none 0 0, .int .i64 0] (heap_alloc_new w5 _) info27 rfl (by simp [cellsB, Value.oneCell']) ?_) | (go_at_call 10; refine (HG2.out _ HS4.out.k).mono ?_; rintro e w5 ⟨⟨u5, rfl, hin5⟩, hb5⟩))
      refine at_world (Φ := fun W => Below w.heap.size w W) (HS4.out.lo.trans ((hb5.trans ((below_rowB ((Below.refl _ _).alloc (Nat.le_refl _) (.cells #[.slice none 0 0, .slice none 0 0, .slice none 0 0, .slice none 0 0, .int .i64 0] 27)) (Nat.le_refl _) (ks := cellsB u5 b2)).mono hb5.size)).mono HS4.out.lo.size)) ?_
      rintro W9 h9
      have H9 := Lib.hid h9
      clear h9
      go_wp2
      go_ret
      exact ⟨rfl, H9.out⟩
end Go.Proofs.YtnhljfhpfpfniaaGreat
