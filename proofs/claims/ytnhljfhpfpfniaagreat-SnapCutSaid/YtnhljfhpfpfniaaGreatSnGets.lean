/- The walk of SnapGets. -/
import Derived.Test.YtnhljfhpfpfniaaGreatSnPuts
namespace Go.Proofs.YtnhljfhpfpfniaaGreat
open Go.RowKit Base Base2

theorem getSnap_err {s : List UInt8} (h : (getSnap s).2 ≠ 0) : (getSnap s).1 = zeroB := by
  unfold getSnap at h ⊢
  split
  · rfl
  · rename_i h1
    rw [if_neg h1] at h
    split
    · rfl
    · rename_i h2
      rw [if_neg h2] at h
      split
      · rfl
      · rename_i h3
        rw [if_neg h3] at h
        split
        · rfl
        · rename_i h4
          rw [if_neg h4] at h
          split
          · rfl
          · rename_i h5
            rw [if_neg h5] at h
            exact absurd rfl h
theorem getSn_cases (s : ByteArray) : ((getSn s).2 = 0 ∧ BookOk 2000 (getSn s).1 ∧ BookOk 1024 (getSn s).1 ∧ putSn (getSn s).1 = (s, 0)) ∨ ((getSn s).2 ≠ 0 ∧ BookOk 2000 (getSn s).1) := by
  obtain ⟨⟨B, e⟩, hg⟩ : ∃ g, getSnap s.data.toList = g := ⟨_, rfl⟩
  have hg2 : getSn s = (B, e) := hg
  rw [hg2]
  by_cases he : e = 0
  · subst he
    obtain ⟨h1, h2⟩ := snap_one hg
    refine .inl ⟨rfl, h2.ok.monoS (by omega), h2.ok, ?_⟩
    unfold putSn
    rw [if_pos h2.may]
    have : snapB B = s := by
      apply ByteArray.ext
      apply Array.toList_inj.1
      simpa [snapB] using h1
    rw [this]
  · have h := getSnap_err (s := s.data.toList) (by rw [hg]; exact he)
    rw [hg] at h
    dsimp only at h
    exact .inr ⟨he, by rw [h]; exact zero_ok _⟩
/-- While SnapGets goes on. -/
structure Tb (K : World → Prop) (w : World) (g1 : Nat) (u2 : Slots) (g2 : Nat) (u3 : Slots) (B : BookT) (W : World) : Prop where
  k : K W
  lo : Below w.heap.size w W
  x1 : BoxB W g1 u2 B
  x2 : BoxB W g2 u3 B
  i1 : BookIn W u2 B
  i2 : BookIn W u3 B
theorem Tb.below {K : World → Prop} (hK : ∀ (W W' : World), K W → Below W.heap.size W W' → K W') {w : World} {g1 : Nat} {u2 : Slots} {g2 : Nat} {u3 : Slots} {B : BookT} {W W' : World} (h : Tb K w g1 u2 g2 u3 B W) (hb : Below W.heap.size W W') : Tb K w g1 u2 g2 u3 B W' :=
  ⟨hK _ _ h.k hb, h.lo.trans (hb.mono h.lo.size), blk_below h.x1 hb, blk_below h.x2 hb, h.i1.below hb, h.i2.below hb⟩
set_option maxRecDepth 100000 in
set_option maxHeartbeats 8000000 in
theorem sn4 {K : World → Prop} (C : SnapC K) (RG : ∀ (s : ByteArray) (W : World), s.size ≤ 1500 → Calls Tryz.prog 13 #[.string s] W fun e w' => (∃ v, e = .returned (.tuple #[.agg (cellsB v (getSn s).1), .int .i64 (getSn s).2]) ∧ BookIn w' v (getSn s).1) ∧ Below W.heap.size W w')
    (s : ByteArray) (w : World) (hK : K w) : Calls Tryz.prog 4 #[.string s] w fun e w' => e = .returned (.bool true) ∧ Below w.heap.size w w' := by
  have HKP := Lib.hid C.keep
  have HK := Lib.hid hK
  have HAL := Lib.hid (fun W (h : K W) => alive6S C W h)
  by_cases hs : 1500 < s.size
  · have hs2 : (1500 : Int) < (s.size : Int) := by omega
    clear C hK RG hs
    go_enter Tryz.func4, Tryz.ntmps4
    go_wp2_with ((go_at_call 6; refine (HAL.out _ HK.out).mono ?_; rintro e w1 ⟨rfl, hb1⟩; have HB1 := Lib.hid hb1; have HK1 := Lib.hid (HKP.out _ _ HK.out hb1); clear hb1))
    go_ret
    exact ⟨rfl, HB1.out⟩
  · have hs2 : ¬ (1500 : Int) < (s.size : Int) := by omega
    have HG := Lib.hid (fun W (h : K W) => C.get s W h (by omega))
    have HRG := Lib.hid (fun W => RG s W (by omega))
    have hcs := getSn_cases s
    have HPT := Lib.hid (fun (v : Slots) W (h : K W) (hb : BookIn W v (getSn s).1) (hk : BookOk 1024 (getSn s).1) => C.put v (getSn s).1 W h hb hk)
    have HSM := Lib.hid (fun W (u v : Slots) (h : BookIn W u (getSn s).1) (h2 : BookIn W v (getSn s).1) (hk : BookOk 2000 (getSn s).1) => same_selfS u v (getSn s).1 W h h2 hk)
    obtain ⟨B, hB⟩ : ∃ x, (getSn s).1 = x := ⟨_, rfl⟩
    obtain ⟨e2, he2⟩ : ∃ x, (getSn s).2 = x := ⟨_, rfl⟩
    rw [hB, he2] at HG HRG hcs
    rw [hB] at HPT HSM
    clear C hK RG hs hB he2
    go_enter Tryz.func4, Tryz.ntmps4
    go_upto_region 6 with (first | (go_at_call 6; refine (HAL.out _ HK.out).mono ?_; rintro e w1 ⟨rfl, hb1⟩; have HB1 := Lib.hid hb1; have HK1 := Lib.hid (HKP.out _ _ HK.out hb1); clear hb1) | ((with_reducible refine atStore (ty := 27) (x := .tmp 3) (y := .tmp 17) rfl ?_); refine wpList_store_row rfl 27 (.tmp 3) (.tmp 17) rfl w2.heap.size (cellsB u2 B) rfl rfl 27 #[.slice none 0 0, .slice none 0 0, .slice none 0 0, .slice none 0 0, .int .i64 0] (heap_alloc_new w2 _) info27 rfl (by simp [cellsB, Value.oneCell']) ?_) | (go_at_call 10; refine (HG.out _ HK1.out).mono ?_; rintro e w2 ⟨⟨u2, rfl, hin2⟩, hb2⟩))
    have hbA : Below w2.heap.size w2 ((w2.alloc (.cells #[.slice none 0 0, .slice none 0 0, .slice none 0 0, .slice none 0 0, .int .i64 0] 27)).setRow w2.heap.size (cellsB u2 B)) := below_rowB ((Below.refl _ _).alloc (Nat.le_refl _) _) (Nat.le_refl _)
    have hbB := hb2.trans (hbA.mono hb2.size)
    refine at_world (Φ := fun W => K W ∧ Below w.heap.size w W ∧ BoxB W w2.heap.size u2 B ∧ BookIn W u2 B) ⟨HKP.out _ _ HK1.out hbB, HB1.out.trans (hbB.mono HB1.out.size), setRow_heap _ _ _ _ _ _ (heap_alloc_new w2 _), hin2.below hbA⟩ ?_
    clear hbA hbB hb2 hin2 HB1 HK1 HK HG HAL
    generalize w2.heap.size = g1
    rintro W6 ⟨hk6, hb6, hx6, hi6⟩
    have HK6 := Lib.hid hk6
    have HB6 := Lib.hid hb6
    have HX6 := Lib.hid hx6
    have HI6 := Lib.hid hi6
    clear hk6 hb6 hx6 hi6
    go_upto_region 7 with (first | ((with_reducible refine atStore (ty := 27) (x := .tmp 5) (y := .tmp 22) rfl ?_); refine wpList_store_row rfl 27 (.tmp 5) (.tmp 22) rfl w3.heap.size (cellsB u3 B) rfl rfl 27 #[.slice none 0 0, .slice none 0 0, .slice none 0 0, .slice none 0 0, .int .i64 0] (heap_alloc_new w3 _) info27 rfl (by simp [cellsB, Value.oneCell']) ?_) | (go_at_call 13; refine (HRG.out _).mono ?_; rintro e w3 ⟨⟨u3, rfl, hin3⟩, hb3⟩))
    have hbA : Below w3.heap.size w3 ((w3.alloc (.cells #[.slice none 0 0, .slice none 0 0, .slice none 0 0, .slice none 0 0, .int .i64 0] 27)).setRow w3.heap.size (cellsB u3 B)) := below_rowB ((Below.refl _ _).alloc (Nat.le_refl _) _) (Nat.le_refl _)
    have hbB := hb3.trans (hbA.mono hb3.size)
    refine at_world (Φ := fun W => Tb K w g1 u2 w3.heap.size u3 B W) ⟨HKP.out _ _ HK6.out hbB, HB6.out.trans (hbB.mono HB6.out.size), blk_below HX6.out hbB, setRow_heap _ _ _ _ _ _ (heap_alloc_new w3 _), HI6.out.below hbB, hin3.below hbA⟩ ?_
    clear hbA hbB hb3 hin3 HK6 HB6 HX6 HI6 HRG
    generalize w3.heap.size = g2
    rintro W7 h7
    have HT7 := Lib.hid h7
    clear h7
    have HI2 := Lib.hid (show (Tryz.prog.info? 27).map (·.size) = some (cellsB u2 B).size from info27)
    have HI3 := Lib.hid (show (Tryz.prog.info? 27).map (·.size) = some (cellsB u3 B).size from info27)
    rcases hcs with ⟨rfl, hk2, hk1, hput⟩ | ⟨hne, hk2⟩
    · have HPW := Lib.hid (fun W (h : Tb K w g1 u2 g2 u3 B W) => HPT.out u2 W h.k h.i1 hk1)
      rw [hput] at HPW
      clear HPT hput
      go_wp2_with (first
        | (go_at_call 8; refine (HPW.out _ HT8.out).mono ?_; rintro e w9 ⟨rfl, hb9⟩; have HT9 := Lib.hid (HT8.out.below HKP.out hb9); clear hb9)
        | ((with_reducible refine atLoad (ty := 27) (x := .tmp 3) rfl ?_); refine wpList_load_row rfl 27 (.tmp 3) rfl g1 rfl 27 (cellsB u2 B) (0, 0) _ (HT8.out.x1) Tryz.underlying27 rfl HI2.out ?_)
        | (go_at_call 12; refine (HSM.out _ u2 u3 HT7.out.i1 HT7.out.i2 hk2).mono ?_; rintro e w8 ⟨rfl, hb8⟩; have HT8 := Lib.hid (HT7.out.below HKP.out hb8); clear hb8)
        | ((with_reducible refine atLoad (ty := 27) (x := .tmp 3) rfl ?_); refine wpList_load_row rfl 27 (.tmp 3) rfl g1 rfl 27 (cellsB u2 B) (0, 0) _ (HT7.out.x1) Tryz.underlying27 rfl HI2.out ?_) | ((with_reducible refine atLoad (ty := 27) (x := .tmp 5) rfl ?_); refine wpList_load_row rfl 27 (.tmp 5) rfl g2 rfl 27 (cellsB u3 B) (0, 0) _ (HT7.out.x2) Tryz.underlying27 rfl HI3.out ?_))
      go_ret
      exact ⟨rfl, HT9.out.lo⟩
    · have hq : (e2 != 0) = true := by simp [hne]
      clear HPT
      go_wp2_with (first
        | (go_at_call 12; refine (HSM.out _ u2 u3 HT7.out.i1 HT7.out.i2 hk2).mono ?_; rintro e w8 ⟨rfl, hb8⟩; have HT8 := Lib.hid (HT7.out.below HKP.out hb8); clear hb8)
        | ((with_reducible refine atLoad (ty := 27) (x := .tmp 3) rfl ?_); refine wpList_load_row rfl 27 (.tmp 3) rfl g1 rfl 27 (cellsB u2 B) (0, 0) _ (HT7.out.x1) Tryz.underlying27 rfl HI2.out ?_) | ((with_reducible refine atLoad (ty := 27) (x := .tmp 5) rfl ?_); refine wpList_load_row rfl 27 (.tmp 5) rfl g2 rfl 27 (cellsB u3 B) (0, 0) _ (HT7.out.x2) Tryz.underlying27 rfl HI3.out ?_))
      go_ret
      exact ⟨rfl, HT8.out.lo⟩
end Go.Proofs.YtnhljfhpfpfniaaGreat
