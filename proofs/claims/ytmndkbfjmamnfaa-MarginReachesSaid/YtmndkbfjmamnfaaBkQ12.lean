/- The program's allMay, May: contracts. -/
import Derived.Test.YtmndkbfjmamnfaaBkQ11
namespace Go.Proofs.Ytmndkbfjmamnfaa
open Go.RowKit Base Base2

set_option maxHeartbeats 4000000 in
theorem clHold67 (p q r s : Int) (w : World) : Calls Try.prog 75 #[.agg #[.int .i64 p, .int .i64 q, .int .i64 r, .int .i64 s]] w fun e w' => e = .returned (.bool (holdT [p, q, r, s])) ∧ Below w.heap.size w w' := by
  have hb : Below w.heap.size w (w.alloc (.cells #[.int .i64 p, .int .i64 q, .int .i64 r, .int .i64 s] 45)) := (Below.refl _ w).alloc (Nat.le_refl _) _
  have hh : holdT [p, q, r, s] = (decide (0 ≤ r) && decide (0 ≤ s)) := rfl
  rw [hh]
  by_cases h1 : 0 ≤ r
  · by_cases h2 : 0 ≤ s
    · go_enter Try.func75, Try.ntmps75
      go_wp2
      go_ret
      exact ⟨ret_bool (by simp [h1, h2]), hb⟩
    · go_enter Try.func75, Try.ntmps75
      go_wp2
      go_ret
      exact ⟨ret_bool (by simp [h2]), hb⟩
  · go_enter Try.func75, Try.ntmps75
    go_wp2
    go_ret
    exact ⟨ret_bool (by simp; omega), hb⟩
theorem clRate69 (p q : Int) (w : World) : Calls Try.prog 77 #[.agg #[.int .i64 p, .int .i64 q]] w fun e w' => e = .returned (.bool (rateT [p, q])) ∧ Below w.heap.size w w' := by
  have hb : Below w.heap.size w (w.alloc (.cells #[.int .i64 p, .int .i64 q] 67)) := (Below.refl _ w).alloc (Nat.le_refl _) _
  have hh : rateT [p, q] = decide (1 ≤ q) := rfl
  rw [hh]
  go_enter Try.func77, Try.ntmps77
  go_wp2
  go_ret
  exact ⟨ret_bool (by simp), hb⟩
set_option maxRecDepth 100000 in
set_option maxHeartbeats 8000000 in
theorem there65 (g : Nat) (v : Slots) (b : BookT) (acc sym : Int) (w : World) (hx : BoxB w g v b) (hin : BookIn w v b) (hk : BookOk 2000 b) (h1 : riseL lt1 b.hs = true) (h2 : riseL lt1 b.rs = true) :
    Calls Try.prog 73 #[.int .i64 acc, .int .i64 sym, .pointer (some ⟨g, 0, none⟩)] w fun e w' => e = .returned (.bool (thereT b acc sym)) ∧ Below w.heap.size w w' := by
  have HG := Lib.hid (show ∀ W, Below w.heap.size w W → W.heap[g]? = some (.cells (cellsB v b) 27 (0, 0)) from fun W h => (h.block g (Array.getElem?_eq_some_iff.1 hx).1).trans hx)
  have HH := Lib.hid (fun W (h : Below w.heap.size w W) => progHolder v b acc W (hin.below h) hk.hs h1)
  have HR := Lib.hid (fun W (h : Below w.heap.size w W) => progRate v b sym W (hin.below h) hk.rs h2)
  obtain ⟨p, q, r, s, hv⟩ := valH_form (p := is1 acc) hk.hs
  rw [hv] at HH
  have HI := Lib.hid (show (Try.prog.info? 27).map (·.size) = some (cellsB v b).size from info27)
  have HT := Lib.hid (show thereT b acc sym = ((findL (is1 acc) b.hs).isSome && (findL (is1 sym) b.rs).isSome) from rfl)
  rw [HT.out]
  have HB0 := Lib.hid (Below.refl w.heap.size w)
  clear hx hin hk h1 h2 hv HT
  generalize (findL (is1 acc) b.hs).isSome = e0 at *
  generalize (findL (is1 sym) b.rs).isSome = e1 at *
  generalize valR (findL (is1 sym) b.rs) = z1 at *
  obtain ⟨CB, hCB⟩ : ∃ C, cellsB v b = C := ⟨_, rfl⟩
  rw [hCB] at HG HH HR HI
  clear hCB
  go_enter Try.func73, Try.ntmps73
  go_upto_region 2 with (first
    | ((with_reducible refine atStore (ty := 45) (x := .tmp 6) (y := .tmp 14) rfl ?_); refine wpList_store_row rfl 45 (.tmp 6) (.tmp 14) rfl y1.heap.size #[.int .i64 p, .int .i64 q, .int .i64 r, .int .i64 s] rfl rfl 45 #[.int .i64 0, .int .i64 0, .int .i64 0, .int .i64 0] (heap_alloc_new y1 _) info33 rfl (by simp [Value.oneCell']) ?_)
    | ((with_reducible refine atLoad (ty := 27) (x := .tmp 2) rfl ?_); refine wpList_load_row rfl 27 (.tmp 2) rfl g rfl 27 CB (0, 0) _ (HG.out w HB0.out) Try.underlying27 rfl HI.out ?_)
    | (go_at_call 46; refine (HH.out w HB0.out).mono ?_; rintro e y1 ⟨rfl, hy1⟩))
  have hbA := hy1.trans ((below_rowB ((Below.refl _ y1).alloc (Nat.le_refl _) (.cells #[.int .i64 0, .int .i64 0, .int .i64 0, .int .i64 0] 45)) (Nat.le_refl _) (ks := #[.int .i64 p, .int .i64 q, .int .i64 r, .int .i64 s])).mono hy1.size)
  refine at_world (Φ := fun W => Below w.heap.size w W) hbA ?_
  clear hbA hy1 HH
  rintro W2 hb2
  have HB2 := Lib.hid hb2
  clear hb2
  go_wp2_with (first
    | ((with_reducible refine atLoad (ty := 27) (x := .tmp 2) rfl ?_); refine wpList_load_row rfl 27 (.tmp 2) rfl g rfl 27 CB (0, 0) _ (HG.out _ HB2.out) Try.underlying27 rfl HI.out ?_)
    | (go_at_call 50; refine (HR.out _ HB2.out).mono ?_; rintro e y2 ⟨rfl, hy2⟩))
  all_goals go_ret
  all_goals exact ⟨ret_bool (by simp [*]), HB2.out.trans (hy2.mono HB2.out.size)⟩

set_option maxRecDepth 100000 in
set_option maxHeartbeats 8000000 in
theorem clStake71 (g2 g : Nat) (b : BookT) (p q r : Int) (w : World) (hc : w.cell? ⟨g2, 0, none⟩ = some (.func (.func 73) #[] #[.pointer (some ⟨g, 0, none⟩)])) (hg2 : g2 < w.heap.size)
    (ht : ∀ (x y : Int) (W : World), Below w.heap.size w W → Calls Try.prog 73 #[.int .i64 x, .int .i64 y, .pointer (some ⟨g, 0, none⟩)] W fun e w' => e = .returned (.bool (thereT b x y)) ∧ Below W.heap.size W w') :
    Calls Try.prog 79 #[.agg #[.int .i64 p, .int .i64 q, .int .i64 r], .pointer (some ⟨g2, 0, none⟩)] w fun e w' => e = .returned (.bool (stakeT b [p, q, r])) ∧ Below w.heap.size w w' := by
  have hb : Below w.heap.size w (w.alloc (.cells #[.int .i64 p, .int .i64 q, .int .i64 r] 43)) := (Below.refl _ w).alloc (Nat.le_refl _) _
  have HT := Lib.hid (ht p q _ hb)
  have hf := (hb.cell (p := ⟨g2, 0, none⟩) hg2).trans hc
  have HS := Lib.hid (show stakeT b [p, q, r] = ((r != 0) && thereT b p q) from rfl)
  generalize thereT b p q = e1 at *
  rw [HS.out]
  clear ht hc HS
  by_cases h1 : r = 0
  · have g1 : (r != 0) = false := by simp [h1]
    have g2' : (r == 0) = true := by simp [h1]
    rw [g1, Bool.false_and]
    clear h1
    go_enter Try.func79, Try.ntmps79
    go_wp2
    go_ret
    exact ⟨rfl, hb⟩
  · have g1 : (r != 0) = true := by simp [h1]
    have g2' : (r == 0) = false := by simp [h1]
    rw [g1, Bool.true_and]
    clear h1
    go_enter Try.func79, Try.ntmps79
    go_wp2_with (go_at_call 73; refine HT.out.mono ?_; rintro e y ⟨rfl, hy⟩)
    all_goals go_ret
    all_goals exact ⟨ret_bool (by simp [*]), hb.trans (hy.mono hb.size)⟩

set_option maxRecDepth 100000 in
set_option maxHeartbeats 8000000 in
theorem clOpen73 (g2 g : Nat) (b : BookT) (p q r s t z : Int) (w : World) (hc : w.cell? ⟨g2, 0, none⟩ = some (.func (.func 73) #[] #[.pointer (some ⟨g, 0, none⟩)])) (hg2 : g2 < w.heap.size)
    (ht : ∀ (x y : Int) (W : World), Below w.heap.size w W → Calls Try.prog 73 #[.int .i64 x, .int .i64 y, .pointer (some ⟨g, 0, none⟩)] W fun e w' => e = .returned (.bool (thereT b x y)) ∧ Below W.heap.size W w') :
    Calls Try.prog 81 #[.agg #[.int .i64 p, .int .i64 q, .int .i64 r, .int .i64 s, .int .i64 t, .int .i64 z], .pointer (some ⟨g2, 0, none⟩)] w fun e w' => e = .returned (.bool (openT b [p, q, r, s, t, z])) ∧ Below w.heap.size w w' := by
  have hb : Below w.heap.size w (w.alloc (.cells #[.int .i64 p, .int .i64 q, .int .i64 r, .int .i64 s, .int .i64 t, .int .i64 z] 37)) := (Below.refl _ w).alloc (Nat.le_refl _) _
  have HT := Lib.hid (ht q r _ hb)
  have hf := (hb.cell (p := ⟨g2, 0, none⟩) hg2).trans hc
  have HS := Lib.hid (show openT b [p, q, r, s, t, z] = (decide (1 ≤ t) && decide (1 ≤ z) && (s == 0 || s == 1) && thereT b q r) from rfl)
  generalize thereT b q r = e1 at *
  rw [HS.out]
  clear ht hc HS
  by_cases h1 : 1 ≤ t
  case neg =>
    rw [decide_eq_false h1, Bool.false_and, Bool.false_and, Bool.false_and]
    go_enter Try.func81, Try.ntmps81
    go_wp2
    go_ret
    exact ⟨rfl, hb⟩
  by_cases h2 : 1 ≤ z
  case neg =>
    rw [decide_eq_false h2, Bool.and_false, Bool.false_and, Bool.false_and]
    go_enter Try.func81, Try.ntmps81
    go_wp2
    go_ret
    exact ⟨rfl, hb⟩
  rw [decide_eq_true h1, decide_eq_true h2, Bool.true_and, Bool.true_and]
  cases g1 : (s == 0) with
  | true =>
    rw [Bool.true_or, Bool.true_and]
    go_enter Try.func81, Try.ntmps81
    go_wp2_with (go_at_call 73; refine HT.out.mono ?_; rintro e y ⟨rfl, hy⟩)
    all_goals go_ret
    all_goals exact ⟨ret_bool (by simp [*]), hb.trans (hy.mono hb.size)⟩
  | false =>
    cases g3 : (s == 1) with
    | true =>
      rw [Bool.or_true, Bool.true_and]
      go_enter Try.func81, Try.ntmps81
      go_wp2_with (go_at_call 73; refine HT.out.mono ?_; rintro e y ⟨rfl, hy⟩)
      all_goals go_ret
      all_goals exact ⟨ret_bool (by simp [*]), hb.trans (hy.mono hb.size)⟩
    | false =>
      rw [Bool.or_false, Bool.false_and]
      go_enter Try.func81, Try.ntmps81
      go_wp2
      go_ret
      exact ⟨rfl, hb⟩

set_option maxRecDepth 100000 in
set_option maxHeartbeats 8000000 in
theorem pallMay33 (v : Slots) (b : BookT) (w : World) (hb : BookIn w v b) (hk : BookOk 2000 b) (h1 : riseL lt1 b.hs = true) (h2 : riseL lt1 b.rs = true) :
    Calls Try.prog 45 #[.agg (cellsB v b)] w fun e w' => e = .returned (.bool (b.hs.all holdT && b.rs.all rateT && b.ss.all (stakeT b) && b.os.all (openT b))) ∧ Below w.heap.size w w' := by
  obtain ⟨RES, hR⟩ : ∃ r, (b.hs.all holdT && b.rs.all rateT && b.ss.all (stakeT b) && b.os.all (openT b)) = r := ⟨_, rfl⟩
  rw [hR]
  have HRR := Lib.hid hR
  clear hR
  have hb0 : Below w.heap.size w (w.alloc (.cells (cellsB v b) 27)) := (Below.refl _ w).alloc (Nat.le_refl _) _
  have hx0 := BoxB.new w v b
  have HI := Lib.hid (show (Try.prog.info? 27).map (·.size) = some (cellsB v b).size from info27)
  obtain ⟨CB, hCB⟩ : ∃ C, cellsB v b = C := ⟨_, rfl⟩
  rw [hCB] at hb0 HI ⊢
  have hx0' : BoxB (w.alloc (.cells CB 27)) w.heap.size v b := by rw [← hCB]; exact hx0
  have HX0 := Lib.hid hx0'
  clear hx0 hx0'
  have HCC := Lib.hid hCB
  clear hCB
  go_enter Try.func45, Try.ntmps45
  go_upto_region 2 with (fail)
  refine at_world (Φ := fun W => w.heap.size + 2 ≤ W.heap.size ∧ Below w.heap.size w W ∧ BoxB W w.heap.size v b ∧ W.heap[w.heap.size + 1]? = some (.cells #[.func (.func 73) #[] #[.pointer (some ⟨w.heap.size, 0, none⟩)]] 84 (0, 0))) ⟨by simp, hb0.alloc (by simp) _, HX0.out.below ((Below.refl _ _).alloc (Nat.le_refl _) _) (by simp), (two_new (W := w)).2⟩ ?_
  clear hb0 HX0
  rintro W2 ⟨hsz, hlo, hx, hf⟩
  have HLO := Lib.hid (show ∀ W, Below W2.heap.size W2 W → Below w.heap.size w W from fun W h => hlo.trans (h.mono (by omega)))
  have HBX := Lib.hid (show ∀ W, Below W2.heap.size W2 W → BoxB W w.heap.size v b from fun W h => (h.block _ (by omega)).trans hx)
  have HCA := Lib.hid (show ∀ W, Below W2.heap.size W2 W → _ from fun W h => (HBX.out W h).cells)
  have HTH := Lib.hid (show ∀ (x y : Int) (W : World), Below W2.heap.size W2 W → Calls Try.prog 73 #[.int .i64 x, .int .i64 y, .pointer (some ⟨w.heap.size, 0, none⟩)] W fun e w' => e = .returned (.bool (thereT b x y)) ∧ Below W.heap.size W w' from fun x y W h => there65 w.heap.size v b x y W (HBX.out W h) (hb.below (HLO.out W h)) hk h1 h2)
  have HFC := Lib.hid (show ∀ W, Below W2.heap.size W2 W → W.cell? ⟨w.heap.size + 1, 0, none⟩ = some (.func (.func 73) #[] #[.pointer (some ⟨w.heap.size, 0, none⟩)]) from fun W h => cell_of_row _ _ 0 _ 84 (0, 0) ((h.block _ (by omega)).trans hf))
  have HSZ := Lib.hid (show ∀ W, Below W2.heap.size W2 W → w.heap.size + 1 < W.heap.size from fun W h => by have := h.size; omega)
  have HB0 := Lib.hid (Below.refl W2.heap.size W2)
  have HE0 := Lib.hid (fun W (h : Below W2.heap.size W2 W) => allHolder holdT v.h v.ch b.hs W (hb.hs.below (HLO.out W h)) hk.hs (fun p q r s W' _ => clHold67 p q r s W'))
  have HE1 := Lib.hid (fun W (h : Below W2.heap.size W2 W) => allRate rateT v.r v.cr b.rs W (hb.rs.below (HLO.out W h)) hk.rs (fun p q W' _ => clRate69 p q W'))
  have HE2 := Lib.hid (fun W (h : Below W2.heap.size W2 W) => allStake (stakeT b) (w.heap.size + 1) v.s v.cs b.ss W (hb.ss.below (HLO.out W h)) hk.ss (fun p q r W' h' => clStake71 (w.heap.size + 1) w.heap.size b p q r W' (HFC.out _ (h.trans (h'.mono h.size))) (HSZ.out _ (h.trans (h'.mono h.size))) (fun x y W'' h'' => HTH.out x y W'' ((h.trans (h'.mono h.size)).trans (h''.mono (Nat.le_trans h.size h'.size))))))
  have HE3 := Lib.hid (fun W (h : Below W2.heap.size W2 W) => allOpen (openT b) (w.heap.size + 1) v.o v.co b.os W (hb.os.below (HLO.out W h)) hk.os (fun p q r s t z W' h' => clOpen73 (w.heap.size + 1) w.heap.size b p q r s t z W' (HFC.out _ (h.trans (h'.mono h.size))) (HSZ.out _ (h.trans (h'.mono h.size))) (fun x y W'' h'' => HTH.out x y W'' ((h.trans (h'.mono h.size)).trans (h''.mono (Nat.le_trans h.size h'.size))))))
  obtain ⟨a0, a1, a2, a3, a4⟩ := HCA.out _ HB0.out
  clear hsz hlo hx hf hb hk h1 h2 HTH HFC HSZ HBX
  generalize b.hs.all holdT = e0 at *
  generalize b.rs.all rateT = e1 at *
  generalize b.ss.all (stakeT b) = e2 at *
  generalize b.os.all (openT b) = e3 at *
  cases e0 with
  | false =>
    go_wp2_with (first | (go_at_call 74; refine (HE0.out _ HB0.out).mono ?_; rintro e y0 ⟨rfl, hy⟩; have HB1 := Lib.hid (HB0.out.trans (hy.mono HB0.out.size)); obtain ⟨a0, a1, a2, a3, a4⟩ := HCA.out _ HB1.out; clear hy))
    go_ret
    exact ⟨ret_bool (by have h := HRR.out; simpa using h), HLO.out _ HB1.out⟩
  | true =>
    cases e1 with
    | false =>
      go_wp2_with (first | (go_at_call 76; refine (HE1.out _ HB1.out).mono ?_; rintro e y1 ⟨rfl, hy⟩; have HB2 := Lib.hid (HB1.out.trans (hy.mono HB1.out.size)); obtain ⟨a0, a1, a2, a3, a4⟩ := HCA.out _ HB2.out; clear hy) | (go_at_call 74; refine (HE0.out _ HB0.out).mono ?_; rintro e y0 ⟨rfl, hy⟩; have HB1 := Lib.hid (HB0.out.trans (hy.mono HB0.out.size)); obtain ⟨a0, a1, a2, a3, a4⟩ := HCA.out _ HB1.out; clear hy))
      go_ret
      exact ⟨ret_bool (by have h := HRR.out; simpa using h), HLO.out _ HB2.out⟩
    | true =>
      cases e2 with
      | false =>
        go_wp2_with (first | (go_at_call 78; refine (HE2.out _ HB2.out).mono ?_; rintro e y2 ⟨rfl, hy⟩; have HB3 := Lib.hid (HB2.out.trans (hy.mono HB2.out.size)); obtain ⟨a0, a1, a2, a3, a4⟩ := HCA.out _ HB3.out; clear hy) | (go_at_call 76; refine (HE1.out _ HB1.out).mono ?_; rintro e y1 ⟨rfl, hy⟩; have HB2 := Lib.hid (HB1.out.trans (hy.mono HB1.out.size)); obtain ⟨a0, a1, a2, a3, a4⟩ := HCA.out _ HB2.out; clear hy) | (go_at_call 74; refine (HE0.out _ HB0.out).mono ?_; rintro e y0 ⟨rfl, hy⟩; have HB1 := Lib.hid (HB0.out.trans (hy.mono HB0.out.size)); obtain ⟨a0, a1, a2, a3, a4⟩ := HCA.out _ HB1.out; clear hy))
        go_ret
        exact ⟨ret_bool (by have h := HRR.out; simpa using h), HLO.out _ HB3.out⟩
      | true =>
        cases e3 with
        | false =>
          go_wp2_with (first | (go_at_call 80; refine (HE3.out _ HB3.out).mono ?_; rintro e y3 ⟨rfl, hy⟩; have HB4 := Lib.hid (HB3.out.trans (hy.mono HB3.out.size)); obtain ⟨a0, a1, a2, a3, a4⟩ := HCA.out _ HB4.out; clear hy) | (go_at_call 78; refine (HE2.out _ HB2.out).mono ?_; rintro e y2 ⟨rfl, hy⟩; have HB3 := Lib.hid (HB2.out.trans (hy.mono HB2.out.size)); obtain ⟨a0, a1, a2, a3, a4⟩ := HCA.out _ HB3.out; clear hy) | (go_at_call 76; refine (HE1.out _ HB1.out).mono ?_; rintro e y1 ⟨rfl, hy⟩; have HB2 := Lib.hid (HB1.out.trans (hy.mono HB1.out.size)); obtain ⟨a0, a1, a2, a3, a4⟩ := HCA.out _ HB2.out; clear hy) | (go_at_call 74; refine (HE0.out _ HB0.out).mono ?_; rintro e y0 ⟨rfl, hy⟩; have HB1 := Lib.hid (HB0.out.trans (hy.mono HB0.out.size)); obtain ⟨a0, a1, a2, a3, a4⟩ := HCA.out _ HB1.out; clear hy))
          go_ret
          exact ⟨ret_bool (by have h := HRR.out; simpa using h), HLO.out _ HB4.out⟩
        | true =>
          go_wp2_with (first | (go_at_call 80; refine (HE3.out _ HB3.out).mono ?_; rintro e y3 ⟨rfl, hy⟩; have HB4 := Lib.hid (HB3.out.trans (hy.mono HB3.out.size)); obtain ⟨a0, a1, a2, a3, a4⟩ := HCA.out _ HB4.out; clear hy) | (go_at_call 78; refine (HE2.out _ HB2.out).mono ?_; rintro e y2 ⟨rfl, hy⟩; have HB3 := Lib.hid (HB2.out.trans (hy.mono HB2.out.size)); obtain ⟨a0, a1, a2, a3, a4⟩ := HCA.out _ HB3.out; clear hy) | (go_at_call 76; refine (HE1.out _ HB1.out).mono ?_; rintro e y1 ⟨rfl, hy⟩; have HB2 := Lib.hid (HB1.out.trans (hy.mono HB1.out.size)); obtain ⟨a0, a1, a2, a3, a4⟩ := HCA.out _ HB2.out; clear hy) | (go_at_call 74; refine (HE0.out _ HB0.out).mono ?_; rintro e y0 ⟨rfl, hy⟩; have HB1 := Lib.hid (HB0.out.trans (hy.mono HB0.out.size)); obtain ⟨a0, a1, a2, a3, a4⟩ := HCA.out _ HB1.out; clear hy))
          go_ret
          exact ⟨ret_bool (by have h := HRR.out; simpa using h), HLO.out _ HB4.out⟩

set_option maxRecDepth 100000 in
set_option maxHeartbeats 8000000 in
theorem pmay9 (v : Slots) (b : BookT) (w : World) (hb : BookIn w v b) (hk : BookOk 2000 b) :
    Calls Try.prog 20 #[.agg (cellsB v b)] w fun e w' => e = .returned (.bool (mayT b)) ∧ Below w.heap.size w w' := by
  have hlo : Below w.heap.size w (w.alloc (.cells (cellsB v b) 27)) := (Below.refl _ w).alloc (Nat.le_refl _) _
  have HX := Lib.hid (show ∀ W, Below (w.heap.size + 1) (w.alloc (.cells (cellsB v b) 27)) W → W.heap[w.heap.size]? = some (.cells (cellsB v b) 27 (0, 0)) from fun W h => (h.block _ (by omega)).trans (BoxB.new w v b))
  obtain ⟨W0, hW0⟩ : ∃ W, w.alloc (.cells (cellsB v b) 27) = W := ⟨_, rfl⟩
  have hsz : W0.heap.size = w.heap.size + 1 := by rw [← hW0]; simp
  rw [hW0] at hlo HX
  have HLO := Lib.hid (show ∀ W, Below (w.heap.size + 1) W0 W → Below w.heap.size w W from fun W h => hlo.trans (h.mono (by omega)))
  have HWS := Lib.hid (show ∀ W, Below (w.heap.size + 1) W0 W → w.heap.size + 1 ≤ W.heap.size from fun W h => by have := h.size; omega)
  have HI := Lib.hid (show (Try.prog.info? 27).map (·.size) = some (cellsB v b).size from info27)
  have HF := Lib.hid (fun W => pfew31 v b W)
  have HR := Lib.hid (fun W (h : Below (w.heap.size + 1) W0 W) => prise32 v b W (hb.below (HLO.out W h)) hk)
  have HA := Lib.hid (fun (h1 : riseL lt1 b.hs = true) (h2 : riseL lt1 b.rs = true) W (h : Below (w.heap.size + 1) W0 W) => pallMay33 v b W (hb.below (HLO.out W h)) hk h1 h2)
  have HRT := Lib.hid (show riseT b = true → riseL lt1 b.hs = true ∧ riseL lt1 b.rs = true from fun h => by unfold riseT at h; simp only [Bool.and_eq_true] at h; exact ⟨h.1.1.1, h.1.2⟩)
  have HM := Lib.hid (show mayT b = (riseT b && sizesT b && b.hs.all holdT && b.rs.all rateT && b.ss.all (stakeT b) && b.os.all (openT b)) from rfl)
  rw [HM.out]
  have HB0 := Lib.hid (Below.refl (w.heap.size + 1) W0)
  clear hlo hsz hb hk HM
  generalize sizesT b = e0 at *
  generalize riseT b = e1 at *
  obtain ⟨CB, hCB⟩ : ∃ C, cellsB v b = C := ⟨_, rfl⟩
  rw [hCB] at hW0 HX HF HR HA HI ⊢
  clear hCB
  cases e0 with
  | false =>
    go_enter Try.func20, Try.ntmps20
    go_wp2_with (first | ((with_reducible refine atLoad (ty := 27) (x := .tmp 1) rfl ?_); refine wpList_load_row rfl 27 (.tmp 1) rfl w.heap.size rfl 27 CB (0, 0) _ (HX.out _ HB0.out) Try.underlying27 rfl HI.out ?_) | (go_at_call 43; refine (HF.out _).mono ?_; rintro e y1 ⟨rfl, hy1⟩; have HB1 := Lib.hid (HB0.out.trans (hy1.mono (HWS.out _ HB0.out))); clear hy1))
    go_ret
    exact ⟨ret_bool (by simp), HLO.out _ HB1.out⟩
  | true =>
    cases e1 with
    | false =>
      go_enter Try.func20, Try.ntmps20
      go_wp2_with (first | ((with_reducible refine atLoad (ty := 27) (x := .tmp 1) rfl ?_); refine wpList_load_rowG (by rfl) 27 (.tmp 1) rfl w.heap.size rfl 27 CB (0, 0) _ (HX.out _ HB1.out) Try.underlying27 rfl HI.out ?_) | ((with_reducible refine atLoad (ty := 27) (x := .tmp 1) rfl ?_); refine wpList_load_row rfl 27 (.tmp 1) rfl w.heap.size rfl 27 CB (0, 0) _ (HX.out _ HB0.out) Try.underlying27 rfl HI.out ?_) | (go_at_call 44; refine (HR.out _ HB1.out).mono ?_; rintro e y2 ⟨rfl, hy2⟩; have HB2 := Lib.hid (HB1.out.trans (hy2.mono (HWS.out _ HB1.out))); clear hy2) | (go_at_call 43; refine (HF.out _).mono ?_; rintro e y1 ⟨rfl, hy1⟩; have HB1 := Lib.hid (HB0.out.trans (hy1.mono (HWS.out _ HB0.out))); clear hy1))
      go_ret
      exact ⟨ret_bool (by simp), HLO.out _ HB2.out⟩
    | true =>
      obtain ⟨h1, h2⟩ := HRT.out rfl
      have HAA := Lib.hid (HA.out h1 h2)
      clear HA h1 h2
      generalize b.hs.all holdT = e0 at *
      generalize b.rs.all rateT = e1 at *
      generalize b.ss.all (stakeT b) = e2 at *
      generalize b.os.all (openT b) = e3 at *
      obtain ⟨R, hR⟩ : ∃ r, (e0 && e1 && e2 && e3) = r := ⟨_, rfl⟩
      rw [hR] at HAA
      have HRR := Lib.hid (show (true && true && e0 && e1 && e2 && e3) = R from hR)
      rw [HRR.out]
      clear hR HRR
      go_enter Try.func20, Try.ntmps20
      go_wp2_with (first | ((with_reducible refine atLoad (ty := 27) (x := .tmp 1) rfl ?_); refine wpList_load_rowG (by rfl) 27 (.tmp 1) rfl w.heap.size rfl 27 CB (0, 0) _ (HX.out _ HB2.out) Try.underlying27 rfl HI.out ?_) | ((with_reducible refine atLoad (ty := 27) (x := .tmp 1) rfl ?_); refine wpList_load_rowG (by rfl) 27 (.tmp 1) rfl w.heap.size rfl 27 CB (0, 0) _ (HX.out _ HB1.out) Try.underlying27 rfl HI.out ?_) | ((with_reducible refine atLoad (ty := 27) (x := .tmp 1) rfl ?_); refine wpList_load_row rfl 27 (.tmp 1) rfl w.heap.size rfl 27 CB (0, 0) _ (HX.out _ HB0.out) Try.underlying27 rfl HI.out ?_) | (go_at_call 45; refine (HAA.out _ HB2.out).mono ?_; rintro e y3 ⟨rfl, hy3⟩; have HB3 := Lib.hid (HB2.out.trans (hy3.mono (HWS.out _ HB2.out))); clear hy3) | (go_at_call 44; refine (HR.out _ HB1.out).mono ?_; rintro e y2 ⟨rfl, hy2⟩; have HB2 := Lib.hid (HB1.out.trans (hy2.mono (HWS.out _ HB1.out))); clear hy2) | (go_at_call 43; refine (HF.out _).mono ?_; rintro e y1 ⟨rfl, hy1⟩; have HB1 := Lib.hid (HB0.out.trans (hy1.mono (HWS.out _ HB0.out))); clear hy1))
      all_goals go_ret
      all_goals exact ⟨ret_bool (by simp [*]), HLO.out _ HB3.out⟩
end Go.Proofs.Ytmndkbfjmamnfaa
