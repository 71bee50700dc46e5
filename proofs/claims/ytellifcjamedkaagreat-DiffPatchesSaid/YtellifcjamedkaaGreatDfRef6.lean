/- The document's May of changes: the contract. -/
import Derived.Test.YtellifcjamedkaaGreatMRd
import Derived.Test.YtellifcjamedkaaGreatMDp
import Derived.Test.YtellifcjamedkaaGreatDpDiff
import Derived.BigQuiet
namespace Go.Proofs.YtellifcjamedkaaGreat
open Go.RowKit Base Base2
theorem infoChF : (Tryz.prog.info? 43).map (·.size) = some 5 := by kernel_rfl
theorem load_chF {W : World} {g o : Nat} {u0 u1 u2 u3 u4 : Value} (h0 : W.cell? ⟨g, o, none⟩ = some u0) (h1 : W.cell? ⟨g, o + 1, none⟩ = some u1) (h2 : W.cell? ⟨g, o + 2, none⟩ = some u2) (h3 : W.cell? ⟨g, o + 3, none⟩ = some u3) (h4 : W.cell? ⟨g, o + 4, none⟩ = some u4) : (Instr.loadAt 43 (.pointer (some ⟨g, o, none⟩))).run Tryz.prog W = .ok (.agg #[u0, u1, u2, u3, u4]) W := by
  have := load_at (P := Tryz.prog) W g o 43 [u0, u1, u2, u3, u4] _ (fun j u hu => ?_) Tryz.underlying43 rfl (by rw [infoChF]; rfl)
  · simpa using this
  · match j, hu with
    | 0, hu => cases hu; exact h0
    | 1, hu => cases hu; exact h1
    | 2, hu => cases hu; exact h2
    | 3, hu => cases hu; exact h3
    | 4, hu => cases hu; exact h4
    | j + 5, hu => simp at hu
/-- Changes of the document's that lie, in all later worlds. -/
structure ChF (w : World) (a : Option Addr) (L : List ChV) : Prop where
  c : ∀ W, Below w.heap.size w W → ChAt W a L
  v : ∀ x ∈ L, I64s w x.a1 x.c.was ∧ I64s w x.a2 x.c.now
theorem ChF.below {w w' : World} {a : Option Addr} {L : List ChV} (h : ChF w a L) (hb : Below w.heap.size w w') : ChF w' a L :=
  ⟨fun W h2 => h.c W (hb.trans (h2.mono hb.size)), fun x hx => ⟨(h.v x hx).1.below hb, (h.v x hx).2.below hb⟩⟩
theorem riseAt {L : List ChV} {i : Nat} {x : ChV} (h : L[i]? = some x) : (L.map ChV.c)[i]? = some x.c := by rw [List.getElem?_map, h]; rfl
theorem mayOne_of {l a b : Int} {V U : List Int} (h1 : 1 ≤ l) (h5 : l ≤ 5) : mayOne ⟨l, a, b, V, U⟩ = (valuesT l V && valuesT l U && (V != U) && (l == 2 || b == 0) && (l != 5 || a == 0)) := by
  unfold mayOne
  dsimp only
  rw [decide_eq_true h1, decide_eq_true h5]
  rfl
theorem mayOne_lo {l a b : Int} {V U : List Int} (h : ¬ (1 ≤ l ∧ l ≤ 5)) : mayOne ⟨l, a, b, V, U⟩ = false := by
  unfold mayOne
  dsimp only
  have e : (decide (1 ≤ l) && decide (l ≤ 5)) = false := by
    rw [Bool.and_eq_false_iff, decide_eq_false_iff_not, decide_eq_false_iff_not]; omega
  rw [e]; simp
set_option maxRecDepth 100000 in
set_option maxHeartbeats 16000000 in
theorem rmay15 (a : Option Addr) (c : Nat) (L : List ChV) (w : World) (hch : ChF w a L) (hl : ∀ x ∈ L, x.c.was.length ≤ 100000 ∧ x.c.now.length ≤ 100000) (hm : L.length ≤ 100000) :
    Calls Tryz.prog 15 #[.slice a L.length c] w fun e w' => e = .returned (.bool (mayCh (L.map ChV.c))) ∧ Below w.heap.size w w' := by
  obtain ⟨R, hR⟩ : ∃ R, mayCh (L.map ChV.c) = R := ⟨_, rfl⟩
  rw [hR]
  have HR := Lib.hid hR
  have HCH := Lib.hid hch
  have HL := Lib.hid hl
  have HLE := Lib.hid rless29
  obtain ⟨n, hn⟩ : ∃ n, L.length = n := ⟨_, rfl⟩
  have HN := Lib.hid hn
  have HNX := Lib.hid (show ∀ i, i < n → ∃ x, L[i]? = some x from fun i h => ⟨L[i]'(by omega), by simp [show i < L.length by omega]⟩)
  rw [hn] at hm ⊢
  clear hR hch hl hn
  go_enter Tryz.func15, Tryz.ntmps15
  go_wp2
  go_loopw [3] (fun vi W => ∃ i : Nat, vi = .int .i64 (i : Int) ∧ i ≤ n ∧ mayCh ((L.map ChV.c).take i) = true ∧ Below w.heap.size w W) (fun vi _ => n - (intOf vi).toNat)
  case atStart => exact ⟨0, rfl, Nat.zero_le _, by rw [List.take_zero]; rfl, Below.refl _ _⟩
  case round =>
    obtain ⟨i, rfl, hi, hmy, hbw⟩ := hrel
    have HMY := Lib.hid hmy
    have HBW := Lib.hid hbw
    clear hmy hbw
    by_cases hlt : i < n
    case neg =>
      have HF := Lib.hid (show R = true by
        have h := HMY.out
        rw [List.take_of_length_le (by rw [List.length_map, HN.out]; omega)] at h
        exact HR.out.symm.trans h)
      go_wp2
      go_ret
      exact ⟨ret_bool HF.out.symm, HBW.out⟩
    obtain ⟨x, hx⟩ := HNX.out i hlt
    obtain ⟨g, o, ha, k0, k1, k2, k3, k4⟩ := HCH.out.c wr HBW.out i x hx
    have HPR := Lib.hid (show ∀ j, i = j + 1 → ∃ y, L[j]? = some y from fun j h => HNX.out j (by omega))
    have HCC := Lib.hid (fun W (h : Below w.heap.size w W) (j : Nat) (y : ChV) (hj : L[j]? = some y) => show W.cell? ⟨g, o + j * 5, none⟩ = some (.int .i64 y.c.l) ∧ W.cell? ⟨g, o + j * 5 + 1, none⟩ = some (.int .i64 y.c.a) ∧ W.cell? ⟨g, o + j * 5 + 2, none⟩ = some (.int .i64 y.c.b) by
      obtain ⟨g', o', ha', h0, h1, h2, _⟩ := HCH.out.c W h j y hj
      rw [ha] at ha'
      obtain ⟨rfl, rfl⟩ : g = g' ∧ o = o' := by simpa using ha'
      exact ⟨h0, h1, h2⟩)
    have HLD := Lib.hid (load_chF (W := wr) k0 k1 k2 k3 k4)
    subst ha
    have HVX := Lib.hid (HCH.out.v x (List.mem_of_getElem? hx))
    have HLN := Lib.hid (HL.out x (List.mem_of_getElem? hx))
    have HPX := Lib.hid (riseAt hx)
    clear k0 k1 k2 k3 k4 hx
    obtain ⟨⟨xl, xa, xb, xv, yv⟩, A1, C1, A2, C2⟩ := x
    dsimp only at HLD HVX HLN HPX
    have HNO := Lib.hid (show mayOne ⟨xl, xa, xb, xv, yv⟩ = false → R = false from fun h => by
      rw [← HR.out]
      refine may_no (i := i + 1) ?_
      rcases Nat.eq_zero_or_pos i with h0 | h0
      · subst h0; exact (may_first HPX.out).trans h
      · obtain ⟨j, rfl⟩ : ∃ j, i = j + 1 := ⟨i - 1, by omega⟩
        obtain ⟨y, hy⟩ := HPR.out j rfl
        rw [may_next (riseAt hy) HPX.out HMY.out, h, Bool.and_false])
    obtain ⟨z1, hz1⟩ : ∃ z, xv.length = z := ⟨_, rfl⟩
    obtain ⟨z2, hz2⟩ : ∃ z, yv.length = z := ⟨_, rfl⟩
    have HZ1 := Lib.hid hz1
    have HZ2 := Lib.hid hz2
    rw [hz1, hz2] at HLD
    clear hz1 hz2
    go_upto_region 5 with (((with_reducible refine atLoad (ty := 43) (x := .tmp 13) rfl ?_); refine loadE (by rfl) 43 (.tmp 13) rfl _ (.agg #[.int .i64 xl, .int .i64 xa, .int .i64 xb, .slice A1 z1 C1, .slice A2 z2 C2]) rfl HLD.out ?_))
    refine at_world (Φ := fun W => W.heap[wr.heap.size]? = some (.cells #[.int .i64 xl, .int .i64 xa, .int .i64 xb, .slice A1 z1 C1, .slice A2 z2 C2] 43 (0, 0)) ∧ Below wr.heap.size wr W) ⟨heap_alloc_new wr _, (Below.refl _ _).alloc (Nat.le_refl _) _⟩ ?_
    rintro W3 ⟨hbox, hb3⟩
    have HBX := Lib.hid hbox
    have HB3 := Lib.hid (HBW.out.trans (hb3.mono HBW.out.size))
    clear hbox hb3 HLD
    generalize wr.heap.size = gb at *
    have bx : ∀ W, Below W3.heap.size W3 W → W.cell? ⟨gb, 0, none⟩ = some (.int .i64 xl) ∧ W.cell? ⟨gb, 1, none⟩ = some (.int .i64 xa) ∧ W.cell? ⟨gb, 2, none⟩ = some (.int .i64 xb) ∧ W.cell? ⟨gb, 3, none⟩ = some (.slice A1 z1 C1) ∧ W.cell? ⟨gb, 4, none⟩ = some (.slice A2 z2 C2) := fun W h => by
      have e := (h.block _ (lt_of_blk HBX.out)).trans HBX.out
      exact ⟨by rw [cell_of_row _ _ _ _ _ _ e]; rfl, by rw [cell_of_row _ _ _ _ _ _ e]; rfl, by rw [cell_of_row _ _ _ _ _ _ e]; rfl, by rw [cell_of_row _ _ _ _ _ _ e]; rfl, by rw [cell_of_row _ _ _ _ _ _ e]; rfl⟩
    have HBC := Lib.hid bx
    obtain ⟨b0, b1, b2, b3, b4⟩ := bx W3 (Below.refl _ _)
    clear bx
    by_cases h1 : xl < 1
    · have HF := Lib.hid (HNO.out (mayOne_lo (by omega)))
      go_wp2
      go_ret
      exact ⟨ret_bool HF.out.symm, HB3.out⟩
    by_cases h5 : 5 < xl
    · have HF := Lib.hid (HNO.out (mayOne_lo (by omega)))
      go_wp2
      go_ret
      exact ⟨ret_bool HF.out.symm, HB3.out⟩
    have HONE := Lib.hid (mayOne_of (l := xl) (a := xa) (b := xb) (V := xv) (U := yv) (by omega) (by omega))
    have HVV := Lib.hid (fun W (h : Below w.heap.size w W) => rvalues33 xl xv A1 C1 W (by omega) (by omega) (HVX.out.1.below h))
    have HVU := Lib.hid (fun W (h : Below w.heap.size w W) => rvalues33 xl yv A2 C2 W (by omega) (by omega) (HVX.out.2.below h))
    have HSM := Lib.hid (fun W (h : Below w.heap.size w W) => rsame12 A1 A2 xv yv C1 C2 W (HVX.out.1.below h) (HVX.out.2.below h) (by have := HLN.out.1; omega))
    obtain ⟨rv, hrv⟩ : ∃ r, valuesT xl xv = r := ⟨_, rfl⟩
    obtain ⟨rn, hrn⟩ : ∃ r, valuesT xl yv = r := ⟨_, rfl⟩
    obtain ⟨rs, hrs⟩ : ∃ r : Bool, decide (xv = yv) = r := ⟨_, rfl⟩
    have HRS := Lib.hid (show (xv != yv) = !rs by rw [← hrs]; by_cases h : xv = yv <;> simp [h])
    rw [hrv, hrn, HRS.out] at HONE
    rw [hrv, HZ1.out] at HVV
    rw [hrn, HZ2.out] at HVU
    rw [hrs, HZ1.out, HZ2.out] at HSM
    clear hrv hrn hrs
    cases rv with
    | false =>
      have HF := Lib.hid (HNO.out (HONE.out.trans (by simp)))
      go_wp2_with (first | (go_at_call 31; refine (HVV.out _ HB3.out).mono ?_; rintro e w4 ⟨rfl, hb⟩; have H4 := Lib.hid (HB3.out.trans (hb.mono HB3.out.size)); have C4 := Lib.hid hb; obtain ⟨d0, d1, d2, d3, d4⟩ := HBC.out _ hb; clear hb))
      go_ret
      exact ⟨ret_bool HF.out.symm, H4.out⟩
    | true =>
      cases rn with
      | false =>
        have HF := Lib.hid (HNO.out (HONE.out.trans (by simp)))
        go_wp2_with (first | (have hq := H4.out; clear hq; go_at_call 31; refine (HVU.out _ H4.out).mono ?_; rintro e w5 ⟨rfl, hb⟩; have H5 := Lib.hid (H4.out.trans (hb.mono H4.out.size)); have C5 := Lib.hid (C4.out.trans (hb.mono C4.out.size)); obtain ⟨e0, e1, e2, e3, e4⟩ := HBC.out _ (C4.out.trans (hb.mono C4.out.size)); clear hb) | (go_at_call 31; refine (HVV.out _ HB3.out).mono ?_; rintro e w4 ⟨rfl, hb⟩; have H4 := Lib.hid (HB3.out.trans (hb.mono HB3.out.size)); have C4 := Lib.hid hb; obtain ⟨d0, d1, d2, d3, d4⟩ := HBC.out _ hb; clear hb))
        go_ret
        exact ⟨ret_bool HF.out.symm, H5.out⟩
      | true =>
        cases rs with
        | true =>
          have HF := Lib.hid (HNO.out (HONE.out.trans (by simp)))
          go_wp2_with (first | (have hq := H4.out; clear hq; go_at_call 31; refine (HVU.out _ H4.out).mono ?_; rintro e w5 ⟨rfl, hb⟩; have H5 := Lib.hid (H4.out.trans (hb.mono H4.out.size)); have C5 := Lib.hid (C4.out.trans (hb.mono C4.out.size)); obtain ⟨e0, e1, e2, e3, e4⟩ := HBC.out _ (C4.out.trans (hb.mono C4.out.size)); clear hb) | (go_at_call 31; refine (HVV.out _ HB3.out).mono ?_; rintro e w4 ⟨rfl, hb⟩; have H4 := Lib.hid (HB3.out.trans (hb.mono HB3.out.size)); have C4 := Lib.hid hb; obtain ⟨d0, d1, d2, d3, d4⟩ := HBC.out _ hb; clear hb) | (go_at_call 28; refine (HSM.out _ H5.out).mono ?_; rintro e w6 ⟨rfl, kk, hkk⟩; have hb : Below w5.heap.size w5 w6 := (by rw [hkk]; exact below_drews kk); clear hkk; have H6 := Lib.hid (H5.out.trans (hb.mono H5.out.size)); have C6 := Lib.hid (C5.out.trans (hb.mono C5.out.size)); obtain ⟨f0, f1, f2, f3, f4⟩ := HBC.out _ (C5.out.trans (hb.mono C5.out.size)); clear hb))
          go_ret
          exact ⟨ret_bool HF.out.symm, H6.out⟩
        | false =>
          by_cases hk : (xl = 2 ∨ xb = 0) ∧ (xl ≠ 5 ∨ xa = 0)
          case neg =>
            have hno : (true && true && !false && (xl == 2 || xb == 0) && (xl != 5 || xa == 0)) = false := by
              rw [← Bool.not_eq_true]; simp only [Bool.and_eq_true, Bool.or_eq_true, beq_iff_eq, bne_iff_ne]; intro h; exact hk ⟨h.1.2, h.2⟩
            have HF := Lib.hid (HNO.out (HONE.out.trans hno))
            clear hno
            by_cases h2 : xl = 2
            · exact absurd ⟨.inl h2, .inl (by omega)⟩ hk
            have t2 : (xl != 2) = true := by simpa using h2
            by_cases hb0 : xb = 0
            · have h55 : xl = 5 := Classical.byContradiction fun h => hk ⟨.inr hb0, .inl h⟩
              have ha0 : ¬ xa = 0 := fun h => hk ⟨.inr hb0, .inr h⟩
              have t3 : (xb != 0) = false := by simpa using hb0
              have t4 : (xl == 5) = true := by simpa using h55
              have t5 : (xa != 0) = true := by simpa using ha0
              clear hk h2 hb0 h55 ha0
              go_wp2_with (first | (have hq := H4.out; clear hq; go_at_call 31; refine (HVU.out _ H4.out).mono ?_; rintro e w5 ⟨rfl, hb⟩; have H5 := Lib.hid (H4.out.trans (hb.mono H4.out.size)); have C5 := Lib.hid (C4.out.trans (hb.mono C4.out.size)); obtain ⟨e0, e1, e2, e3, e4⟩ := HBC.out _ (C4.out.trans (hb.mono C4.out.size)); clear hb) | (go_at_call 31; refine (HVV.out _ HB3.out).mono ?_; rintro e w4 ⟨rfl, hb⟩; have H4 := Lib.hid (HB3.out.trans (hb.mono HB3.out.size)); have C4 := Lib.hid hb; obtain ⟨d0, d1, d2, d3, d4⟩ := HBC.out _ hb; clear hb) | (go_at_call 28; refine (HSM.out _ H5.out).mono ?_; rintro e w6 ⟨rfl, kk, hkk⟩; have hb : Below w5.heap.size w5 w6 := (by rw [hkk]; exact below_drews kk); clear hkk; have H6 := Lib.hid (H5.out.trans (hb.mono H5.out.size)); have C6 := Lib.hid (C5.out.trans (hb.mono C5.out.size)); obtain ⟨f0, f1, f2, f3, f4⟩ := HBC.out _ (C5.out.trans (hb.mono C5.out.size)); clear hb))
              go_ret
              exact ⟨ret_bool HF.out.symm, H6.out⟩
            · have t3 : (xb != 0) = true := by simpa using hb0
              clear hk h2 hb0
              go_wp2_with (first | (have hq := H4.out; clear hq; go_at_call 31; refine (HVU.out _ H4.out).mono ?_; rintro e w5 ⟨rfl, hb⟩; have H5 := Lib.hid (H4.out.trans (hb.mono H4.out.size)); have C5 := Lib.hid (C4.out.trans (hb.mono C4.out.size)); obtain ⟨e0, e1, e2, e3, e4⟩ := HBC.out _ (C4.out.trans (hb.mono C4.out.size)); clear hb) | (go_at_call 31; refine (HVV.out _ HB3.out).mono ?_; rintro e w4 ⟨rfl, hb⟩; have H4 := Lib.hid (HB3.out.trans (hb.mono HB3.out.size)); have C4 := Lib.hid hb; obtain ⟨d0, d1, d2, d3, d4⟩ := HBC.out _ hb; clear hb) | (go_at_call 28; refine (HSM.out _ H5.out).mono ?_; rintro e w6 ⟨rfl, kk, hkk⟩; have hb : Below w5.heap.size w5 w6 := (by rw [hkk]; exact below_drews kk); clear hkk; have H6 := Lib.hid (H5.out.trans (hb.mono H5.out.size)); have C6 := Lib.hid (C5.out.trans (hb.mono C5.out.size)); obtain ⟨f0, f1, f2, f3, f4⟩ := HBC.out _ (C5.out.trans (hb.mono C5.out.size)); clear hb))
              go_ret
              exact ⟨ret_bool HF.out.symm, H6.out⟩
          have hyes : mayOne ⟨xl, xa, xb, xv, yv⟩ = true := by
            rw [HONE.out]; simp only [Bool.and_eq_true, Bool.or_eq_true, beq_iff_eq, bne_iff_ne]; exact ⟨⟨by decide, hk.1⟩, hk.2⟩
          have HYES := Lib.hid hyes
          clear hyes
          by_cases h2 : xl = 2
          · have t2 : (xl != 2) = false := by simpa using h2
            have t4 : (xl == 5) = false := by rw [h2]; rfl
            clear hk h2
            by_cases h0 : i = 0
            · subst h0
              have HT := Lib.hid (show mayCh ((L.map ChV.c).take (0 + 1)) = true from (may_first HPX.out).trans HYES.out)
              go_upto_region 9 with (first | (have hq := H4.out; clear hq; go_at_call 31; refine (HVU.out _ H4.out).mono ?_; rintro e w5 ⟨rfl, hb⟩; have H5 := Lib.hid (H4.out.trans (hb.mono H4.out.size)); have C5 := Lib.hid (C4.out.trans (hb.mono C4.out.size)); obtain ⟨e0, e1, e2, e3, e4⟩ := HBC.out _ (C4.out.trans (hb.mono C4.out.size)); clear hb) | (go_at_call 31; refine (HVV.out _ HB3.out).mono ?_; rintro e w4 ⟨rfl, hb⟩; have H4 := Lib.hid (HB3.out.trans (hb.mono HB3.out.size)); have C4 := Lib.hid hb; obtain ⟨d0, d1, d2, d3, d4⟩ := HBC.out _ hb; clear hb) | (go_at_call 28; refine (HSM.out _ H5.out).mono ?_; rintro e w6 ⟨rfl, kk, hkk⟩; have hb : Below w5.heap.size w5 w6 := (by rw [hkk]; exact below_drews kk); clear hkk; have H6 := Lib.hid (H5.out.trans (hb.mono H5.out.size)); have C6 := Lib.hid (C5.out.trans (hb.mono C5.out.size)); obtain ⟨f0, f1, f2, f3, f4⟩ := HBC.out _ (C5.out.trans (hb.mono C5.out.size)); clear hb))
              go_quiet (fail)
              have H7 := Lib.hid (below_drewN' H6.out nq)
              go_wp2
              go_roundw
              case rel => exact ⟨0 + 1, by go_num, hlt, HT.out, H7.out⟩
              case measure => simp [intOf]; omega
            · obtain ⟨j, rfl⟩ : ∃ j, i = j + 1 := ⟨i - 1, by omega⟩
              obtain ⟨y, hy⟩ := HPR.out j rfl
              have HYC := Lib.hid (fun W h => HCC.out W h j y hy)
              have HST := Lib.hid ((may_next (riseAt hy) HPX.out HMY.out).trans (by rw [HYES.out, Bool.and_true]))
              clear hy h0
              obtain ⟨⟨pl, pa, pb, pv, qv⟩, P1, Q1, P2, Q2⟩ := y
              dsimp only at HYC HST
              have hlc : ltC ⟨pl, pa, pb, pv, qv⟩ ⟨xl, xa, xb, xv, yv⟩ = lessD pl pa pb xl xa xb := rfl
              rw [hlc] at HST
              obtain ⟨rl, hrl⟩ : ∃ r, lessD pl pa pb xl xa xb = r := ⟨_, rfl⟩
              have HLS := Lib.hid (HLE.out pl pa pb xl xa xb)
              rw [hrl] at HLS HST
              clear hlc hrl
              have hij : IntKind.i64.wrap (j : Int) = (j : Int) := by rw [IntKind.wrap_i64]; omega
              have hij2 : IntKind.i64.wrap (((j + 1 : Nat) : Int) - 1) = (j : Int) := by rw [IntKind.wrap_i64]; omega
              have hjn : j < n := by omega
              have g0 : decide ((0 : Int) < ((j + 1 : Nat) : Int)) = true := by simp <;> omega
              go_upto_region 9 with (first | (have hq := H4.out; clear hq; go_at_call 31; refine (HVU.out _ H4.out).mono ?_; rintro e w5 ⟨rfl, hb⟩; have H5 := Lib.hid (H4.out.trans (hb.mono H4.out.size)); have C5 := Lib.hid (C4.out.trans (hb.mono C4.out.size)); obtain ⟨e0, e1, e2, e3, e4⟩ := HBC.out _ (C4.out.trans (hb.mono C4.out.size)); clear hb) | (go_at_call 31; refine (HVV.out _ HB3.out).mono ?_; rintro e w4 ⟨rfl, hb⟩; have H4 := Lib.hid (HB3.out.trans (hb.mono HB3.out.size)); have C4 := Lib.hid hb; obtain ⟨d0, d1, d2, d3, d4⟩ := HBC.out _ hb; clear hb) | (go_at_call 28; refine (HSM.out _ H5.out).mono ?_; rintro e w6 ⟨rfl, kk, hkk⟩; have hb : Below w5.heap.size w5 w6 := (by rw [hkk]; exact below_drews kk); clear hkk; have H6 := Lib.hid (H5.out.trans (hb.mono H5.out.size)); have C6 := Lib.hid (C5.out.trans (hb.mono C5.out.size)); obtain ⟨f0, f1, f2, f3, f4⟩ := HBC.out _ (C5.out.trans (hb.mono C5.out.size)); clear hb))
              obtain ⟨y0, y1, y2⟩ := HYC.out _ H6.out
              go_quiet ((go_at_call 32; exact quietD HLS.out _ _))
              have H7 := Lib.hid (below_drewN' H6.out nq)
              cases rl with
              | false =>
                have HF := Lib.hid (show R = false by rw [← HR.out]; exact may_no (i := j + 1 + 1) HST.out)
                go_wp2
                go_ret
                exact ⟨ret_bool HF.out.symm, H7.out⟩
              | true =>
                have HT := Lib.hid (show mayCh ((L.map ChV.c).take (j + 1 + 1)) = true from HST.out)
                clear hij hij2
                go_wp2
                go_roundw
                case rel => exact ⟨j + 1 + 1, by go_num, hlt, HT.out, H7.out⟩
                case measure => simp [intOf]; omega
          · have t2 : (xl != 2) = true := by simpa using h2
            have hb0 : xb = 0 := hk.1.resolve_left h2
            have t3 : (xb != 0) = false := by simpa using hb0
            by_cases h55 : xl = 5
            · have ha0 : xa = 0 := hk.2.resolve_left (fun h => h h55)
              have t4 : (xl == 5) = true := by simpa using h55
              have t5 : (xa != 0) = false := by simpa using ha0
              clear hk h2 hb0 h55 ha0
              by_cases h0 : i = 0
              · subst h0
                have HT := Lib.hid (show mayCh ((L.map ChV.c).take (0 + 1)) = true from (may_first HPX.out).trans HYES.out)
                go_upto_region 9 with (first | (have hq := H4.out; clear hq; go_at_call 31; refine (HVU.out _ H4.out).mono ?_; rintro e w5 ⟨rfl, hb⟩; have H5 := Lib.hid (H4.out.trans (hb.mono H4.out.size)); have C5 := Lib.hid (C4.out.trans (hb.mono C4.out.size)); obtain ⟨e0, e1, e2, e3, e4⟩ := HBC.out _ (C4.out.trans (hb.mono C4.out.size)); clear hb) | (go_at_call 31; refine (HVV.out _ HB3.out).mono ?_; rintro e w4 ⟨rfl, hb⟩; have H4 := Lib.hid (HB3.out.trans (hb.mono HB3.out.size)); have C4 := Lib.hid hb; obtain ⟨d0, d1, d2, d3, d4⟩ := HBC.out _ hb; clear hb) | (go_at_call 28; refine (HSM.out _ H5.out).mono ?_; rintro e w6 ⟨rfl, kk, hkk⟩; have hb : Below w5.heap.size w5 w6 := (by rw [hkk]; exact below_drews kk); clear hkk; have H6 := Lib.hid (H5.out.trans (hb.mono H5.out.size)); have C6 := Lib.hid (C5.out.trans (hb.mono C5.out.size)); obtain ⟨f0, f1, f2, f3, f4⟩ := HBC.out _ (C5.out.trans (hb.mono C5.out.size)); clear hb))
                go_quiet (fail)
                have H7 := Lib.hid (below_drewN' H6.out nq)
                go_wp2
                go_roundw
                case rel => exact ⟨0 + 1, by go_num, hlt, HT.out, H7.out⟩
                case measure => simp [intOf]; omega
              · obtain ⟨j, rfl⟩ : ∃ j, i = j + 1 := ⟨i - 1, by omega⟩
                obtain ⟨y, hy⟩ := HPR.out j rfl
                have HYC := Lib.hid (fun W h => HCC.out W h j y hy)
                have HST := Lib.hid ((may_next (riseAt hy) HPX.out HMY.out).trans (by rw [HYES.out, Bool.and_true]))
                clear hy h0
                obtain ⟨⟨pl, pa, pb, pv, qv⟩, P1, Q1, P2, Q2⟩ := y
                dsimp only at HYC HST
                have hlc : ltC ⟨pl, pa, pb, pv, qv⟩ ⟨xl, xa, xb, xv, yv⟩ = lessD pl pa pb xl xa xb := rfl
                rw [hlc] at HST
                obtain ⟨rl, hrl⟩ : ∃ r, lessD pl pa pb xl xa xb = r := ⟨_, rfl⟩
                have HLS := Lib.hid (HLE.out pl pa pb xl xa xb)
                rw [hrl] at HLS HST
                clear hlc hrl
                have hij : IntKind.i64.wrap (j : Int) = (j : Int) := by rw [IntKind.wrap_i64]; omega
                have hij2 : IntKind.i64.wrap (((j + 1 : Nat) : Int) - 1) = (j : Int) := by rw [IntKind.wrap_i64]; omega
                have hjn : j < n := by omega
                have g0 : decide ((0 : Int) < ((j + 1 : Nat) : Int)) = true := by simp <;> omega
                go_upto_region 9 with (first | (have hq := H4.out; clear hq; go_at_call 31; refine (HVU.out _ H4.out).mono ?_; rintro e w5 ⟨rfl, hb⟩; have H5 := Lib.hid (H4.out.trans (hb.mono H4.out.size)); have C5 := Lib.hid (C4.out.trans (hb.mono C4.out.size)); obtain ⟨e0, e1, e2, e3, e4⟩ := HBC.out _ (C4.out.trans (hb.mono C4.out.size)); clear hb) | (go_at_call 31; refine (HVV.out _ HB3.out).mono ?_; rintro e w4 ⟨rfl, hb⟩; have H4 := Lib.hid (HB3.out.trans (hb.mono HB3.out.size)); have C4 := Lib.hid hb; obtain ⟨d0, d1, d2, d3, d4⟩ := HBC.out _ hb; clear hb) | (go_at_call 28; refine (HSM.out _ H5.out).mono ?_; rintro e w6 ⟨rfl, kk, hkk⟩; have hb : Below w5.heap.size w5 w6 := (by rw [hkk]; exact below_drews kk); clear hkk; have H6 := Lib.hid (H5.out.trans (hb.mono H5.out.size)); have C6 := Lib.hid (C5.out.trans (hb.mono C5.out.size)); obtain ⟨f0, f1, f2, f3, f4⟩ := HBC.out _ (C5.out.trans (hb.mono C5.out.size)); clear hb))
                obtain ⟨y0, y1, y2⟩ := HYC.out _ H6.out
                go_quiet ((go_at_call 32; exact quietD HLS.out _ _))
                have H7 := Lib.hid (below_drewN' H6.out nq)
                cases rl with
                | false =>
                  have HF := Lib.hid (show R = false by rw [← HR.out]; exact may_no (i := j + 1 + 1) HST.out)
                  go_wp2
                  go_ret
                  exact ⟨ret_bool HF.out.symm, H7.out⟩
                | true =>
                  have HT := Lib.hid (show mayCh ((L.map ChV.c).take (j + 1 + 1)) = true from HST.out)
                  clear hij hij2
                  go_wp2
                  go_roundw
                  case rel => exact ⟨j + 1 + 1, by go_num, hlt, HT.out, H7.out⟩
                  case measure => simp [intOf]; omega
            · have t4 : (xl == 5) = false := by simpa using h55
              clear hk h2 hb0 h55
              by_cases h0 : i = 0
              · subst h0
                have HT := Lib.hid (show mayCh ((L.map ChV.c).take (0 + 1)) = true from (may_first HPX.out).trans HYES.out)
                go_upto_region 9 with (first | (have hq := H4.out; clear hq; go_at_call 31; refine (HVU.out _ H4.out).mono ?_; rintro e w5 ⟨rfl, hb⟩; have H5 := Lib.hid (H4.out.trans (hb.mono H4.out.size)); have C5 := Lib.hid (C4.out.trans (hb.mono C4.out.size)); obtain ⟨e0, e1, e2, e3, e4⟩ := HBC.out _ (C4.out.trans (hb.mono C4.out.size)); clear hb) | (go_at_call 31; refine (HVV.out _ HB3.out).mono ?_; rintro e w4 ⟨rfl, hb⟩; have H4 := Lib.hid (HB3.out.trans (hb.mono HB3.out.size)); have C4 := Lib.hid hb; obtain ⟨d0, d1, d2, d3, d4⟩ := HBC.out _ hb; clear hb) | (go_at_call 28; refine (HSM.out _ H5.out).mono ?_; rintro e w6 ⟨rfl, kk, hkk⟩; have hb : Below w5.heap.size w5 w6 := (by rw [hkk]; exact below_drews kk); clear hkk; have H6 := Lib.hid (H5.out.trans (hb.mono H5.out.size)); have C6 := Lib.hid (C5.out.trans (hb.mono C5.out.size)); obtain ⟨f0, f1, f2, f3, f4⟩ := HBC.out _ (C5.out.trans (hb.mono C5.out.size)); clear hb))
                go_quiet (fail)
                have H7 := Lib.hid (below_drewN' H6.out nq)
                go_wp2
                go_roundw
                case rel => exact ⟨0 + 1, by go_num, hlt, HT.out, H7.out⟩
                case measure => simp [intOf]; omega
              · obtain ⟨j, rfl⟩ : ∃ j, i = j + 1 := ⟨i - 1, by omega⟩
                obtain ⟨y, hy⟩ := HPR.out j rfl
                have HYC := Lib.hid (fun W h => HCC.out W h j y hy)
                have HST := Lib.hid ((may_next (riseAt hy) HPX.out HMY.out).trans (by rw [HYES.out, Bool.and_true]))
                clear hy h0
                obtain ⟨⟨pl, pa, pb, pv, qv⟩, P1, Q1, P2, Q2⟩ := y
                dsimp only at HYC HST
                have hlc : ltC ⟨pl, pa, pb, pv, qv⟩ ⟨xl, xa, xb, xv, yv⟩ = lessD pl pa pb xl xa xb := rfl
                rw [hlc] at HST
                obtain ⟨rl, hrl⟩ : ∃ r, lessD pl pa pb xl xa xb = r := ⟨_, rfl⟩
                have HLS := Lib.hid (HLE.out pl pa pb xl xa xb)
                rw [hrl] at HLS HST
                clear hlc hrl
                have hij : IntKind.i64.wrap (j : Int) = (j : Int) := by rw [IntKind.wrap_i64]; omega
                have hij2 : IntKind.i64.wrap (((j + 1 : Nat) : Int) - 1) = (j : Int) := by rw [IntKind.wrap_i64]; omega
                have hjn : j < n := by omega
                have g0 : decide ((0 : Int) < ((j + 1 : Nat) : Int)) = true := by simp <;> omega
                go_upto_region 9 with (first | (have hq := H4.out; clear hq; go_at_call 31; refine (HVU.out _ H4.out).mono ?_; rintro e w5 ⟨rfl, hb⟩; have H5 := Lib.hid (H4.out.trans (hb.mono H4.out.size)); have C5 := Lib.hid (C4.out.trans (hb.mono C4.out.size)); obtain ⟨e0, e1, e2, e3, e4⟩ := HBC.out _ (C4.out.trans (hb.mono C4.out.size)); clear hb) | (go_at_call 31; refine (HVV.out _ HB3.out).mono ?_; rintro e w4 ⟨rfl, hb⟩; have H4 := Lib.hid (HB3.out.trans (hb.mono HB3.out.size)); have C4 := Lib.hid hb; obtain ⟨d0, d1, d2, d3, d4⟩ := HBC.out _ hb; clear hb) | (go_at_call 28; refine (HSM.out _ H5.out).mono ?_; rintro e w6 ⟨rfl, kk, hkk⟩; have hb : Below w5.heap.size w5 w6 := (by rw [hkk]; exact below_drews kk); clear hkk; have H6 := Lib.hid (H5.out.trans (hb.mono H5.out.size)); have C6 := Lib.hid (C5.out.trans (hb.mono C5.out.size)); obtain ⟨f0, f1, f2, f3, f4⟩ := HBC.out _ (C5.out.trans (hb.mono C5.out.size)); clear hb))
                obtain ⟨y0, y1, y2⟩ := HYC.out _ H6.out
                go_quiet ((go_at_call 32; exact quietD HLS.out _ _))
                have H7 := Lib.hid (below_drewN' H6.out nq)
                cases rl with
                | false =>
                  have HF := Lib.hid (show R = false by rw [← HR.out]; exact may_no (i := j + 1 + 1) HST.out)
                  go_wp2
                  go_ret
                  exact ⟨ret_bool HF.out.symm, H7.out⟩
                | true =>
                  have HT := Lib.hid (show mayCh ((L.map ChV.c).take (j + 1 + 1)) = true from HST.out)
                  clear hij hij2
                  go_wp2
                  go_roundw
                  case rel => exact ⟨j + 1 + 1, by go_num, hlt, HT.out, H7.out⟩
                  case measure => simp [intOf]; omega
end Go.Proofs.YtellifcjamedkaaGreat
