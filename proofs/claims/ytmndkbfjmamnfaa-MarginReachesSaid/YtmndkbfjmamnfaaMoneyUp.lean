/- A great number by a small one, rounded up: the contract of the document's UpBy. -/
import Derived.Test.YtmndkbfjmamnfaaMoneyMul
namespace Go.Proofs.Ytmndkbfjmamnfaa
open Go.RowKit Base

/-- The boxes of a quotient. -/
def UpW (B n : Nat) (w : World) (x : Bool) (u : Value) (out : List Nat) (W : World) : Prop :=
  BoxAt W B x u ∧ BoxAt W (B + 1) false (.slice none 0 0) ∧ RowAt W (B + 1 + 1) out ∧ BoxAt W (B + 1 + 1 + 1) false (.slice (some ⟨B + 1 + 1, 0, none⟩) n n) ∧ Below B w W
theorem UpW.lo {B n : Nat} {w : World} {x : Bool} {u : Value} {out : List Nat} {W : World} (h : UpW B n w x u out W) : Below B w W := h.2.2.2.2
theorem UpW.drewN {B n : Nat} {w : World} {x : Bool} {u : Value} {out : List Nat} {W : World} (h : UpW B n w x u out W) (q : Nat) : UpW B n w x u out (W.drewN q) := ⟨h.1, h.2.1, h.2.2.1, h.2.2.2.1, below_drewN' h.2.2.2.2 q⟩
theorem UpW.set {B n : Nat} {w : World} {x : Bool} {u : Value} {out : List Nat} {W : World} (h : UpW B n w x u out W) (i d : Nat) : UpW B n w x u (out.set i d) (W.setCell ⟨B + 1 + 1, i, none⟩ (.int .i64 (d : Int))) :=
  ⟨h.1.other (by omega), h.2.1.other (by omega), h.2.2.1.set i d, h.2.2.2.1.other (by omega), h.2.2.2.2.setCell (p := ⟨B + 1 + 1, i, none⟩) (by show B ≤ B + 1 + 1; omega) _⟩
theorem valD_set_drop (l : List Nat) {j v : Nat} (hj : j < l.length) : valD ((l.set j v).drop j) = v + 10000 * valD (l.drop (j + 1)) := by
  rw [valD_drop]
  congr 1
  · rw [List.getD_eq_getElem?_getD, List.getElem?_set_self (by omega)]; rfl
  · rw [List.drop_set_of_lt (by omega)]
theorem up_step {la out : List Nat} {j rest by' : Nat} (hj : j < out.length) (ho : digsD out) (da : digsD la) (hr : rest < by') (h : valD (la.drop (j + 1)) = valD (out.drop (j + 1)) * by' + rest) :
    digsD (out.set j ((rest * 10000 + la.getD j 0) / by')) ∧ valD (la.drop j) = valD ((out.set j ((rest * 10000 + la.getD j 0) / by')).drop j) * by' + (rest * 10000 + la.getD j 0) % by' := by
  have hd := digsD_getD da j
  have h0 : 0 < by' := by omega
  refine ⟨digsD_set ho _ _ ?_, ?_⟩
  · rw [Nat.div_lt_iff_lt_mul h0]
    have : rest + 1 ≤ by' := hr
    have := Nat.mul_le_mul_right 10000 this
    rw [Nat.mul_comm 10000 by']
    omega
  · rw [valD_set_drop _ hj, valD_drop la, h, Nat.add_mul]
    have hm := Nat.div_add_mod (rest * 10000 + la.getD j 0) by'
    have e : 10000 * valD (out.drop (j + 1)) * by' = 10000 * (valD (out.drop (j + 1)) * by') := Nat.mul_assoc _ _ _
    have c : (rest * 10000 + la.getD j 0) / by' * by' = by' * ((rest * 10000 + la.getD j 0) / by') := Nat.mul_comm _ _
    rw [e, c]
    generalize by' * ((rest * 10000 + la.getD j 0) / by') = T at *
    generalize (rest * 10000 + la.getD j 0) % by' = r at *
    generalize valD (out.drop (j + 1)) * by' = P at *
    omega
theorem up_end (q by' rest : Nat) (hr : rest < by') : (q * by' + rest + (by' - 1)) / by' = q + (if rest = 0 then 0 else 1) := by
  have h0 : 0 < by' := by omega
  by_cases h : rest = 0
  · subst h
    rw [if_pos rfl, Nat.add_zero, Nat.add_zero, Nat.add_comm, Nat.add_mul_div_right _ _ h0, Nat.div_eq_of_lt (by omega), Nat.zero_add]
  · rw [if_neg h, show q * by' + rest + (by' - 1) = (rest - 1) + (q + 1) * by' by rw [Nat.add_mul]; omega, Nat.add_mul_div_right _ _ h0, Nat.div_eq_of_lt (by omega), Nat.zero_add]

set_option maxRecDepth 100000 in
set_option maxHeartbeats 1000000 in
theorem upBy20 (v1 : Value) (z1 : Int) (by' : Nat) (w : World) (h1 : BigIs w v1 z1) (hz1 : z1.natAbs < 10000 ^ 100) (hz0 : 0 ≤ z1) (hby : 0 < by') (hby2 : by' ≤ 10000) :
    Calls Try.prog 36 #[v1, .int .i64 (by' : Int)] w fun e w' => RetBig w.heap.size w (((z1.toNat + (by' - 1)) / by' : Nat) : Int) e w' := by
  obtain ⟨x, a, la, ca, rfl, hda, hca, hga, hta, hxa, hz1e⟩ := h1
  have hn : la.length ≤ 100 := len_le hta 100 (by rw [hz1e] at hz1; cases x <;> simpa [sgn] using hz1)
  have hzv : z1.toNat = valD la := by
    cases x
    · rw [hz1e, sgn_false]; exact Int.toNat_natCast _
    · have hv0 : valD la = 0 := by rw [hz1e, sgn_true] at hz0; omega
      rw [hz1e, sgn_true, hv0]; rfl
  have hvb : valD la < 10000 ^ 100 := by rw [← hzv]; omega
  rw [hzv]
  obtain ⟨n, hla⟩ : ∃ n, la.length = n := ⟨_, rfl⟩
  rw [hla] at hn hca ⊢
  obtain ⟨B, hB⟩ : ∃ B, B = w.heap.size := ⟨_, rfl⟩
  rw [← hB]
  have HDA := Lib.hid (fun (W : World) (hb : Below B w W) => hda.below' hB hb)
  have HGA := Lib.hid hga; have HLA := Lib.hid hla; have HVB := Lib.hid hvb
  have HB := Lib.hid hB
  have HTR := Lib.hid (fun (z : Bool) (c : Option Addr) (l : List Nat) (k cap : Nat) (W : World) => trimB z c l k cap W)
  have HADD := Lib.hid (fun (v1 v2 : Value) (z1 z2 : Int) (W : World) => add13 v1 v2 z1 z2 W)
  have HOF := Lib.hid (fun (W : World) => of7 1 W (by omega) (by omega))
  have hmk := make23 n (by omega)
  clear hda hga hta hxa hz1e hla hB hz1 hz0 hzv hvb
  go_enter Try.func36, Try.ntmps36
  go_upto_region 4 with (fail)
  rw [← HB.out]
  refine at_world (Φ := fun W => UpW B n w x (.slice a n ca) (List.replicate n 0) W) ?_ ?_
  · obtain ⟨k1, k2, k3, k4, k5⟩ := four_alloc (w := w) (A := .cells #[.bool x, .slice a n ca] 71) (B := .cells #[.bool false, .slice none 0 0] 71) (C := .cells (cellsD (List.replicate n 0)).toArray 3) (D := .cells #[.bool false, .slice (some ⟨B + 1 + 1, 0, none⟩) n n] 71)
    rw [← HB.out] at k1 k2 k3 k4 k5
    exact ⟨k1, k2, k3, k4, k5⟩
  rintro W0 hW0
  have HW0 := Lib.hid hW0
  clear hW0 hmk
  go_loopw [6, 7] (fun vr vi W => ∃ (k rest : Nat) (z : Int) (out : List Nat), z + 1 = (k : Int) ∧ k ≤ n ∧ vi = .int .i64 z ∧ vr = .int .i64 (rest : Int) ∧ rest < by' ∧ UpW B n w x (.slice a n ca) out W ∧ out.length = n ∧ digsD out ∧ valD (la.drop k) = valD (out.drop k) * by' + rest) (fun _ vi _ => (intOf vi + 1).toNat)
  case atStart => exact ⟨n, 0, (n : Int) - 1, List.replicate n 0, by omega, Nat.le_refl _, by go_num, rfl, hby, HW0.out, by simp, fun d hd => by rw [List.eq_of_mem_replicate hd]; decide, by rw [List.drop_of_length_le (by rw [HLA.out]; exact Nat.le_refl _), List.drop_of_length_le (by simp)]; simp [valD]⟩
  case round =>
    obtain ⟨k, rest, z, out, hz, hk, rfl, rfl, hr, hW, hlen, hdg, hv⟩ := hrel
    have HWR := Lib.hid hW; have HLE := Lib.hid hlen; have HDG := Lib.hid hdg; have HV := Lib.hid hv
    have ca1 := hW.1.c1; have cg1 := hW.2.2.2.1.c1
    by_cases hge : z ≥ 0
    · obtain ⟨j, rfl⟩ : ∃ j : Nat, z = (j : Int) := ⟨z.toNat, by omega⟩
      have hkj : k = j + 1 := by omega
      subst hkj
      have HS := Lib.hid (up_step (by rw [hlen]; omega) hdg HGA.out hr hv)
      obtain ⟨ba, oa, hae, _, _⟩ := (HDA.out wr hW.lo).some (by rw [HLA.out]; omega)
      subst hae
      have hcp := digs_at (HDA.out wr hW.lo) (i := j) (by rw [HLA.out]; omega)
      have hct := hW.2.2.1.cell (i := j) (by rw [hlen]; omega)
      have hft := free_of_blkN hW.2.2.1 j
      have p4 := digsD_getD HGA.out j
      obtain ⟨p, hp⟩ : ∃ t, la.getD j 0 = t := ⟨_, rfl⟩
      rw [hp] at HS hcp p4
      obtain ⟨s, hs⟩ : ∃ s, rest * 10000 + p = s := ⟨_, rfl⟩
      rw [hs] at HS
      have es : (rest : Int) * 10000 + (p : Int) = (s : Int) := by omega
      have hs8 : s < 100010000 := by omega
      obtain ⟨q, hq⟩ : ∃ q, s / by' = q := ⟨_, rfl⟩
      obtain ⟨r, hrr⟩ : ∃ q, s % by' = q := ⟨_, rfl⟩
      rw [hq, hrr] at HS
      have e1 : (s : Int).tdiv (by' : Int) = (q : Int) := by rw [Int.tdiv_eq_ediv_of_nonneg (by omega), ← hq]; exact (Int.natCast_ediv s by').symm
      have e2 : (s : Int) / (by' : Int) = (q : Int) := by rw [← hq]; exact (Int.natCast_ediv s by').symm
      have e3 : (s : Int).tmod (by' : Int) = (r : Int) := by rw [Int.tmod_eq_emod_of_nonneg (by omega), ← hrr]; exact (Int.natCast_emod s by').symm
      have e4 : (s : Int) % (by' : Int) = (r : Int) := by rw [← hrr]; exact (Int.natCast_emod s by').symm
      have hq8 : q ≤ s := by rw [← hq]; exact Nat.div_le_self _ _
      have hrb : r < by' := by rw [← hrr]; exact Nat.mod_lt _ hby
      have hb0 : ((by' : Int) == 0) = false := by simp; omega
      clear hW hlen hdg hv hp hs hq hrr
      go_upto_region 7 with (fail)
      go_region
      all_goals
        go_wp2
        go_roundw
        case rel => exact ⟨j, r, (j : Int) - 1, out.set j q, by omega, by omega, by go_num, rfl, hrb, (HWR.out.set j q).drewN 1, by rw [List.length_set]; exact HLE.out, HS.out.1, HS.out.2⟩
        case measure => simp [intOf] <;> omega
    · have hk0 : k = 0 := by omega
      subst hk0
      rw [List.drop_zero, List.drop_zero] at hv
      have hE := up_end (valD out) by' rest hr
      rw [← hv] at hE
      have hob : valD out ≤ valD la := by
        have := Nat.le_mul_of_pos_right (valD out) hby
        omega
      have HOB := Lib.hid (show valD out < 10000 ^ 100 from Nat.lt_of_le_of_lt hob HVB.out)
      have HT := Lib.hid (HTR.out false (some ⟨B + 1 + 1, 0, none⟩) out n n wr hlen hW.2.2.1.digs hdg (Nat.le_refl _) (by omega))
      rw [sgn_false] at HT
      have HE := Lib.hid hE
      clear hW hlen hdg hv hE hob ca1 cg1
      go_upto_region 10 with (first
        | (refine wpList_load_row rfl 71 (.tmp 5) rfl (B + 1 + 1 + 1) rfl 71 #[.bool false, .slice (some ⟨B + 1 + 1, 0, none⟩) n n] (0, 0) _ HWR.out.2.2.2.1 Try.underlying71 rfl info25 ?_)
        | (go_at_call 58; refine HT.out.mono ?_; rintro e w5 ⟨xt, at', kt, ct, rfl, hbig, hb5⟩; have HBIG := Lib.hid hbig; have HB5 := Lib.hid hb5; have HR5 := Lib.hid (HWR.out.2.1.below hb5); have HG5 := Lib.hid (HWR.out.2.2.2.1.below hb5); clear hbig hb5)
        | (refine wpList_store_row rfl 71 (.tmp 5) (.tmp 40) rfl (B + 1 + 1 + 1) #[.bool xt, .slice at' kt ct] rfl rfl 71 #[.bool false, .slice (some ⟨B + 1 + 1, 0, none⟩) n n] HG5.out info25 rfl (one25 _ _ _ _) ?_))
      refine at_world (Φ := fun W => BoxAt W (B + 1 + 1 + 1) xt (.slice at' kt ct) ∧ BoxAt W (B + 1) false (.slice none 0 0) ∧ BigIs W (.agg #[.bool xt, .slice at' kt ct]) (valD out : Int) ∧ Below B w W) ⟨setRow_heap _ _ _ _ 71 (0, 0) HG5.out, ?_, HBIG.out.boxRow HG5.out _, below_rowB (bB HB.out HWR.out.lo HB5.out) (by omega)⟩ ?_
      · show _ = _; rw [setRow_other _ _ _ _ (by omega)]; exact HR5.out
      clear HBIG HB5 HR5 HG5 HT HWR
      rintro W6 hW6
      have HW6 := Lib.hid hW6
      clear hW6
      by_cases hr0 : rest = 0
      · subst hr0
        rw [if_pos rfl, Nat.add_zero] at HE
        go_upto_region 12 with (fail)
        go_wp2_with (first
          | (refine wpList_load_row rfl 71 (.tmp 5) rfl (B + 1 + 1 + 1) rfl 71 #[.bool xt, .slice at' kt ct] (0, 0) _ HW6.out.1 Try.underlying71 rfl info25 ?_)
          | (refine wpList_store_row rfl 71 (.tmp 4) (.tmp 46) rfl (B + 1) #[.bool xt, .slice at' kt ct] rfl rfl 71 #[.bool false, .slice none 0 0] HW6.out.2.1 info25 rfl (one25 _ _ _ _) ?_))
        refine ret_cell (p := 4) (ty := 71) (by kernel_rfl) rfl rfl (setRow_heap _ _ _ _ 71 (0, 0) HW6.out.2.1) Try.underlying71 rfl info25 ⟨xt, at', kt, ct, rfl, ?_, below_rowB HW6.out.2.2.2 (by omega)⟩
        rw [HE.out]
        exact HW6.out.2.2.1.boxRow HW6.out.2.1 _
      · rw [if_neg hr0] at HE
        have hrp : (rest : Int) > 0 := by omega
        go_upto_region 11 with (fail)
        have c0 := HW6.out.1.c0; have c1 := HW6.out.1.c1; have f0 := HW6.out.1.f 0; have f1 := HW6.out.1.f 1
        go_region_with (first
          | (go_at_call 31; refine (HOF.out _).mono ?_; rintro e w7 ⟨xo, ao, ko, co, rfl, hbig7, hb7⟩; have HBIG7 := Lib.hid hbig7; have HB7 := Lib.hid (show Below W6.heap.size W6 w7 from bt2 ((Below.refl _ W6).drew) hb7); have c0' := (HW6.out.1.below HB7.out).c0; have c1' := (HW6.out.1.below HB7.out).c1; clear hbig7 hb7)
          | (go_at_call 33; refine (HADD.out _ _ _ _ _ (HW6.out.2.2.1.below HB7.out) HBIG7.out (by simpa using HOB.out) (by decide)).mono ?_; rintro e w8 ⟨xs, as', ks, cs, rfl, hbig8, hb8⟩; have HBIG8 := Lib.hid hbig8; have HB8 := Lib.hid hb8; have HBX8 := Lib.hid ((HW6.out.1.below HB7.out).below hb8); have HRX8 := Lib.hid ((HW6.out.2.1.below HB7.out).below hb8); have c08 := ((HW6.out.1.below HB7.out).below hb8).c0; have c18 := ((HW6.out.1.below HB7.out).below hb8).c1; have f08 := ((HW6.out.1.below HB7.out).below hb8).f 0; have f18 := ((HW6.out.1.below HB7.out).below hb8).f 1; clear hbig8 hb8))
        all_goals
          have HBX9 := Lib.hid ((HBX8.out.set0 xs).set1 (.slice as' ks cs))
          have HRX9 := Lib.hid ((HRX8.out.other (u := .bool xs) (i := 0) (show B + 1 ≠ B + 1 + 1 + 1 by omega)).other (u := .slice as' ks cs) (i := 1) (show B + 1 ≠ B + 1 + 1 + 1 by omega))
          have HBG9 := Lib.hid ((HBIG8.out.boxCell HBX8.out (i := 0) (.bool xs)).boxCell (HBX8.out.set0 xs) (i := 1) (.slice as' ks cs))
          have HBL9 := Lib.hid (((bB HB.out (bB HB.out HW6.out.2.2.2 HB7.out) HB8.out).setCell (p := ⟨B + 1 + 1 + 1, 0, none⟩) (by show B ≤ B + 1 + 1 + 1; omega) (.bool xs)).setCell (p := ⟨B + 1 + 1 + 1, 1, none⟩) (by show B ≤ B + 1 + 1 + 1; omega) (.slice as' ks cs))
          clear c0 c1 f0 f1 c0' c1' c08 c18 f08 f18
          go_wp2_with (first
            | (refine wpList_load_row rfl 71 (.tmp 5) rfl (B + 1 + 1 + 1) rfl 71 #[.bool xs, .slice as' ks cs] (0, 0) _ HBX9.out Try.underlying71 rfl info25 ?_)
            | (refine wpList_store_row rfl 71 (.tmp 4) (.tmp 46) rfl (B + 1) #[.bool xs, .slice as' ks cs] rfl rfl 71 #[.bool false, .slice none 0 0] HRX9.out info25 rfl (one25 _ _ _ _) ?_))
          refine ret_cell (p := 4) (ty := 71) (by kernel_rfl) rfl rfl (setRow_heap _ _ _ _ 71 (0, 0) HRX9.out) Try.underlying71 rfl info25 ⟨xs, as', ks, cs, rfl, ?_, below_rowB HBL9.out (by omega)⟩
          rw [HE.out]
          exact HBG9.out.boxRow HRX9.out _
end Go.Proofs.Ytmndkbfjmamnfaa
