/- The sum of two great numbers: the contract of the document's Add. -/
import Derived.Test.YtmndkbfjmamnfaaMoneyOf
namespace Go.Proofs.Ytmndkbfjmamnfaa
open Go.RowKit Base

theorem at25q (a : Option Addr) (l : List Nat) (n cap i : Nat) (w : World) (hl : l.length = n) (h : DigsAt w a l) :
    Calls Try.prog 57 #[.slice a n cap, .int .i64 (i : Int)] w fun e w' => e = .returned (.int .i64 ((l.getD i 0 : Nat) : Int)) ∧ w' = w :=
  (at25 a l n cap i w hl h).mono fun _ _ h => ⟨h.1, h.2.symm⟩
/-- Two numbers' boxes, the result's, and the new one's. -/
def AddW (B : Nat) (w : World) (x y z : Bool) (u v o : Value) (W : World) : Prop :=
  BoxAt W B x u ∧ BoxAt W (B + 1) y v ∧ BoxAt W (B + 1 + 1) false (.slice none 0 0) ∧ BoxAt W (B + 1 + 1 + 1) z o ∧ Below B w W
/-- What the loop of a sum holds. -/
def SumRel (B : Nat) (w : World) (x y z : Bool) (u v : Value) (la lb : List Nat) (N : Nat) (vc vi : Value) (W : World) : Prop :=
  ∃ (i c : Nat) (out : List Nat) (o : Value), i ≤ N + 1 ∧ vi = .int .i64 (i : Int) ∧ vc = .int .i64 (c : Int) ∧ c ≤ 1 ∧ AddW B w x y z u v o W ∧ W.ownsRow B 3 1 o i (cellsD out) ∧ out.length = i ∧ digsD out ∧
    valD out + 10000 ^ i * c = valD (la.take i) + valD (lb.take i)
theorem sum_step {la lb out : List Nat} {i c : Nat} (hl : out.length = i) (hg : digsD out) (h : valD out + 10000 ^ i * c = valD (la.take i) + valD (lb.take i)) :
    digsD (out ++ [(la.getD i 0 + lb.getD i 0 + c) % 10000]) ∧ valD (out ++ [(la.getD i 0 + lb.getD i 0 + c) % 10000]) + 10000 ^ (i + 1) * ((la.getD i 0 + lb.getD i 0 + c) / 10000) = valD (la.take (i + 1)) + valD (lb.take (i + 1)) := by
  refine ⟨digsD_app hg (fun d hd => by simp at hd; omega), ?_⟩
  rw [valD_snoc, hl, valD_take_succ, valD_take_succ, Nat.pow_succ]
  have := add_step (10000 ^ i) (la.getD i 0) (lb.getD i 0) c
  omega
theorem sum_end {la lb out : List Nat} {N c : Nat} (da : digsD la) (db : digsD lb) (ha : la.length ≤ N) (hb : lb.length ≤ N) (h : valD out + 10000 ^ (N + 1) * c = valD (la.take (N + 1)) + valD (lb.take (N + 1))) : valD out = valD la + valD lb := by
  rw [valD_take_all la (by omega), valD_take_all lb (by omega)] at h
  have h1 := valD_lt da
  have h2 := valD_lt db
  have h3 : 10000 ^ la.length ≤ 10000 ^ N := Nat.pow_le_pow_right (by omega) ha
  have h4 : 10000 ^ lb.length ≤ 10000 ^ N := Nat.pow_le_pow_right (by omega) hb
  rw [Nat.pow_succ] at h
  rcases Nat.eq_zero_or_pos c with rfl | hc
  · omega
  · have := Nat.le_mul_of_pos_right (10000 ^ N * 10000) hc
    omega
/-- What the loop of a difference holds. -/
def SubRel (B : Nat) (w : World) (x y z : Bool) (u v : Value) (la lb : List Nat) (N : Nat) (vc vi : Value) (W : World) : Prop :=
  ∃ (i c : Nat) (out : List Nat) (o : Value), i ≤ N ∧ vi = .int .i64 (i : Int) ∧ vc = .int .i64 (c : Int) ∧ c ≤ 1 ∧ AddW B w x y z u v o W ∧ W.ownsRow B 3 1 o i (cellsD out) ∧ out.length = i ∧ digsD out ∧
    valD out + valD (lb.take i) = valD (la.take i) + 10000 ^ i * c
theorem sub_step {la lb out : List Nat} {i c : Nat} (hl : out.length = i) (hg : digsD out) (h : valD out + valD (lb.take i) = valD (la.take i) + 10000 ^ i * c) (s c' : Nat) (hs : s + lb.getD i 0 + c = la.getD i 0 + 10000 * c') (hs4 : s < 10000) :
    digsD (out ++ [s]) ∧ valD (out ++ [s]) + valD (lb.take (i + 1)) = valD (la.take (i + 1)) + 10000 ^ (i + 1) * c' := by
  refine ⟨digsD_app hg (fun d hd => by simp at hd; omega), ?_⟩
  rw [valD_snoc, hl, valD_take_succ, valD_take_succ, Nat.pow_succ]
  have := congrArg (fun t => 10000 ^ i * t) hs
  simp only [Nat.mul_add] at this
  rw [← Nat.mul_assoc] at this
  omega
theorem sub_end {la lb out : List Nat} {N c : Nat} (hg : digsD out) (hl : out.length = N) (ha : la.length ≤ N) (hb : lb.length ≤ N) (hle : valD lb ≤ valD la) (h : valD out + valD (lb.take N) = valD (la.take N) + 10000 ^ N * c) : valD out + valD lb = valD la := by
  rw [valD_take_all la ha, valD_take_all lb hb] at h
  have h1 := valD_lt hg
  rw [hl] at h1
  rcases Nat.eq_zero_or_pos c with rfl | hc
  · omega
  · have := Nat.le_mul_of_pos_right (10000 ^ N) hc
    omega
theorem AddW.below {B : Nat} {w : World} {x y z : Bool} {u v o : Value} {W W' : World} (h : AddW B w x y z u v o W) (hB : B = w.heap.size) (hb : Below W.heap.size W W') : AddW B w x y z u v o W' :=
  ⟨h.1.below hb, h.2.1.below hb, h.2.2.1.below hb, h.2.2.2.1.below hb, bB hB h.2.2.2.2 hb⟩
theorem AddW.lo {B : Nat} {w : World} {x y z : Bool} {u v o : Value} {W : World} (h : AddW B w x y z u v o W) : Below B w W := h.2.2.2.2
/-- Behind an append to an own row. -/
theorem AddW.grown {B : Nat} {w : World} {x y z : Bool} {u v o : Value} {W W' : World} {ob : Obj} {n : Nat} {xs : List Value} (h : AddW B w x y z u v o W) (hB : B = w.heap.size) (ho : W.ownsRow B 3 1 o n xs) (hg : (W.alloc ob).grownBy W' o.ownBlock) : AddW B w x y z u v o W' := by
  have k : ∀ {g : Nat} {b : Bool} {q : Value}, BoxAt W g b q → BoxAt W' g b q := fun {g b q} hb =>
    (hg.block g (by have := lt_of_block hb; simp; omega) (own_ne' ho hb (by decide))).trans ((Below.heap_alloc _ _ _ (lt_of_block hb)).trans hb)
  exact ⟨k h.1, k h.2.1, k h.2.2.1, k h.2.2.2.1, h.2.2.2.2.grown (World_grown_alloc hg) (by have := h.2.2.2.2.size; omega) (own_block_ge ho)⟩
/-- Behind the store of the longer row. -/
theorem AddW.stored {B : Nat} {w : World} {x y z : Bool} {u v o o' : Value} {W : World} (h : AddW B w x y z u v o W) : AddW B w x y z u v o' (W.setCell ⟨B + 1 + 1 + 1, 1, none⟩ o') :=
  ⟨h.1.other (by omega), h.2.1.other (by omega), h.2.2.1.other (by omega), h.2.2.2.1.set1 _, h.2.2.2.2.setCell (p := ⟨B + 1 + 1 + 1, 1, none⟩) (by show B ≤ B + 1 + 1 + 1; omega) _⟩
/-- Two numbers' boxes, and the result's. -/
def A3 (B : Nat) (w : World) (x y : Bool) (u v : Value) (W : World) : Prop :=
  BoxAt W B x u ∧ BoxAt W (B + 1) y v ∧ BoxAt W (B + 1 + 1) false (.slice none 0 0) ∧ Below B w W ∧ W.heap.size = B + 1 + 1 + 1
theorem A3.add {B : Nat} {w : World} {x y : Bool} {u v : Value} {W : World} (h : A3 B w x y u v W) (hB : B = w.heap.size) (z : Bool) : AddW B w x y z u v (.slice none 0 0) (W.alloc (.cells #[.bool z, .slice none 0 0] 71)) := by
  have hb := (Below.refl W.heap.size W).alloc (Nat.le_refl _) (.cells #[.bool z, .slice none 0 0] 71)
  exact ⟨h.1.below hb, h.2.1.below hb, h.2.2.1.below hb, by rw [← h.2.2.2.2]; exact BoxAt.new W z _, bB hB h.2.2.2.1 hb⟩
theorem A3.swap {B : Nat} {w : World} {x y : Bool} {a b : Option Addr} {n m ca cb : Nat} {W : World} (h : A3 B w x y (.slice a n ca) (.slice b m cb) W) :
    A3 B w y x (.slice b m cb) (.slice a n ca) ((W.setRow B #[.bool y, .slice b m cb]).setRow (B + 1) #[.bool x, .slice a n ca]) := by
  have h1 := setRow_heap W B _ #[.bool y, .slice b m cb] 71 (0, 0) h.1
  have h2 : (W.setRow B #[.bool y, .slice b m cb]).heap[B + 1]? = some (.cells #[.bool y, .slice b m cb] 71 (0, 0)) := by rw [setRow_other _ _ _ _ (by omega)]; exact h.2.1
  have h3 := setRow_heap (W.setRow B #[.bool y, .slice b m cb]) (B + 1) _ #[.bool x, .slice a n ca] 71 (0, 0) h2
  refine ⟨?_, h3, ?_, below_rowB (below_rowB h.2.2.2.1 (Nat.le_refl _)) (by omega), by simpa using h.2.2.2.2⟩
  · show _ = _; rw [setRow_other _ _ _ _ (by omega)]; exact h1
  · show _ = _; rw [setRow_other _ _ _ _ (by omega), setRow_other _ _ _ _ (by omega)]; exact h.2.2.1

set_option maxRecDepth 100000 in
set_option maxHeartbeats 1000000 in
theorem add13 (v1 v2 : Value) (z1 z2 : Int) (w : World) (h1 : BigIs w v1 z1) (h2 : BigIs w v2 z2) (hz1 : z1.natAbs < 10000 ^ 100) (hz2 : z2.natAbs < 10000 ^ 100) :
    Calls Try.prog 33 #[v1, v2] w fun e w' => RetBig w.heap.size w (z1 + z2) e w' := by
  obtain ⟨x, a, la, ca, rfl, hda, hca, hga, hta, hxa, hz1e⟩ := h1
  obtain ⟨y, b, lb, cb, rfl, hdb, hcb, hgb, htb, hxb, hz2e⟩ := h2
  have hn : la.length ≤ 100 := len_le hta 100 (by rw [hz1e] at hz1; cases x <;> simpa [sgn] using hz1)
  have hm : lb.length ≤ 100 := len_le htb 100 (by rw [hz2e] at hz2; cases y <;> simpa [sgn] using hz2)
  obtain ⟨n, hla⟩ : ∃ n, la.length = n := ⟨_, rfl⟩
  obtain ⟨m, hlb⟩ : ∃ n, lb.length = n := ⟨_, rfl⟩
  rw [hla] at hn hca ⊢
  rw [hlb] at hm hcb ⊢
  obtain ⟨B, hB⟩ : ∃ B, B = w.heap.size := ⟨_, rfl⟩
  rw [← hB]
  have HA := Lib.hid (fun (i : Nat) (W : World) (hb : Below B w W) => at25q a la n ca i W hla (hda.below' hB hb))
  have HBB := Lib.hid (fun (i : Nat) (W : World) (hb : Below B w W) => at25q b lb m cb i W hlb (hdb.below' hB hb))
  have HLS := Lib.hid (fun (W : World) (hb : Below B w W) => less27 a b la lb n m ca cb W hla hlb (hda.below' hB hb) (hdb.below' hB hb) hga hgb (by omega) (by omega))
  have HGA := Lib.hid hga; have HGB := Lib.hid hgb; have HLA := Lib.hid hla; have HLB := Lib.hid hlb
  have HZ1 := Lib.hid hz1e; have HZ2 := Lib.hid hz2e
  have HB := Lib.hid hB
  have HTR := Lib.hid (fun (z : Bool) (c : Option Addr) (l : List Nat) (k cap : Nat) (W : World) => trimB z c l k cap W)
  obtain ⟨i0, hi, hz0, hz11, hz22⟩ := info_parts info3
  have hz1 := hz11
  have hz2 := hz22
  obtain ⟨N, hN⟩ : ∃ N, N = max n m := ⟨_, rfl⟩
  have hN1 : n ≤ N := by omega
  have hN2 : m ≤ N := by omega
  have hN3 : N ≤ 100 := by omega
  have hcs : ((m : Int) > (n : Int) ∧ N = m) ∨ (¬ (m : Int) > (n : Int) ∧ N = n) := by omega
  clear hda hdb hga hgb hta htb hxa hxb hla hlb hz1e hz2e hB hN hz11 hz22
  by_cases hxy : x = y
  · subst hxy
    rcases hcs with ⟨hmn, hNm⟩ | ⟨hmn, hNm⟩
    · subst hNm
      go_enter Try.func33, Try.ntmps33
      go_upto_region 8 with (fail)
      rw [← HB.out]
      refine at_world (Φ := fun W => AddW B w x x x (.slice a n ca) (.slice b N cb) (.slice none 0 0) W) ?_ ?_
      · obtain ⟨k1, k2, k3, k4, k5⟩ := four_alloc (w := w) (A := .cells #[.bool x, .slice a n ca] 71) (B := .cells #[.bool x, .slice b N cb] 71) (C := .cells #[.bool false, .slice none 0 0] 71) (D := .cells #[.bool x, .slice none 0 0] 71)
        rw [← HB.out] at k1 k2 k3 k4 k5
        exact ⟨k1, k2, k3, k4, k5⟩
      rintro W0 hW0
      have HW0 := Lib.hid hW0
      clear hW0
      go_loopw [7, 8] (fun vc vi W => SumRel B w x x x (.slice a n ca) (.slice b N cb) la lb N vc vi W) (fun _ vi _ => N + 1 - (intOf vi).toNat)
      case atStart => exact ⟨0, 0, [], _, by omega, rfl, rfl, by omega, HW0.out, World.ownsRow_nil _ _ _ _, rfl, digsD_nil, by simp [valD]⟩
      case round =>
        obtain ⟨i, c, out, o, hi', rfl, rfl, hc1, hW, hO, hlen, hg, hv⟩ := hrel
        have HWR := Lib.hid hW; have HO := Lib.hid hO; have HL := Lib.hid hlen; have HG := Lib.hid hg; have HV := Lib.hid hv; have HBL := Lib.hid hW.lo
        have ca1 := hW.1.c1; have cb1 := hW.2.1.c1; have co1 := hW.2.2.2.1.c1
        by_cases hlt : (i : Int) ≤ (N : Int)
        · have HS := Lib.hid (sum_step hlen hg hv)
          have da := digsD_getD HGA.out i
          have db := digsD_getD HGB.out i
          have HAi := Lib.hid (HA.out i); have HBi := Lib.hid (HBB.out i)
          obtain ⟨p, hp⟩ : ∃ p, la.getD i 0 = p := ⟨_, rfl⟩
          obtain ⟨q, hq⟩ : ∃ p, lb.getD i 0 = p := ⟨_, rfl⟩
          rw [hp] at HS da HAi
          rw [hq] at HS db HBi
          obtain ⟨r, hr⟩ : ∃ r, (p + q + c) % 10000 = r := ⟨_, rfl⟩
          obtain ⟨d, hd⟩ : ∃ r, (p + q + c) / 10000 = r := ⟨_, rfl⟩
          rw [hr, hd] at HS
          have e1 : ((p : Int) + (q : Int) + (c : Int)).tmod 10000 = (r : Int) := by rw [Int.tmod_eq_emod_of_nonneg (by omega)]; omega
          have e2 : ((p : Int) + (q : Int) + (c : Int)) % 10000 = (r : Int) := by omega
          have e3 : ((p : Int) + (q : Int) + (c : Int)).tdiv 10000 = (d : Int) := by rw [Int.tdiv_eq_ediv_of_nonneg (by omega)]; omega
          have e4 : ((p : Int) + (q : Int) + (c : Int)) / 10000 = (d : Int) := by omega
          have d1 : d ≤ 1 := by omega
          have r1 : r < 10000 := by omega
          have HL1 := Lib.hid (show (out ++ [r]).length = i + 1 by simp [hlen])
          have HCD := Lib.hid (cellsD_app out [r])
          clear hW hO hlen hg hv hp hq hr hd
          go_upto_region 10 with (fail)
          go_quiet (first
        | (go_at_call_of 57 (Value.slice a n ca); exact Calls.quiet_of_same (HAi.out _ (by first | exact HBL.out | exact HBL.out.drew | exact below_drewN' HBL.out _)))
        | (go_at_call_of 57 (Value.slice b N cb); exact Calls.quiet_of_same (HBi.out _ (by first | exact HBL.out | exact HBL.out.drew | exact below_drewN' HBL.out _))))
          go_upto_region 11 with (first
            | (go_at_call_of 57 (Value.slice a n ca); refine (HAi.out _ (by first | exact HBL.out | exact HBL.out.drew | exact below_drewN' HBL.out _)).mono ?_; rintro e w' ⟨rfl, rfl⟩)
            | (go_at_call_of 57 (Value.slice b N cb); refine (HBi.out _ (by first | exact HBL.out | exact HBL.out.drew | exact below_drewN' HBL.out _)).mono ?_; rintro e w' ⟨rfl, rfl⟩))
          clear ca1 cb1 co1
          refine at_world (Φ := fun W => AddW B w x x x (.slice a n ca) (.slice b N cb) o W ∧ W.ownsRow B 3 1 o i (cellsD out)) ⟨HWR.out.below HB.out (below_drews _), own_below' HO.out (below_drews _)⟩ ?_
          rintro wq ⟨hwq, hoq⟩
          have HWQ := Lib.hid hwq; have HOQ := Lib.hid hoq
          have co2 := hwq.2.2.2.1.c1
          clear hwq hoq
          go_wp2_with (at_builtin; refine wpList_append_own _ rfl _ _ 69 rfl B 3 i0 (.int .i64 0) 1 8 Try.underlying69 hi hz0 hz1 hz2 rfl (by decide) _ _ _ rfl (HOQ.out.alloc _) ⟨wq.heap.size, 0, none⟩ 1 1 [.int .i64 (r : Int)] rfl rfl (new_one _ _ _) (one_cell_int _) (by unfold maxLen; omega) (by omega) (by have := HWQ.out.lo.size; have := HB.out; simp; omega) ?_; intro v' w3 hown' hgrow _; obtain ⟨gb, cpb, hv'⟩ := own_shape' hown' (by omega); subst hv'; have HO3 := Lib.hid hown'; have HW3 := Lib.hid (HWQ.out.grown HB.out HOQ.out hgrow); have c3 := HW3.out.2.2.2.1.c1; have f3 := HW3.out.2.2.2.1.f 1; clear hown' hgrow)
          go_roundw
          case rel => exact ⟨i + 1, d, out ++ [r], _, by omega, by go_num, rfl, d1, HW3.out.stored, by rw [HCD.out]; exact own_set' HO3.out HW3.out.2.2.2.1 (by decide), HL1.out, HS.out.1, HS.out.2⟩
          case measure => simp [intOf] <;> omega
        · have hiN : i = N + 1 := by omega
          subst hiN
          have HEND := Lib.hid (sum_end HGA.out HGB.out (by rw [HLA.out]; exact hN1) (by rw [HLB.out]; exact hN2) hv)
          obtain ⟨ao, co, hov, hcap, _, hdo⟩ := digs_of_own (by rw [hlen]; exact hO)
          rw [hlen] at hov hcap
          subst hov
          have HT := Lib.hid (HTR.out x ao out (N + 1) co wr hlen hdo hg hcap (by omega))
          clear hW hO hlen hg hv hdo
          go_upto_region 13 with (fail)
          go_wp2_with (first
            | (refine wpList_load_row rfl 71 (.tmp 6) rfl (B + 1 + 1 + 1) rfl 71 #[.bool x, .slice ao (N + 1) co] (0, 0) _ HWR.out.2.2.2.1 Try.underlying71 rfl info25 ?_)
            | (go_at_call 58; refine HT.out.mono ?_; rintro e w5 ⟨xt, at', kt, ct, rfl, hbig, hb5⟩; have HBIG := Lib.hid hbig; have HB5 := Lib.hid hb5; have HR5 := Lib.hid (HWR.out.2.2.1.below hb5); clear hbig hb5)
            | (refine wpList_store_row rfl 71 (.tmp 4) (.tmp 59) rfl (B + 1 + 1) #[.bool xt, .slice at' kt ct] rfl rfl 71 #[.bool false, .slice none 0 0] HR5.out info25 rfl (one25 _ _ _ _) ?_))
          refine ret_cell (p := 4) (ty := 71) (by kernel_rfl) rfl rfl (setRow_heap _ _ _ _ 71 (0, 0) HR5.out) Try.underlying71 rfl info25 ⟨xt, at', kt, ct, rfl, ?_, below_rowB (bB HB.out HWR.out.lo HB5.out) (by omega)⟩
          have hb := HBIG.out.boxRow HR5.out #[.bool xt, .slice at' kt ct]
          rw [HEND.out] at hb
          rw [HZ1.out, HZ2.out]
          rwa [show sgn x (valD la + valD lb) = sgn x (valD la) + sgn x (valD lb) by cases x <;> simp [sgn]; omega] at hb
    · subst hNm
      go_enter Try.func33, Try.ntmps33
      go_upto_region 8 with (fail)
      rw [← HB.out]
      refine at_world (Φ := fun W => AddW B w x x x (.slice a N ca) (.slice b m cb) (.slice none 0 0) W) ?_ ?_
      · obtain ⟨k1, k2, k3, k4, k5⟩ := four_alloc (w := w) (A := .cells #[.bool x, .slice a N ca] 71) (B := .cells #[.bool x, .slice b m cb] 71) (C := .cells #[.bool false, .slice none 0 0] 71) (D := .cells #[.bool x, .slice none 0 0] 71)
        rw [← HB.out] at k1 k2 k3 k4 k5
        exact ⟨k1, k2, k3, k4, k5⟩
      rintro W0 hW0
      have HW0 := Lib.hid hW0
      clear hW0
      go_loopw [7, 8] (fun vc vi W => SumRel B w x x x (.slice a N ca) (.slice b m cb) la lb N vc vi W) (fun _ vi _ => N + 1 - (intOf vi).toNat)
      case atStart => exact ⟨0, 0, [], _, by omega, rfl, rfl, by omega, HW0.out, World.ownsRow_nil _ _ _ _, rfl, digsD_nil, by simp [valD]⟩
      case round =>
        obtain ⟨i, c, out, o, hi', rfl, rfl, hc1, hW, hO, hlen, hg, hv⟩ := hrel
        have HWR := Lib.hid hW; have HO := Lib.hid hO; have HL := Lib.hid hlen; have HG := Lib.hid hg; have HV := Lib.hid hv; have HBL := Lib.hid hW.lo
        have ca1 := hW.1.c1; have cb1 := hW.2.1.c1; have co1 := hW.2.2.2.1.c1
        by_cases hlt : (i : Int) ≤ (N : Int)
        · have HS := Lib.hid (sum_step hlen hg hv)
          have da := digsD_getD HGA.out i
          have db := digsD_getD HGB.out i
          have HAi := Lib.hid (HA.out i); have HBi := Lib.hid (HBB.out i)
          obtain ⟨p, hp⟩ : ∃ p, la.getD i 0 = p := ⟨_, rfl⟩
          obtain ⟨q, hq⟩ : ∃ p, lb.getD i 0 = p := ⟨_, rfl⟩
          rw [hp] at HS da HAi
          rw [hq] at HS db HBi
          obtain ⟨r, hr⟩ : ∃ r, (p + q + c) % 10000 = r := ⟨_, rfl⟩
          obtain ⟨d, hd⟩ : ∃ r, (p + q + c) / 10000 = r := ⟨_, rfl⟩
          rw [hr, hd] at HS
          have e1 : ((p : Int) + (q : Int) + (c : Int)).tmod 10000 = (r : Int) := by rw [Int.tmod_eq_emod_of_nonneg (by omega)]; omega
          have e2 : ((p : Int) + (q : Int) + (c : Int)) % 10000 = (r : Int) := by omega
          have e3 : ((p : Int) + (q : Int) + (c : Int)).tdiv 10000 = (d : Int) := by rw [Int.tdiv_eq_ediv_of_nonneg (by omega)]; omega
          have e4 : ((p : Int) + (q : Int) + (c : Int)) / 10000 = (d : Int) := by omega
          have d1 : d ≤ 1 := by omega
          have r1 : r < 10000 := by omega
          have HL1 := Lib.hid (show (out ++ [r]).length = i + 1 by simp [hlen])
          have HCD := Lib.hid (cellsD_app out [r])
          clear hW hO hlen hg hv hp hq hr hd
          go_upto_region 10 with (fail)
          go_quiet (first
        | (go_at_call_of 57 (Value.slice a N ca); exact Calls.quiet_of_same (HAi.out _ (by first | exact HBL.out | exact HBL.out.drew | exact below_drewN' HBL.out _)))
        | (go_at_call_of 57 (Value.slice b m cb); exact Calls.quiet_of_same (HBi.out _ (by first | exact HBL.out | exact HBL.out.drew | exact below_drewN' HBL.out _))))
          go_upto_region 11 with (first
            | (go_at_call_of 57 (Value.slice a N ca); refine (HAi.out _ (by first | exact HBL.out | exact HBL.out.drew | exact below_drewN' HBL.out _)).mono ?_; rintro e w' ⟨rfl, rfl⟩)
            | (go_at_call_of 57 (Value.slice b m cb); refine (HBi.out _ (by first | exact HBL.out | exact HBL.out.drew | exact below_drewN' HBL.out _)).mono ?_; rintro e w' ⟨rfl, rfl⟩))
          clear ca1 cb1 co1
          refine at_world (Φ := fun W => AddW B w x x x (.slice a N ca) (.slice b m cb) o W ∧ W.ownsRow B 3 1 o i (cellsD out)) ⟨HWR.out.below HB.out (below_drews _), own_below' HO.out (below_drews _)⟩ ?_
          rintro wq ⟨hwq, hoq⟩
          have HWQ := Lib.hid hwq; have HOQ := Lib.hid hoq
          have co2 := hwq.2.2.2.1.c1
          clear hwq hoq
          go_wp2_with (at_builtin; refine wpList_append_own _ rfl _ _ 69 rfl B 3 i0 (.int .i64 0) 1 8 Try.underlying69 hi hz0 hz1 hz2 rfl (by decide) _ _ _ rfl (HOQ.out.alloc _) ⟨wq.heap.size, 0, none⟩ 1 1 [.int .i64 (r : Int)] rfl rfl (new_one _ _ _) (one_cell_int _) (by unfold maxLen; omega) (by omega) (by have := HWQ.out.lo.size; have := HB.out; simp; omega) ?_; intro v' w3 hown' hgrow _; obtain ⟨gb, cpb, hv'⟩ := own_shape' hown' (by omega); subst hv'; have HO3 := Lib.hid hown'; have HW3 := Lib.hid (HWQ.out.grown HB.out HOQ.out hgrow); have c3 := HW3.out.2.2.2.1.c1; have f3 := HW3.out.2.2.2.1.f 1; clear hown' hgrow)
          go_roundw
          case rel => exact ⟨i + 1, d, out ++ [r], _, by omega, by go_num, rfl, d1, HW3.out.stored, by rw [HCD.out]; exact own_set' HO3.out HW3.out.2.2.2.1 (by decide), HL1.out, HS.out.1, HS.out.2⟩
          case measure => simp [intOf] <;> omega
        · have hiN : i = N + 1 := by omega
          subst hiN
          have HEND := Lib.hid (sum_end HGA.out HGB.out (by rw [HLA.out]; exact hN1) (by rw [HLB.out]; exact hN2) hv)
          obtain ⟨ao, co, hov, hcap, _, hdo⟩ := digs_of_own (by rw [hlen]; exact hO)
          rw [hlen] at hov hcap
          subst hov
          have HT := Lib.hid (HTR.out x ao out (N + 1) co wr hlen hdo hg hcap (by omega))
          clear hW hO hlen hg hv hdo
          go_upto_region 13 with (fail)
          go_wp2_with (first
            | (refine wpList_load_row rfl 71 (.tmp 6) rfl (B + 1 + 1 + 1) rfl 71 #[.bool x, .slice ao (N + 1) co] (0, 0) _ HWR.out.2.2.2.1 Try.underlying71 rfl info25 ?_)
            | (go_at_call 58; refine HT.out.mono ?_; rintro e w5 ⟨xt, at', kt, ct, rfl, hbig, hb5⟩; have HBIG := Lib.hid hbig; have HB5 := Lib.hid hb5; have HR5 := Lib.hid (HWR.out.2.2.1.below hb5); clear hbig hb5)
            | (refine wpList_store_row rfl 71 (.tmp 4) (.tmp 59) rfl (B + 1 + 1) #[.bool xt, .slice at' kt ct] rfl rfl 71 #[.bool false, .slice none 0 0] HR5.out info25 rfl (one25 _ _ _ _) ?_))
          refine ret_cell (p := 4) (ty := 71) (by kernel_rfl) rfl rfl (setRow_heap _ _ _ _ 71 (0, 0) HR5.out) Try.underlying71 rfl info25 ⟨xt, at', kt, ct, rfl, ?_, below_rowB (bB HB.out HWR.out.lo HB5.out) (by omega)⟩
          have hb := HBIG.out.boxRow HR5.out #[.bool xt, .slice at' kt ct]
          rw [HEND.out] at hb
          rw [HZ1.out, HZ2.out]
          rwa [show sgn x (valD la + valD lb) = sgn x (valD la) + sgn x (valD lb) by cases x <;> simp [sgn]; omega] at hb
  · have HXY := Lib.hid hxy
    have hxb : (x == y) = false := by simpa using hxy
    by_cases hlt : valD la < valD lb
    · have HLE := Lib.hid (Nat.le_of_lt hlt)
      have HLT := Lib.hid hlt
      clear hlt hxy
      rcases hcs with ⟨hmn, hNm⟩ | ⟨hmn, hNm⟩
      · subst hNm
        go_enter Try.func33, Try.ntmps33
        go_upto_region 14 with (fail)
        rw [← HB.out]
        refine at_world (Φ := fun W => A3 B w x y (.slice a n ca) (.slice b N cb) W) ?_ ?_
        · obtain ⟨k1, k2, k3, k5⟩ := three_alloc (w := w) (A := .cells #[.bool x, .slice a n ca] 71) (B := .cells #[.bool y, .slice b N cb] 71) (C := .cells #[.bool false, .slice none 0 0] 71)
          exact ⟨by rw [HB.out]; exact k1, by rw [HB.out]; exact k2, by rw [HB.out]; exact k3, by rw [HB.out]; exact k5, by rw [HB.out]; simp⟩
        rintro W0 hW0
        have HW0 := Lib.hid hW0
        have ca1 := hW0.1.c1; have cb1 := hW0.2.1.c1
        have HLS0 := Lib.hid (HLS.out W0 hW0.2.2.2.1)
        rw [decide_eq_true HLT.out] at HLS0
        clear hW0
        go_upto_region 15 with (go_at_call 59; refine HLS0.out.mono ?_; rintro e w' ⟨rfl, rfl⟩)
        clear ca1 cb1
        have hr1 := setRow_heap W0 B _ #[.bool y, .slice b N cb] 71 (0, 0) HW0.out.1
        have HR2 := Lib.hid (show (W0.setRow B #[.bool y, .slice b N cb]).heap[B + 1]? = some (.cells #[.bool y, .slice b N cb] 71 (0, 0)) by rw [setRow_other _ _ _ _ (by omega)]; exact HW0.out.2.1)
        clear hr1
        go_upto_region 16 with (first
          | (refine wpList_load_row rfl 71 (.tmp 3) rfl (B + 1) rfl 71 #[.bool y, .slice b N cb] (0, 0) _ HW0.out.2.1 Try.underlying71 rfl info25 ?_)
          | (refine wpList_load_row rfl 71 (.tmp 2) rfl B rfl 71 #[.bool x, .slice a n ca] (0, 0) _ HW0.out.1 Try.underlying71 rfl info25 ?_)
          | (refine wpList_store_row rfl 71 (.tmp 2) (.tmp 65) rfl B #[.bool y, .slice b N cb] rfl rfl 71 #[.bool x, .slice a n ca] HW0.out.1 info25 rfl (one25 _ _ _ _) ?_)
          | (refine wpList_store_row rfl 71 (.tmp 3) (.tmp 66) rfl (B + 1) #[.bool x, .slice a n ca] rfl rfl 71 #[.bool y, .slice b N cb] HR2.out info25 rfl (one25 _ _ _ _) ?_))
        refine at_world (Φ := fun W => A3 B w y x (.slice b N cb) (.slice a n ca) W) HW0.out.swap ?_
        rintro W1 hW1
        have HW1 := Lib.hid hW1
        clear hW1
        have cs0 := HW1.out.1.c0
        have hsz := HW1.out.2.2.2.2
        go_upto_region 19 with (fail)
        try rw [hsz]
        clear cs0 hsz
        refine at_world (Φ := fun W => AddW B w y x y (.slice b N cb) (.slice a n ca) (.slice none 0 0) W) (HW1.out.add HB.out _) ?_
        rintro W2 hW2
        have HW2 := Lib.hid hW2
        clear hW2
        go_loopw [11, 12] (fun vc vi W => SubRel B w y x y (.slice b N cb) (.slice a n ca) lb la N vc vi W) (fun _ vi _ => N - (intOf vi).toNat)
        case atStart => exact ⟨0, 0, [], _, by omega, rfl, rfl, by omega, HW2.out, World.ownsRow_nil _ _ _ _, rfl, digsD_nil, by simp [valD]⟩
        case round =>
          obtain ⟨i, c, out, o, hi', rfl, rfl, hc1, hW, hO, hlen, hg, hv⟩ := hrel
          have HWR := Lib.hid hW; have HO := Lib.hid hO; have HL := Lib.hid hlen; have HG := Lib.hid hg; have HV := Lib.hid hv; have HBL := Lib.hid hW.lo
          have ca2 := hW.1.c1; have cb2 := hW.2.1.c1; have co1 := hW.2.2.2.1.c1
          by_cases hlt : (i : Int) < (N : Int)
          · have HS := Lib.hid (sub_step hlen hg hv)
            have da := digsD_getD HGB.out i
            have db := digsD_getD HGA.out i
            have HAi := Lib.hid (HBB.out i); have HBi := Lib.hid (HA.out i)
            obtain ⟨p, hp⟩ : ∃ p, List.getD lb i 0 = p := ⟨_, rfl⟩
            obtain ⟨q, hq⟩ : ∃ p, List.getD la i 0 = p := ⟨_, rfl⟩
            rw [hp] at HS da HAi
            rw [hq] at HS db HBi
            clear hW hO hg hv hp hq
            by_cases hneg : (p : Int) - (q : Int) - (c : Int) < 0
            · obtain ⟨r, hr⟩ : ∃ r, p + 10000 - q - c = r := ⟨_, rfl⟩
              have e1 : (p : Int) - (q : Int) - (c : Int) + 10000 = (r : Int) := by omega
              have r1 : r < 10000 := by omega
              have HST := Lib.hid (HS.out r 1 (by omega) r1)
              have HL1 := Lib.hid (show (out ++ [r]).length = i + 1 by simp [hlen])
              have HCD := Lib.hid (cellsD_app out [r])
              clear hr hlen
              go_upto_region 21 with (fail)
              go_quiet (first
          | (go_at_call_of 57 (Value.slice b N cb); exact Calls.quiet_of_same (HAi.out _ (by first | exact HBL.out | exact HBL.out.drew | exact below_drewN' HBL.out _)))
          | (go_at_call_of 57 (Value.slice a n ca); exact Calls.quiet_of_same (HBi.out _ (by first | exact HBL.out | exact HBL.out.drew | exact below_drewN' HBL.out _))))
              go_upto_region 26 with (first
                | (go_at_call_of 57 (Value.slice b N cb); refine (HAi.out _ (by first | exact HBL.out | exact HBL.out.drew | exact below_drewN' HBL.out _)).mono ?_; rintro e w' ⟨rfl, rfl⟩)
                | (go_at_call_of 57 (Value.slice a n ca); refine (HBi.out _ (by first | exact HBL.out | exact HBL.out.drew | exact below_drewN' HBL.out _)).mono ?_; rintro e w' ⟨rfl, rfl⟩))
              clear ca2 cb2 co1
              refine at_world (Φ := fun W => AddW B w y x y (.slice b N cb) (.slice a n ca) o W ∧ W.ownsRow B 3 1 o i (cellsD out)) ⟨HWR.out.below HB.out (below_drews _), own_below' HO.out (below_drews _)⟩ ?_
              rintro wq ⟨hwq, hoq⟩
              have HWQ := Lib.hid hwq; have HOQ := Lib.hid hoq
              have co2 := hwq.2.2.2.1.c1
              clear hwq hoq
              go_wp2_with (at_builtin; refine wpList_append_own _ rfl _ _ 69 rfl B 3 i0 (.int .i64 0) 1 8 Try.underlying69 hi hz0 hz1 hz2 rfl (by decide) _ _ _ rfl (HOQ.out.alloc _) ⟨wq.heap.size, 0, none⟩ 1 1 [.int .i64 (r : Int)] rfl rfl (new_one _ _ _) (one_cell_int _) (by unfold maxLen; omega) (by omega) (by have := HWQ.out.lo.size; have := HB.out; simp; omega) ?_; intro v' w3 hown' hgrow _; obtain ⟨gb, cpb, hv'⟩ := own_shape' hown' (by omega); subst hv'; have HO3 := Lib.hid hown'; have HW3 := Lib.hid (HWQ.out.grown HB.out HOQ.out hgrow); have c3 := HW3.out.2.2.2.1.c1; have f3 := HW3.out.2.2.2.1.f 1; clear hown' hgrow)
              go_roundw
              case rel => exact ⟨i + 1, 1, out ++ [r], _, by omega, by go_num, rfl, by omega, HW3.out.stored, by rw [HCD.out]; exact own_set' HO3.out HW3.out.2.2.2.1 (by decide), HL1.out, HST.out.1, HST.out.2⟩
              case measure => simp [intOf] <;> omega
            · obtain ⟨r, hr⟩ : ∃ r, p - q - c = r := ⟨_, rfl⟩
              have e1 : (p : Int) - (q : Int) - (c : Int) = (r : Int) := by omega
              have r1 : r < 10000 := by omega
              have HST := Lib.hid (HS.out r 0 (by omega) r1)
              have HL1 := Lib.hid (show (out ++ [r]).length = i + 1 by simp [hlen])
              have HCD := Lib.hid (cellsD_app out [r])
              clear hr hlen
              go_upto_region 21 with (fail)
              go_quiet (first
          | (go_at_call_of 57 (Value.slice b N cb); exact Calls.quiet_of_same (HAi.out _ (by first | exact HBL.out | exact HBL.out.drew | exact below_drewN' HBL.out _)))
          | (go_at_call_of 57 (Value.slice a n ca); exact Calls.quiet_of_same (HBi.out _ (by first | exact HBL.out | exact HBL.out.drew | exact below_drewN' HBL.out _))))
              go_upto_region 26 with (first
                | (go_at_call_of 57 (Value.slice b N cb); refine (HAi.out _ (by first | exact HBL.out | exact HBL.out.drew | exact below_drewN' HBL.out _)).mono ?_; rintro e w' ⟨rfl, rfl⟩)
                | (go_at_call_of 57 (Value.slice a n ca); refine (HBi.out _ (by first | exact HBL.out | exact HBL.out.drew | exact below_drewN' HBL.out _)).mono ?_; rintro e w' ⟨rfl, rfl⟩))
              clear ca2 cb2 co1
              refine at_world (Φ := fun W => AddW B w y x y (.slice b N cb) (.slice a n ca) o W ∧ W.ownsRow B 3 1 o i (cellsD out)) ⟨HWR.out.below HB.out (below_drews _), own_below' HO.out (below_drews _)⟩ ?_
              rintro wq ⟨hwq, hoq⟩
              have HWQ := Lib.hid hwq; have HOQ := Lib.hid hoq
              have co2 := hwq.2.2.2.1.c1
              clear hwq hoq
              go_wp2_with (at_builtin; refine wpList_append_own _ rfl _ _ 69 rfl B 3 i0 (.int .i64 0) 1 8 Try.underlying69 hi hz0 hz1 hz2 rfl (by decide) _ _ _ rfl (HOQ.out.alloc _) ⟨wq.heap.size, 0, none⟩ 1 1 [.int .i64 (r : Int)] rfl rfl (new_one _ _ _) (one_cell_int _) (by unfold maxLen; omega) (by omega) (by have := HWQ.out.lo.size; have := HB.out; simp; omega) ?_; intro v' w3 hown' hgrow _; obtain ⟨gb, cpb, hv'⟩ := own_shape' hown' (by omega); subst hv'; have HO3 := Lib.hid hown'; have HW3 := Lib.hid (HWQ.out.grown HB.out HOQ.out hgrow); have c3 := HW3.out.2.2.2.1.c1; have f3 := HW3.out.2.2.2.1.f 1; clear hown' hgrow)
              go_roundw
              case rel => exact ⟨i + 1, 0, out ++ [r], _, by omega, by go_num, rfl, by omega, HW3.out.stored, by rw [HCD.out]; exact own_set' HO3.out HW3.out.2.2.2.1 (by decide), HL1.out, HST.out.1, HST.out.2⟩
              case measure => simp [intOf] <;> omega
          · have hiN : i = N := by omega
            subst hiN
            have HEND := Lib.hid (sub_end hg hlen (by rw [HLB.out]; omega) (by rw [HLA.out]; omega) HLE.out hv)
            obtain ⟨ao, co, hov, hcap, _, hdo⟩ := digs_of_own (by rw [hlen]; exact hO)
            rw [hlen] at hov hcap
            subst hov
            have HT := Lib.hid (HTR.out y ao out i co wr hlen hdo hg hcap (by omega))
            clear hW hO hlen hg hv hdo
            go_upto_region 27 with (fail)
            go_wp2_with (first
              | (refine wpList_load_row rfl 71 (.tmp 10) rfl (B + 1 + 1 + 1) rfl 71 #[.bool y, .slice ao i co] (0, 0) _ HWR.out.2.2.2.1 Try.underlying71 rfl info25 ?_)
              | (go_at_call 58; refine HT.out.mono ?_; rintro e w5 ⟨xt, at', kt, ct, rfl, hbig, hb5⟩; have HBIG := Lib.hid hbig; have HB5 := Lib.hid hb5; have HR5 := Lib.hid (HWR.out.2.2.1.below hb5); clear hbig hb5)
              | (refine wpList_store_row rfl 71 (.tmp 4) (.tmp 97) rfl (B + 1 + 1) #[.bool xt, .slice at' kt ct] rfl rfl 71 #[.bool false, .slice none 0 0] HR5.out info25 rfl (one25 _ _ _ _) ?_))
            refine ret_cell (p := 4) (ty := 71) (by kernel_rfl) rfl rfl (setRow_heap _ _ _ _ 71 (0, 0) HR5.out) Try.underlying71 rfl info25 ⟨xt, at', kt, ct, rfl, ?_, below_rowB (bB HB.out HWR.out.lo HB5.out) (by omega)⟩
            have hb := HBIG.out.boxRow HR5.out #[.bool xt, .slice at' kt ct]
            rw [HZ1.out, HZ2.out]
            have he := HEND.out
            have hxy' := HXY.out
            rwa [show sgn y (valD out) = sgn x (valD la) + sgn y (valD lb) by cases x <;> cases y <;> simp [sgn] at hxy' ⊢ <;> omega] at hb
      · subst hNm
        go_enter Try.func33, Try.ntmps33
        go_upto_region 14 with (fail)
        rw [← HB.out]
        refine at_world (Φ := fun W => A3 B w x y (.slice a N ca) (.slice b m cb) W) ?_ ?_
        · obtain ⟨k1, k2, k3, k5⟩ := three_alloc (w := w) (A := .cells #[.bool x, .slice a N ca] 71) (B := .cells #[.bool y, .slice b m cb] 71) (C := .cells #[.bool false, .slice none 0 0] 71)
          exact ⟨by rw [HB.out]; exact k1, by rw [HB.out]; exact k2, by rw [HB.out]; exact k3, by rw [HB.out]; exact k5, by rw [HB.out]; simp⟩
        rintro W0 hW0
        have HW0 := Lib.hid hW0
        have ca1 := hW0.1.c1; have cb1 := hW0.2.1.c1
        have HLS0 := Lib.hid (HLS.out W0 hW0.2.2.2.1)
        rw [decide_eq_true HLT.out] at HLS0
        clear hW0
        go_upto_region 15 with (go_at_call 59; refine HLS0.out.mono ?_; rintro e w' ⟨rfl, rfl⟩)
        clear ca1 cb1
        have hr1 := setRow_heap W0 B _ #[.bool y, .slice b m cb] 71 (0, 0) HW0.out.1
        have HR2 := Lib.hid (show (W0.setRow B #[.bool y, .slice b m cb]).heap[B + 1]? = some (.cells #[.bool y, .slice b m cb] 71 (0, 0)) by rw [setRow_other _ _ _ _ (by omega)]; exact HW0.out.2.1)
        clear hr1
        go_upto_region 16 with (first
          | (refine wpList_load_row rfl 71 (.tmp 3) rfl (B + 1) rfl 71 #[.bool y, .slice b m cb] (0, 0) _ HW0.out.2.1 Try.underlying71 rfl info25 ?_)
          | (refine wpList_load_row rfl 71 (.tmp 2) rfl B rfl 71 #[.bool x, .slice a N ca] (0, 0) _ HW0.out.1 Try.underlying71 rfl info25 ?_)
          | (refine wpList_store_row rfl 71 (.tmp 2) (.tmp 65) rfl B #[.bool y, .slice b m cb] rfl rfl 71 #[.bool x, .slice a N ca] HW0.out.1 info25 rfl (one25 _ _ _ _) ?_)
          | (refine wpList_store_row rfl 71 (.tmp 3) (.tmp 66) rfl (B + 1) #[.bool x, .slice a N ca] rfl rfl 71 #[.bool y, .slice b m cb] HR2.out info25 rfl (one25 _ _ _ _) ?_))
        refine at_world (Φ := fun W => A3 B w y x (.slice b m cb) (.slice a N ca) W) HW0.out.swap ?_
        rintro W1 hW1
        have HW1 := Lib.hid hW1
        clear hW1
        have cs0 := HW1.out.1.c0
        have hsz := HW1.out.2.2.2.2
        go_upto_region 19 with (fail)
        try rw [hsz]
        clear cs0 hsz
        refine at_world (Φ := fun W => AddW B w y x y (.slice b m cb) (.slice a N ca) (.slice none 0 0) W) (HW1.out.add HB.out _) ?_
        rintro W2 hW2
        have HW2 := Lib.hid hW2
        clear hW2
        go_loopw [11, 12] (fun vc vi W => SubRel B w y x y (.slice b m cb) (.slice a N ca) lb la N vc vi W) (fun _ vi _ => N - (intOf vi).toNat)
        case atStart => exact ⟨0, 0, [], _, by omega, rfl, rfl, by omega, HW2.out, World.ownsRow_nil _ _ _ _, rfl, digsD_nil, by simp [valD]⟩
        case round =>
          obtain ⟨i, c, out, o, hi', rfl, rfl, hc1, hW, hO, hlen, hg, hv⟩ := hrel
          have HWR := Lib.hid hW; have HO := Lib.hid hO; have HL := Lib.hid hlen; have HG := Lib.hid hg; have HV := Lib.hid hv; have HBL := Lib.hid hW.lo
          have ca2 := hW.1.c1; have cb2 := hW.2.1.c1; have co1 := hW.2.2.2.1.c1
          by_cases hlt : (i : Int) < (N : Int)
          · have HS := Lib.hid (sub_step hlen hg hv)
            have da := digsD_getD HGB.out i
            have db := digsD_getD HGA.out i
            have HAi := Lib.hid (HBB.out i); have HBi := Lib.hid (HA.out i)
            obtain ⟨p, hp⟩ : ∃ p, List.getD lb i 0 = p := ⟨_, rfl⟩
            obtain ⟨q, hq⟩ : ∃ p, List.getD la i 0 = p := ⟨_, rfl⟩
            rw [hp] at HS da HAi
            rw [hq] at HS db HBi
            clear hW hO hg hv hp hq
            by_cases hneg : (p : Int) - (q : Int) - (c : Int) < 0
            · obtain ⟨r, hr⟩ : ∃ r, p + 10000 - q - c = r := ⟨_, rfl⟩
              have e1 : (p : Int) - (q : Int) - (c : Int) + 10000 = (r : Int) := by omega
              have r1 : r < 10000 := by omega
              have HST := Lib.hid (HS.out r 1 (by omega) r1)
              have HL1 := Lib.hid (show (out ++ [r]).length = i + 1 by simp [hlen])
              have HCD := Lib.hid (cellsD_app out [r])
              clear hr hlen
              go_upto_region 21 with (fail)
              go_quiet (first
          | (go_at_call_of 57 (Value.slice b m cb); exact Calls.quiet_of_same (HAi.out _ (by first | exact HBL.out | exact HBL.out.drew | exact below_drewN' HBL.out _)))
          | (go_at_call_of 57 (Value.slice a N ca); exact Calls.quiet_of_same (HBi.out _ (by first | exact HBL.out | exact HBL.out.drew | exact below_drewN' HBL.out _))))
              go_upto_region 26 with (first
                | (go_at_call_of 57 (Value.slice b m cb); refine (HAi.out _ (by first | exact HBL.out | exact HBL.out.drew | exact below_drewN' HBL.out _)).mono ?_; rintro e w' ⟨rfl, rfl⟩)
                | (go_at_call_of 57 (Value.slice a N ca); refine (HBi.out _ (by first | exact HBL.out | exact HBL.out.drew | exact below_drewN' HBL.out _)).mono ?_; rintro e w' ⟨rfl, rfl⟩))
              clear ca2 cb2 co1
              refine at_world (Φ := fun W => AddW B w y x y (.slice b m cb) (.slice a N ca) o W ∧ W.ownsRow B 3 1 o i (cellsD out)) ⟨HWR.out.below HB.out (below_drews _), own_below' HO.out (below_drews _)⟩ ?_
              rintro wq ⟨hwq, hoq⟩
              have HWQ := Lib.hid hwq; have HOQ := Lib.hid hoq
              have co2 := hwq.2.2.2.1.c1
              clear hwq hoq
              go_wp2_with (at_builtin; refine wpList_append_own _ rfl _ _ 69 rfl B 3 i0 (.int .i64 0) 1 8 Try.underlying69 hi hz0 hz1 hz2 rfl (by decide) _ _ _ rfl (HOQ.out.alloc _) ⟨wq.heap.size, 0, none⟩ 1 1 [.int .i64 (r : Int)] rfl rfl (new_one _ _ _) (one_cell_int _) (by unfold maxLen; omega) (by omega) (by have := HWQ.out.lo.size; have := HB.out; simp; omega) ?_; intro v' w3 hown' hgrow _; obtain ⟨gb, cpb, hv'⟩ := own_shape' hown' (by omega); subst hv'; have HO3 := Lib.hid hown'; have HW3 := Lib.hid (HWQ.out.grown HB.out HOQ.out hgrow); have c3 := HW3.out.2.2.2.1.c1; have f3 := HW3.out.2.2.2.1.f 1; clear hown' hgrow)
              go_roundw
              case rel => exact ⟨i + 1, 1, out ++ [r], _, by omega, by go_num, rfl, by omega, HW3.out.stored, by rw [HCD.out]; exact own_set' HO3.out HW3.out.2.2.2.1 (by decide), HL1.out, HST.out.1, HST.out.2⟩
              case measure => simp [intOf] <;> omega
            · obtain ⟨r, hr⟩ : ∃ r, p - q - c = r := ⟨_, rfl⟩
              have e1 : (p : Int) - (q : Int) - (c : Int) = (r : Int) := by omega
              have r1 : r < 10000 := by omega
              have HST := Lib.hid (HS.out r 0 (by omega) r1)
              have HL1 := Lib.hid (show (out ++ [r]).length = i + 1 by simp [hlen])
              have HCD := Lib.hid (cellsD_app out [r])
              clear hr hlen
              go_upto_region 21 with (fail)
              go_quiet (first
          | (go_at_call_of 57 (Value.slice b m cb); exact Calls.quiet_of_same (HAi.out _ (by first | exact HBL.out | exact HBL.out.drew | exact below_drewN' HBL.out _)))
          | (go_at_call_of 57 (Value.slice a N ca); exact Calls.quiet_of_same (HBi.out _ (by first | exact HBL.out | exact HBL.out.drew | exact below_drewN' HBL.out _))))
              go_upto_region 26 with (first
                | (go_at_call_of 57 (Value.slice b m cb); refine (HAi.out _ (by first | exact HBL.out | exact HBL.out.drew | exact below_drewN' HBL.out _)).mono ?_; rintro e w' ⟨rfl, rfl⟩)
                | (go_at_call_of 57 (Value.slice a N ca); refine (HBi.out _ (by first | exact HBL.out | exact HBL.out.drew | exact below_drewN' HBL.out _)).mono ?_; rintro e w' ⟨rfl, rfl⟩))
              clear ca2 cb2 co1
              refine at_world (Φ := fun W => AddW B w y x y (.slice b m cb) (.slice a N ca) o W ∧ W.ownsRow B 3 1 o i (cellsD out)) ⟨HWR.out.below HB.out (below_drews _), own_below' HO.out (below_drews _)⟩ ?_
              rintro wq ⟨hwq, hoq⟩
              have HWQ := Lib.hid hwq; have HOQ := Lib.hid hoq
              have co2 := hwq.2.2.2.1.c1
              clear hwq hoq
              go_wp2_with (at_builtin; refine wpList_append_own _ rfl _ _ 69 rfl B 3 i0 (.int .i64 0) 1 8 Try.underlying69 hi hz0 hz1 hz2 rfl (by decide) _ _ _ rfl (HOQ.out.alloc _) ⟨wq.heap.size, 0, none⟩ 1 1 [.int .i64 (r : Int)] rfl rfl (new_one _ _ _) (one_cell_int _) (by unfold maxLen; omega) (by omega) (by have := HWQ.out.lo.size; have := HB.out; simp; omega) ?_; intro v' w3 hown' hgrow _; obtain ⟨gb, cpb, hv'⟩ := own_shape' hown' (by omega); subst hv'; have HO3 := Lib.hid hown'; have HW3 := Lib.hid (HWQ.out.grown HB.out HOQ.out hgrow); have c3 := HW3.out.2.2.2.1.c1; have f3 := HW3.out.2.2.2.1.f 1; clear hown' hgrow)
              go_roundw
              case rel => exact ⟨i + 1, 0, out ++ [r], _, by omega, by go_num, rfl, by omega, HW3.out.stored, by rw [HCD.out]; exact own_set' HO3.out HW3.out.2.2.2.1 (by decide), HL1.out, HST.out.1, HST.out.2⟩
              case measure => simp [intOf] <;> omega
          · have hiN : i = N := by omega
            subst hiN
            have HEND := Lib.hid (sub_end hg hlen (by rw [HLB.out]; omega) (by rw [HLA.out]; omega) HLE.out hv)
            obtain ⟨ao, co, hov, hcap, _, hdo⟩ := digs_of_own (by rw [hlen]; exact hO)
            rw [hlen] at hov hcap
            subst hov
            have HT := Lib.hid (HTR.out y ao out i co wr hlen hdo hg hcap (by omega))
            clear hW hO hlen hg hv hdo
            go_upto_region 27 with (fail)
            go_wp2_with (first
              | (refine wpList_load_row rfl 71 (.tmp 10) rfl (B + 1 + 1 + 1) rfl 71 #[.bool y, .slice ao i co] (0, 0) _ HWR.out.2.2.2.1 Try.underlying71 rfl info25 ?_)
              | (go_at_call 58; refine HT.out.mono ?_; rintro e w5 ⟨xt, at', kt, ct, rfl, hbig, hb5⟩; have HBIG := Lib.hid hbig; have HB5 := Lib.hid hb5; have HR5 := Lib.hid (HWR.out.2.2.1.below hb5); clear hbig hb5)
              | (refine wpList_store_row rfl 71 (.tmp 4) (.tmp 97) rfl (B + 1 + 1) #[.bool xt, .slice at' kt ct] rfl rfl 71 #[.bool false, .slice none 0 0] HR5.out info25 rfl (one25 _ _ _ _) ?_))
            refine ret_cell (p := 4) (ty := 71) (by kernel_rfl) rfl rfl (setRow_heap _ _ _ _ 71 (0, 0) HR5.out) Try.underlying71 rfl info25 ⟨xt, at', kt, ct, rfl, ?_, below_rowB (bB HB.out HWR.out.lo HB5.out) (by omega)⟩
            have hb := HBIG.out.boxRow HR5.out #[.bool xt, .slice at' kt ct]
            rw [HZ1.out, HZ2.out]
            have he := HEND.out
            have hxy' := HXY.out
            rwa [show sgn y (valD out) = sgn x (valD la) + sgn y (valD lb) by cases x <;> cases y <;> simp [sgn] at hxy' ⊢ <;> omega] at hb
    · have HLE := Lib.hid (Nat.le_of_not_lt hlt)
      have HLT := Lib.hid hlt
      clear hlt hxy
      rcases hcs with ⟨hmn, hNm⟩ | ⟨hmn, hNm⟩
      · subst hNm
        go_enter Try.func33, Try.ntmps33
        go_upto_region 14 with (fail)
        rw [← HB.out]
        refine at_world (Φ := fun W => A3 B w x y (.slice a n ca) (.slice b N cb) W) ?_ ?_
        · obtain ⟨k1, k2, k3, k5⟩ := three_alloc (w := w) (A := .cells #[.bool x, .slice a n ca] 71) (B := .cells #[.bool y, .slice b N cb] 71) (C := .cells #[.bool false, .slice none 0 0] 71)
          exact ⟨by rw [HB.out]; exact k1, by rw [HB.out]; exact k2, by rw [HB.out]; exact k3, by rw [HB.out]; exact k5, by rw [HB.out]; simp⟩
        rintro W0 hW0
        have HW0 := Lib.hid hW0
        have ca1 := hW0.1.c1; have cb1 := hW0.2.1.c1
        have HLS0 := Lib.hid (HLS.out W0 hW0.2.2.2.1)
        rw [decide_eq_false HLT.out] at HLS0
        clear hW0
        go_upto_region 16 with (go_at_call 59; refine HLS0.out.mono ?_; rintro e w' ⟨rfl, rfl⟩)
        clear ca1 cb1
        have HW1 := Lib.hid HW0.out
        have cs0 := HW1.out.1.c0
        have hsz := HW1.out.2.2.2.2
        go_upto_region 19 with (fail)
        try rw [hsz]
        clear cs0 hsz
        refine at_world (Φ := fun W => AddW B w x y x (.slice a n ca) (.slice b N cb) (.slice none 0 0) W) (HW1.out.add HB.out _) ?_
        rintro W2 hW2
        have HW2 := Lib.hid hW2
        clear hW2
        go_loopw [11, 12] (fun vc vi W => SubRel B w x y x (.slice a n ca) (.slice b N cb) la lb N vc vi W) (fun _ vi _ => N - (intOf vi).toNat)
        case atStart => exact ⟨0, 0, [], _, by omega, rfl, rfl, by omega, HW2.out, World.ownsRow_nil _ _ _ _, rfl, digsD_nil, by simp [valD]⟩
        case round =>
          obtain ⟨i, c, out, o, hi', rfl, rfl, hc1, hW, hO, hlen, hg, hv⟩ := hrel
          have HWR := Lib.hid hW; have HO := Lib.hid hO; have HL := Lib.hid hlen; have HG := Lib.hid hg; have HV := Lib.hid hv; have HBL := Lib.hid hW.lo
          have ca2 := hW.1.c1; have cb2 := hW.2.1.c1; have co1 := hW.2.2.2.1.c1
          by_cases hlt : (i : Int) < (N : Int)
          · have HS := Lib.hid (sub_step hlen hg hv)
            have da := digsD_getD HGA.out i
            have db := digsD_getD HGB.out i
            have HAi := Lib.hid (HA.out i); have HBi := Lib.hid (HBB.out i)
            obtain ⟨p, hp⟩ : ∃ p, List.getD la i 0 = p := ⟨_, rfl⟩
            obtain ⟨q, hq⟩ : ∃ p, List.getD lb i 0 = p := ⟨_, rfl⟩
            rw [hp] at HS da HAi
            rw [hq] at HS db HBi
            clear hW hO hg hv hp hq
            by_cases hneg : (p : Int) - (q : Int) - (c : Int) < 0
            · obtain ⟨r, hr⟩ : ∃ r, p + 10000 - q - c = r := ⟨_, rfl⟩
              have e1 : (p : Int) - (q : Int) - (c : Int) + 10000 = (r : Int) := by omega
              have r1 : r < 10000 := by omega
              have HST := Lib.hid (HS.out r 1 (by omega) r1)
              have HL1 := Lib.hid (show (out ++ [r]).length = i + 1 by simp [hlen])
              have HCD := Lib.hid (cellsD_app out [r])
              clear hr hlen
              go_upto_region 21 with (fail)
              go_quiet (first
          | (go_at_call_of 57 (Value.slice a n ca); exact Calls.quiet_of_same (HAi.out _ (by first | exact HBL.out | exact HBL.out.drew | exact below_drewN' HBL.out _)))
          | (go_at_call_of 57 (Value.slice b N cb); exact Calls.quiet_of_same (HBi.out _ (by first | exact HBL.out | exact HBL.out.drew | exact below_drewN' HBL.out _))))
              go_upto_region 26 with (first
                | (go_at_call_of 57 (Value.slice a n ca); refine (HAi.out _ (by first | exact HBL.out | exact HBL.out.drew | exact below_drewN' HBL.out _)).mono ?_; rintro e w' ⟨rfl, rfl⟩)
                | (go_at_call_of 57 (Value.slice b N cb); refine (HBi.out _ (by first | exact HBL.out | exact HBL.out.drew | exact below_drewN' HBL.out _)).mono ?_; rintro e w' ⟨rfl, rfl⟩))
              clear ca2 cb2 co1
              refine at_world (Φ := fun W => AddW B w x y x (.slice a n ca) (.slice b N cb) o W ∧ W.ownsRow B 3 1 o i (cellsD out)) ⟨HWR.out.below HB.out (below_drews _), own_below' HO.out (below_drews _)⟩ ?_
              rintro wq ⟨hwq, hoq⟩
              have HWQ := Lib.hid hwq; have HOQ := Lib.hid hoq
              have co2 := hwq.2.2.2.1.c1
              clear hwq hoq
              go_wp2_with (at_builtin; refine wpList_append_own _ rfl _ _ 69 rfl B 3 i0 (.int .i64 0) 1 8 Try.underlying69 hi hz0 hz1 hz2 rfl (by decide) _ _ _ rfl (HOQ.out.alloc _) ⟨wq.heap.size, 0, none⟩ 1 1 [.int .i64 (r : Int)] rfl rfl (new_one _ _ _) (one_cell_int _) (by unfold maxLen; omega) (by omega) (by have := HWQ.out.lo.size; have := HB.out; simp; omega) ?_; intro v' w3 hown' hgrow _; obtain ⟨gb, cpb, hv'⟩ := own_shape' hown' (by omega); subst hv'; have HO3 := Lib.hid hown'; have HW3 := Lib.hid (HWQ.out.grown HB.out HOQ.out hgrow); have c3 := HW3.out.2.2.2.1.c1; have f3 := HW3.out.2.2.2.1.f 1; clear hown' hgrow)
              go_roundw
              case rel => exact ⟨i + 1, 1, out ++ [r], _, by omega, by go_num, rfl, by omega, HW3.out.stored, by rw [HCD.out]; exact own_set' HO3.out HW3.out.2.2.2.1 (by decide), HL1.out, HST.out.1, HST.out.2⟩
              case measure => simp [intOf] <;> omega
            · obtain ⟨r, hr⟩ : ∃ r, p - q - c = r := ⟨_, rfl⟩
              have e1 : (p : Int) - (q : Int) - (c : Int) = (r : Int) := by omega
              have r1 : r < 10000 := by omega
              have HST := Lib.hid (HS.out r 0 (by omega) r1)
              have HL1 := Lib.hid (show (out ++ [r]).length = i + 1 by simp [hlen])
              have HCD := Lib.hid (cellsD_app out [r])
              clear hr hlen
              go_upto_region 21 with (fail)
              go_quiet (first
          | (go_at_call_of 57 (Value.slice a n ca); exact Calls.quiet_of_same (HAi.out _ (by first | exact HBL.out | exact HBL.out.drew | exact below_drewN' HBL.out _)))
          | (go_at_call_of 57 (Value.slice b N cb); exact Calls.quiet_of_same (HBi.out _ (by first | exact HBL.out | exact HBL.out.drew | exact below_drewN' HBL.out _))))
              go_upto_region 26 with (first
                | (go_at_call_of 57 (Value.slice a n ca); refine (HAi.out _ (by first | exact HBL.out | exact HBL.out.drew | exact below_drewN' HBL.out _)).mono ?_; rintro e w' ⟨rfl, rfl⟩)
                | (go_at_call_of 57 (Value.slice b N cb); refine (HBi.out _ (by first | exact HBL.out | exact HBL.out.drew | exact below_drewN' HBL.out _)).mono ?_; rintro e w' ⟨rfl, rfl⟩))
              clear ca2 cb2 co1
              refine at_world (Φ := fun W => AddW B w x y x (.slice a n ca) (.slice b N cb) o W ∧ W.ownsRow B 3 1 o i (cellsD out)) ⟨HWR.out.below HB.out (below_drews _), own_below' HO.out (below_drews _)⟩ ?_
              rintro wq ⟨hwq, hoq⟩
              have HWQ := Lib.hid hwq; have HOQ := Lib.hid hoq
              have co2 := hwq.2.2.2.1.c1
              clear hwq hoq
              go_wp2_with (at_builtin; refine wpList_append_own _ rfl _ _ 69 rfl B 3 i0 (.int .i64 0) 1 8 Try.underlying69 hi hz0 hz1 hz2 rfl (by decide) _ _ _ rfl (HOQ.out.alloc _) ⟨wq.heap.size, 0, none⟩ 1 1 [.int .i64 (r : Int)] rfl rfl (new_one _ _ _) (one_cell_int _) (by unfold maxLen; omega) (by omega) (by have := HWQ.out.lo.size; have := HB.out; simp; omega) ?_; intro v' w3 hown' hgrow _; obtain ⟨gb, cpb, hv'⟩ := own_shape' hown' (by omega); subst hv'; have HO3 := Lib.hid hown'; have HW3 := Lib.hid (HWQ.out.grown HB.out HOQ.out hgrow); have c3 := HW3.out.2.2.2.1.c1; have f3 := HW3.out.2.2.2.1.f 1; clear hown' hgrow)
              go_roundw
              case rel => exact ⟨i + 1, 0, out ++ [r], _, by omega, by go_num, rfl, by omega, HW3.out.stored, by rw [HCD.out]; exact own_set' HO3.out HW3.out.2.2.2.1 (by decide), HL1.out, HST.out.1, HST.out.2⟩
              case measure => simp [intOf] <;> omega
          · have hiN : i = N := by omega
            subst hiN
            have HEND := Lib.hid (sub_end hg hlen (by rw [HLA.out]; omega) (by rw [HLB.out]; omega) HLE.out hv)
            obtain ⟨ao, co, hov, hcap, _, hdo⟩ := digs_of_own (by rw [hlen]; exact hO)
            rw [hlen] at hov hcap
            subst hov
            have HT := Lib.hid (HTR.out x ao out i co wr hlen hdo hg hcap (by omega))
            clear hW hO hlen hg hv hdo
            go_upto_region 27 with (fail)
            go_wp2_with (first
              | (refine wpList_load_row rfl 71 (.tmp 10) rfl (B + 1 + 1 + 1) rfl 71 #[.bool x, .slice ao i co] (0, 0) _ HWR.out.2.2.2.1 Try.underlying71 rfl info25 ?_)
              | (go_at_call 58; refine HT.out.mono ?_; rintro e w5 ⟨xt, at', kt, ct, rfl, hbig, hb5⟩; have HBIG := Lib.hid hbig; have HB5 := Lib.hid hb5; have HR5 := Lib.hid (HWR.out.2.2.1.below hb5); clear hbig hb5)
              | (refine wpList_store_row rfl 71 (.tmp 4) (.tmp 97) rfl (B + 1 + 1) #[.bool xt, .slice at' kt ct] rfl rfl 71 #[.bool false, .slice none 0 0] HR5.out info25 rfl (one25 _ _ _ _) ?_))
            refine ret_cell (p := 4) (ty := 71) (by kernel_rfl) rfl rfl (setRow_heap _ _ _ _ 71 (0, 0) HR5.out) Try.underlying71 rfl info25 ⟨xt, at', kt, ct, rfl, ?_, below_rowB (bB HB.out HWR.out.lo HB5.out) (by omega)⟩
            have hb := HBIG.out.boxRow HR5.out #[.bool xt, .slice at' kt ct]
            rw [HZ1.out, HZ2.out]
            have he := HEND.out
            have hxy' := HXY.out
            rwa [show sgn x (valD out) = sgn x (valD la) + sgn y (valD lb) by cases x <;> cases y <;> simp [sgn] at hxy' ⊢ <;> omega] at hb
      · subst hNm
        go_enter Try.func33, Try.ntmps33
        go_upto_region 14 with (fail)
        rw [← HB.out]
        refine at_world (Φ := fun W => A3 B w x y (.slice a N ca) (.slice b m cb) W) ?_ ?_
        · obtain ⟨k1, k2, k3, k5⟩ := three_alloc (w := w) (A := .cells #[.bool x, .slice a N ca] 71) (B := .cells #[.bool y, .slice b m cb] 71) (C := .cells #[.bool false, .slice none 0 0] 71)
          exact ⟨by rw [HB.out]; exact k1, by rw [HB.out]; exact k2, by rw [HB.out]; exact k3, by rw [HB.out]; exact k5, by rw [HB.out]; simp⟩
        rintro W0 hW0
        have HW0 := Lib.hid hW0
        have ca1 := hW0.1.c1; have cb1 := hW0.2.1.c1
        have HLS0 := Lib.hid (HLS.out W0 hW0.2.2.2.1)
        rw [decide_eq_false HLT.out] at HLS0
        clear hW0
        go_upto_region 16 with (go_at_call 59; refine HLS0.out.mono ?_; rintro e w' ⟨rfl, rfl⟩)
        clear ca1 cb1
        have HW1 := Lib.hid HW0.out
        have cs0 := HW1.out.1.c0
        have hsz := HW1.out.2.2.2.2
        go_upto_region 19 with (fail)
        try rw [hsz]
        clear cs0 hsz
        refine at_world (Φ := fun W => AddW B w x y x (.slice a N ca) (.slice b m cb) (.slice none 0 0) W) (HW1.out.add HB.out _) ?_
        rintro W2 hW2
        have HW2 := Lib.hid hW2
        clear hW2
        go_loopw [11, 12] (fun vc vi W => SubRel B w x y x (.slice a N ca) (.slice b m cb) la lb N vc vi W) (fun _ vi _ => N - (intOf vi).toNat)
        case atStart => exact ⟨0, 0, [], _, by omega, rfl, rfl, by omega, HW2.out, World.ownsRow_nil _ _ _ _, rfl, digsD_nil, by simp [valD]⟩
        case round =>
          obtain ⟨i, c, out, o, hi', rfl, rfl, hc1, hW, hO, hlen, hg, hv⟩ := hrel
          have HWR := Lib.hid hW; have HO := Lib.hid hO; have HL := Lib.hid hlen; have HG := Lib.hid hg; have HV := Lib.hid hv; have HBL := Lib.hid hW.lo
          have ca2 := hW.1.c1; have cb2 := hW.2.1.c1; have co1 := hW.2.2.2.1.c1
          by_cases hlt : (i : Int) < (N : Int)
          · have HS := Lib.hid (sub_step hlen hg hv)
            have da := digsD_getD HGA.out i
            have db := digsD_getD HGB.out i
            have HAi := Lib.hid (HA.out i); have HBi := Lib.hid (HBB.out i)
            obtain ⟨p, hp⟩ : ∃ p, List.getD la i 0 = p := ⟨_, rfl⟩
            obtain ⟨q, hq⟩ : ∃ p, List.getD lb i 0 = p := ⟨_, rfl⟩
            rw [hp] at HS da HAi
            rw [hq] at HS db HBi
            clear hW hO hg hv hp hq
            by_cases hneg : (p : Int) - (q : Int) - (c : Int) < 0
            · obtain ⟨r, hr⟩ : ∃ r, p + 10000 - q - c = r := ⟨_, rfl⟩
              have e1 : (p : Int) - (q : Int) - (c : Int) + 10000 = (r : Int) := by omega
              have r1 : r < 10000 := by omega
              have HST := Lib.hid (HS.out r 1 (by omega) r1)
              have HL1 := Lib.hid (show (out ++ [r]).length = i + 1 by simp [hlen])
              have HCD := Lib.hid (cellsD_app out [r])
              clear hr hlen
              go_upto_region 21 with (fail)
              go_quiet (first
          | (go_at_call_of 57 (Value.slice a N ca); exact Calls.quiet_of_same (HAi.out _ (by first | exact HBL.out | exact HBL.out.drew | exact below_drewN' HBL.out _)))
          | (go_at_call_of 57 (Value.slice b m cb); exact Calls.quiet_of_same (HBi.out _ (by first | exact HBL.out | exact HBL.out.drew | exact below_drewN' HBL.out _))))
              go_upto_region 26 with (first
                | (go_at_call_of 57 (Value.slice a N ca); refine (HAi.out _ (by first | exact HBL.out | exact HBL.out.drew | exact below_drewN' HBL.out _)).mono ?_; rintro e w' ⟨rfl, rfl⟩)
                | (go_at_call_of 57 (Value.slice b m cb); refine (HBi.out _ (by first | exact HBL.out | exact HBL.out.drew | exact below_drewN' HBL.out _)).mono ?_; rintro e w' ⟨rfl, rfl⟩))
              clear ca2 cb2 co1
              refine at_world (Φ := fun W => AddW B w x y x (.slice a N ca) (.slice b m cb) o W ∧ W.ownsRow B 3 1 o i (cellsD out)) ⟨HWR.out.below HB.out (below_drews _), own_below' HO.out (below_drews _)⟩ ?_
              rintro wq ⟨hwq, hoq⟩
              have HWQ := Lib.hid hwq; have HOQ := Lib.hid hoq
              have co2 := hwq.2.2.2.1.c1
              clear hwq hoq
              go_wp2_with (at_builtin; refine wpList_append_own _ rfl _ _ 69 rfl B 3 i0 (.int .i64 0) 1 8 Try.underlying69 hi hz0 hz1 hz2 rfl (by decide) _ _ _ rfl (HOQ.out.alloc _) ⟨wq.heap.size, 0, none⟩ 1 1 [.int .i64 (r : Int)] rfl rfl (new_one _ _ _) (one_cell_int _) (by unfold maxLen; omega) (by omega) (by have := HWQ.out.lo.size; have := HB.out; simp; omega) ?_; intro v' w3 hown' hgrow _; obtain ⟨gb, cpb, hv'⟩ := own_shape' hown' (by omega); subst hv'; have HO3 := Lib.hid hown'; have HW3 := Lib.hid (HWQ.out.grown HB.out HOQ.out hgrow); have c3 := HW3.out.2.2.2.1.c1; have f3 := HW3.out.2.2.2.1.f 1; clear hown' hgrow)
              go_roundw
              case rel => exact ⟨i + 1, 1, out ++ [r], _, by omega, by go_num, rfl, by omega, HW3.out.stored, by rw [HCD.out]; exact own_set' HO3.out HW3.out.2.2.2.1 (by decide), HL1.out, HST.out.1, HST.out.2⟩
              case measure => simp [intOf] <;> omega
            · obtain ⟨r, hr⟩ : ∃ r, p - q - c = r := ⟨_, rfl⟩
              have e1 : (p : Int) - (q : Int) - (c : Int) = (r : Int) := by omega
              have r1 : r < 10000 := by omega
              have HST := Lib.hid (HS.out r 0 (by omega) r1)
              have HL1 := Lib.hid (show (out ++ [r]).length = i + 1 by simp [hlen])
              have HCD := Lib.hid (cellsD_app out [r])
              clear hr hlen
              go_upto_region 21 with (fail)
              go_quiet (first
          | (go_at_call_of 57 (Value.slice a N ca); exact Calls.quiet_of_same (HAi.out _ (by first | exact HBL.out | exact HBL.out.drew | exact below_drewN' HBL.out _)))
          | (go_at_call_of 57 (Value.slice b m cb); exact Calls.quiet_of_same (HBi.out _ (by first | exact HBL.out | exact HBL.out.drew | exact below_drewN' HBL.out _))))
              go_upto_region 26 with (first
                | (go_at_call_of 57 (Value.slice a N ca); refine (HAi.out _ (by first | exact HBL.out | exact HBL.out.drew | exact below_drewN' HBL.out _)).mono ?_; rintro e w' ⟨rfl, rfl⟩)
                | (go_at_call_of 57 (Value.slice b m cb); refine (HBi.out _ (by first | exact HBL.out | exact HBL.out.drew | exact below_drewN' HBL.out _)).mono ?_; rintro e w' ⟨rfl, rfl⟩))
              clear ca2 cb2 co1
              refine at_world (Φ := fun W => AddW B w x y x (.slice a N ca) (.slice b m cb) o W ∧ W.ownsRow B 3 1 o i (cellsD out)) ⟨HWR.out.below HB.out (below_drews _), own_below' HO.out (below_drews _)⟩ ?_
              rintro wq ⟨hwq, hoq⟩
              have HWQ := Lib.hid hwq; have HOQ := Lib.hid hoq
              have co2 := hwq.2.2.2.1.c1
              clear hwq hoq
              go_wp2_with (at_builtin; refine wpList_append_own _ rfl _ _ 69 rfl B 3 i0 (.int .i64 0) 1 8 Try.underlying69 hi hz0 hz1 hz2 rfl (by decide) _ _ _ rfl (HOQ.out.alloc _) ⟨wq.heap.size, 0, none⟩ 1 1 [.int .i64 (r : Int)] rfl rfl (new_one _ _ _) (one_cell_int _) (by unfold maxLen; omega) (by omega) (by have := HWQ.out.lo.size; have := HB.out; simp; omega) ?_; intro v' w3 hown' hgrow _; obtain ⟨gb, cpb, hv'⟩ := own_shape' hown' (by omega); subst hv'; have HO3 := Lib.hid hown'; have HW3 := Lib.hid (HWQ.out.grown HB.out HOQ.out hgrow); have c3 := HW3.out.2.2.2.1.c1; have f3 := HW3.out.2.2.2.1.f 1; clear hown' hgrow)
              go_roundw
              case rel => exact ⟨i + 1, 0, out ++ [r], _, by omega, by go_num, rfl, by omega, HW3.out.stored, by rw [HCD.out]; exact own_set' HO3.out HW3.out.2.2.2.1 (by decide), HL1.out, HST.out.1, HST.out.2⟩
              case measure => simp [intOf] <;> omega
          · have hiN : i = N := by omega
            subst hiN
            have HEND := Lib.hid (sub_end hg hlen (by rw [HLA.out]; omega) (by rw [HLB.out]; omega) HLE.out hv)
            obtain ⟨ao, co, hov, hcap, _, hdo⟩ := digs_of_own (by rw [hlen]; exact hO)
            rw [hlen] at hov hcap
            subst hov
            have HT := Lib.hid (HTR.out x ao out i co wr hlen hdo hg hcap (by omega))
            clear hW hO hlen hg hv hdo
            go_upto_region 27 with (fail)
            go_wp2_with (first
              | (refine wpList_load_row rfl 71 (.tmp 10) rfl (B + 1 + 1 + 1) rfl 71 #[.bool x, .slice ao i co] (0, 0) _ HWR.out.2.2.2.1 Try.underlying71 rfl info25 ?_)
              | (go_at_call 58; refine HT.out.mono ?_; rintro e w5 ⟨xt, at', kt, ct, rfl, hbig, hb5⟩; have HBIG := Lib.hid hbig; have HB5 := Lib.hid hb5; have HR5 := Lib.hid (HWR.out.2.2.1.below hb5); clear hbig hb5)
              | (refine wpList_store_row rfl 71 (.tmp 4) (.tmp 97) rfl (B + 1 + 1) #[.bool xt, .slice at' kt ct] rfl rfl 71 #[.bool false, .slice none 0 0] HR5.out info25 rfl (one25 _ _ _ _) ?_))
            refine ret_cell (p := 4) (ty := 71) (by kernel_rfl) rfl rfl (setRow_heap _ _ _ _ 71 (0, 0) HR5.out) Try.underlying71 rfl info25 ⟨xt, at', kt, ct, rfl, ?_, below_rowB (bB HB.out HWR.out.lo HB5.out) (by omega)⟩
            have hb := HBIG.out.boxRow HR5.out #[.bool xt, .slice at' kt ct]
            rw [HZ1.out, HZ2.out]
            have he := HEND.out
            have hxy' := HXY.out
            rwa [show sgn x (valD out) = sgn x (valD la) + sgn y (valD lb) by cases x <;> cases y <;> simp [sgn] at hxy' ⊢ <;> omega] at hb
end Go.Proofs.Ytmndkbfjmamnfaa
