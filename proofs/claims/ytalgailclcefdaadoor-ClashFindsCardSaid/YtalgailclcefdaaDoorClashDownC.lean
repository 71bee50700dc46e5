/- The way down two chains. -/
import Derived.Test.YtalgailclcefdaaDoorClashDown
namespace Go.Proofs.YtalgailclcefdaaDoor
open Go.RowKit

theorem chainF_now (h : ByteArray → ByteArray) {la lb : List ByteArray} {j : Nat} (ha : j < la.length) (hb : j < lb.length) (e : hashedC h la (j + 1) ≠ hashedC h lb (j + 1)) :
    chainF h (la.take (j + 1)).reverse (lb.take (j + 1)).reverse = (hashedC h la (j + 1), hashedC h lb (j + 1)) := by
  rw [hashedC_pos h la (by omega), hashedC_pos h lb (by omega), Nat.add_sub_cancel] at e ⊢
  rw [take_snocL ha, take_snocL hb, List.reverse_concat, List.reverse_concat, chainF, List.reverse_reverse, List.reverse_reverse, if_pos e]
theorem chainF_next (h : ByteArray → ByteArray) {la lb : List ByteArray} {j : Nat} (ha : j < la.length) (hb : j < lb.length) (e : hashedC h la (j + 1) = hashedC h lb (j + 1)) :
    chainF h (la.take (j + 1)).reverse (lb.take (j + 1)).reverse = chainF h (la.take j).reverse (lb.take j).reverse := by
  rw [hashedC_pos h la (by omega), hashedC_pos h lb (by omega), Nat.add_sub_cancel] at e
  rw [take_snocL ha, take_snocL hb, List.reverse_concat, List.reverse_concat, chainF, List.reverse_reverse, List.reverse_reverse, if_neg (by simpa using e)]
/-- What the closure that goes down chains has caught. -/
def DC (h : ByteArray → ByteArray) (la lb : List ByteArray) (gA gB p2 p3 p4 p5 : Nat) (W : World) : Prop :=
  W.cell? ⟨p2, 0, none⟩ = some (.func (.func 41) #[] #[.pointer (some ⟨gA, 0, none⟩)]) ∧ W.cell? ⟨p3, 0, none⟩ = some (.func (.func 41) #[] #[.pointer (some ⟨gB, 0, none⟩)]) ∧ W.cell? ⟨p4, 0, none⟩ = some (.func (.func 26) #[] #[]) ∧
    W.cell? ⟨p5, 0, none⟩ = some (.func (.func 46) #[] #[.pointer (some ⟨p2, 0, none⟩), .pointer (some ⟨p3, 0, none⟩), .pointer (some ⟨p4, 0, none⟩), .pointer (some ⟨p5, 0, none⟩)]) ∧ ChHeld h la gA W ∧ ChHeld h lb gB W
theorem DC.below {h : ByteArray → ByteArray} {la lb : List ByteArray} {gA gB p2 p3 p4 p5 : Nat} {W W' : World} (hd : DC h la lb gA gB p2 p3 p4 p5 W) (hb : Below W.heap.size W W') : DC h la lb gA gB p2 p3 p4 p5 W' := by
  have k := fun (p : Addr) (v : Value) (hv : W.cell? p = some v) => (hb.cell (p := p) (World.block_lt_of_cell? W _ hv)).trans hv
  exact ⟨k _ _ hd.1, k _ _ hd.2.1, k _ _ hd.2.2.1, k _ _ hd.2.2.2.1, hd.2.2.2.2.1.below hb, hd.2.2.2.2.2.below hb⟩

set_option maxRecDepth 100000 in
set_option maxHeartbeats 1000000 in
theorem down46C (n : Nat) (h1 : n ≤ 32) (gA gB p2 p3 p4 p5 : Nat) (la lb : List ByteArray) (a a2 : Option Addr) (hll : la.length = lb.length) (hm : la.length ≤ 4096) (hza : ∀ t ∈ la, t.size ≤ 700000) (hzb : ∀ t ∈ lb, t.size ≤ 700000) : ∀ (j : Nat) (ca cb : Nat) (w : World),
    StrsAt w a la → StrsAt w a2 lb → j ≤ la.length → j ≤ ca → j ≤ cb → DC (cutH n) la lb gA gB p2 p3 p4 p5 w → la.take j ≠ lb.take j →
    Calls Tryd.prog 46 #[.slice a j ca, .slice a2 j cb, .pointer (some ⟨p2, 0, none⟩), .pointer (some ⟨p3, 0, none⟩), .pointer (some ⟨p4, 0, none⟩), .pointer (some ⟨p5, 0, none⟩)] w fun e w' => e = .returned (.tuple #[.string (chainF (cutH n) (la.take j).reverse (lb.take j).reverse).1, .string (chainF (cutH n) (la.take j).reverse (lb.take j).reverse).2]) ∧ Below w.heap.size w w' := by
  intro j
  induction j with
  | zero => intro ca cb w _ _ _ _ _ _ hne; simp at hne
  | succ i ih =>
  intro ca cb w hra hrb hj hca hcb hD hne
  have hfn := chainF_now (cutH n) (la := la) (lb := lb) (j := i) (by omega) (by omega)
  have hfe := chainF_next (cutH n) (la := la) (lb := lb) (j := i) (by omega) (by omega)
  have hft : hashedC (cutH n) la (i + 1) = hashedC (cutH n) lb (i + 1) → la.take i ≠ lb.take i := fun e ht => by
    rw [hashedC_pos _ la (by omega), hashedC_pos _ lb (by omega), Nat.add_sub_cancel] at e
    have s1 := chain_size (cutH n) n (cutH_size n h1)
    have ga : (la.getD i ⟨#[]⟩).size ≤ 700000 := by rw [List.getD_eq_getElem?_getD, List.getElem?_eq_getElem (by omega)]; exact hza _ (List.getElem_mem _)
    have gb : (lb.getD i ⟨#[]⟩).size ≤ 700000 := by rw [List.getD_eq_getElem?_getD, List.getElem?_eq_getElem (by omega)]; exact hzb _ (List.getElem_mem _)
    have := (last_inj (by rw [s1]; omega) (by rw [s1]; omega) (by omega) (by omega) e).2
    exact hne (by rw [take_snocL (by omega), take_snocL (by omega), ht, this])
  obtain ⟨RES, hRES⟩ : ∃ R, chainF (cutH n) (la.take (i + 1)).reverse (lb.take (i + 1)).reverse = R := ⟨_, rfl⟩
  rw [hRES] at hfn hfe ⊢
  clear hRES
  have HA := Lib.hid (fun (W : World) (hb : Below w.heap.size w W) => hashed41 (cutH n) n (cutH_size n h1) (by omega) la (i + 1) a ca gA W hj (by omega) hza (hD.below hb).2.2.2.2.1)
  have HB := Lib.hid (fun (W : World) (hb : Below w.heap.size w W) => hashed41 (cutH n) n (cutH_size n h1) (by omega) lb (i + 1) a2 cb gB W (by omega) (by omega) hzb (hD.below hb).2.2.2.2.2)
  have iadd : ((i + 1 : Nat) : Int) = (i : Int) + 1 := by omega
  obtain ⟨X, hX⟩ : ∃ X, hashedC (cutH n) la (i + 1) = X := ⟨_, rfl⟩
  obtain ⟨Y, hY⟩ : ∃ Y, hashedC (cutH n) lb (i + 1) = Y := ⟨_, rfl⟩
  rw [hX] at HA
  rw [hY] at HB
  rw [hX, hY] at hfn hfe hft
  have d2 := Lib.hid hD.1; have d3 := Lib.hid hD.2.1; have d4 := Lib.hid hD.2.2.1; have d5 := Lib.hid hD.2.2.2.1
  have l2 := Lib.hid (World.block_lt_of_cell? w _ hD.1); have l3 := Lib.hid (World.block_lt_of_cell? w _ hD.2.1); have l4 := Lib.hid (World.block_lt_of_cell? w _ hD.2.2.1); have l5 := Lib.hid (World.block_lt_of_cell? w _ hD.2.2.2.1)
  have HE1 := enters41; have HE2 := enters26; have HE3 := enters46
  have HNOW := Lib.hid hfn; have HNEXT := Lib.hid hfe; have HNE := Lib.hid hft
  have IH := Lib.hid (fun (c1 c2 : Nat) (W : World) (hb : Below w.heap.size w W) (q1 : i ≤ c1) (q2 : i ≤ c2) (ne : la.take i ≠ lb.take i) =>
    ih c1 c2 W (hra.below hb) (hrb.below hb) (by omega) q1 q2 (hD.below hb) ne)
  obtain ⟨b1, o1, rfl, _, _⟩ := hra.some (by omega)
  obtain ⟨b2, o2, rfl, _, _⟩ := hrb.some (by omega)
  clear hfn hfe hft hne hra hrb ih hza hzb hD hX hY
  go_enter Tryd.func46, Tryd.ntmps46
  go_upto_region 1 with (fail)
  refine wp_region_held_drew (S := fun W => Below w.heap.size w W) (by kernel_rfl) ((Below.refl _ w).drew) (fun hS => ?_)
  refine wpAnyH_take (i := 0) (v := .func (.func 41) #[] #[.pointer (some ⟨gA, 0, none⟩)]) rfl (by kernel_rfl) (by kernel_rfl) (by kernel_rfl) (fun _ _ _ h => h) (Or.inl ⟨by simp [Region.wanted], fun W hW => by have h1 := (hW.cell (p := ⟨p2, 0, none⟩) l2.out).trans d2.out; go_simp⟩) hS ?_
  simp only [List.getElem_toArray, List.getElem_cons_zero, Act.put, List.setIfInBounds_toArray, List.set_cons_zero, List.set_cons_succ]
  refine wpAnyH_take (i := 1) (v := .slice (some ⟨b1, o1, none⟩) (i + 1) ca) rfl (by kernel_rfl) (by kernel_rfl) (by kernel_rfl) (fun _ _ _ h => h) (Or.inl ⟨by simp [Region.wanted], fun W _ => by go_simp⟩) hS ?_
  simp only [List.getElem_toArray, List.getElem_cons_zero, List.getElem_cons_succ, Act.put, List.setIfInBounds_toArray, List.set_cons_zero, List.set_cons_succ]
  refine wpAnyH_take (i := 3) (v := .func (.func 41) #[] #[.pointer (some ⟨gB, 0, none⟩)]) rfl (by kernel_rfl) (by kernel_rfl) (by kernel_rfl) (fun _ _ _ h => h) (Or.inl ⟨by simp [Region.wanted], fun W hW => by have h1 := (hW.cell (p := ⟨p3, 0, none⟩) l3.out).trans d3.out; go_simp⟩) hS ?_
  simp only [List.getElem_toArray, List.getElem_cons_zero, List.getElem_cons_succ, Act.put, List.setIfInBounds_toArray, List.set_cons_zero, List.set_cons_succ]
  refine wpAnyH_take (i := 4) (v := .slice (some ⟨b2, o2, none⟩) (i + 1) cb) rfl (by kernel_rfl) (by kernel_rfl) (by kernel_rfl) (fun _ _ _ h => h) (Or.inl ⟨by simp [Region.wanted], fun W _ => by go_simp⟩) hS ?_
  simp only [List.getElem_toArray, List.getElem_cons_zero, List.getElem_cons_succ, Act.put, List.setIfInBounds_toArray, List.set_cons_zero, List.set_cons_succ]
  refine wpAnyH_ready (rs := [2]) (by kernel_rfl) (by simp) ?_
  refine AllReadyH.cons rfl (fun K1 hK1 => ?_) AllReadyH.nil
  refine wanted_go rfl ?_
  simp only [List.getElem_toArray, List.getElem_cons_zero, List.getElem_cons_succ]
  go_wp2_with (with_reducible refine (HA.out _ hS).mono ?_; rintro e w2 ⟨rfl, hb2⟩; have HB2 := Lib.hid hb2; clear hb2)
  refine hK1.out _ _ (bt2 hS HB2.out) (fun hS1 => ?_)
  refine wpAnyH_ready (rs := [5]) (by kernel_rfl) (by simp) ?_
  refine AllReadyH.cons rfl (fun K2 hK2 => ?_) AllReadyH.nil
  refine wanted_go rfl ?_
  simp only [List.getElem_toArray, List.getElem_cons_zero, List.getElem_cons_succ]
  go_wp2_with (with_reducible refine (HB.out _ hS1).mono ?_; rintro e w3 ⟨rfl, hb3⟩; have HB3 := Lib.hid hb3; clear hb3)
  refine hK2.out _ _ (bt2 hS1 HB3.out) (fun hS2 => ?_)
  refine wpAnyH_take (i := 6) (v := .string X) rfl (by kernel_rfl) (by kernel_rfl) (by kernel_rfl) (fun _ _ _ h => h) (Or.inl ⟨by simp [Region.wanted], fun W _ => by go_simp⟩) hS2 ?_
  simp only [List.getElem_toArray, List.getElem_cons_zero, List.getElem_cons_succ, Act.put, List.setIfInBounds_toArray, List.set_cons_zero, List.set_cons_succ]
  refine wpAnyH_take (i := 7) (v := .string Y) rfl (by kernel_rfl) (by kernel_rfl) (by kernel_rfl) (fun _ _ _ h => h) (Or.inl ⟨by simp [Region.wanted], fun W _ => by go_simp⟩) hS2 ?_
  simp only [List.getElem_toArray, List.getElem_cons_zero, List.getElem_cons_succ, Act.put, List.setIfInBounds_toArray, List.set_cons_zero, List.set_cons_succ]
  refine wpAnyH_done (by kernel_rfl) ?_ _
  have HW3 := Lib.hid hS2
  clear hS hS1 hS2 hK1 hK2
  by_cases hxy : X = Y
  · subst hxy
    have HSA := Lib.hid (fun W => beginning26 b1 o1 (i + 1) ca W (by omega) (by omega) hca)
    have HSB := Lib.hid (fun W => beginning26 b2 o2 (i + 1) cb W (by omega) (by omega) hcb)
    rw [Nat.add_sub_cancel] at HSA HSB
    have HEND := Lib.hid (HNEXT.out rfl)
    have HI2 := Lib.hid (fun (W : World) (hb : Below w.heap.size w W) => IH.out ca cb W hb (by omega) (by omega) (HNE.out rfl))
    generalize chainF (cutH n) (la.take i).reverse (lb.take i).reverse = RR at *
    clear HNOW HNEXT HNE HA HB IH
    have ne0 : (X.toList == X.toList) = true := by simp
    go_upto_region 4 with (fail)
    clear ne0
    refine wp_region_held_drew (S := fun W => Below w.heap.size w W) (by kernel_rfl) (HW3.out.drew) (fun hS => ?_)
    refine wpAnyH_take (i := 0) (v := .func (.func 26) #[] #[]) rfl (by kernel_rfl) (by kernel_rfl) (by kernel_rfl) (fun _ _ _ h => h) (Or.inl ⟨by simp [Region.wanted], fun W hW => by have h1 := (hW.cell (p := ⟨p4, 0, none⟩) l4.out).trans d4.out; go_simp⟩) hS ?_
    simp only [List.getElem_toArray, List.getElem_cons_zero, Act.put, List.setIfInBounds_toArray, List.set_cons_zero, List.set_cons_succ]
    refine wpAnyH_take (i := 1) (v := .slice (some ⟨b1, o1, none⟩) (i + 1) ca) rfl (by kernel_rfl) (by kernel_rfl) (by kernel_rfl) (fun _ _ _ h => h) (Or.inl ⟨by simp [Region.wanted], fun W _ => by go_simp⟩) hS ?_
    simp only [List.getElem_toArray, List.getElem_cons_zero, List.getElem_cons_succ, Act.put, List.setIfInBounds_toArray, List.set_cons_zero, List.set_cons_succ]
    refine wpAnyH_take (i := 3) (v := .func (.func 26) #[] #[]) rfl (by kernel_rfl) (by kernel_rfl) (by kernel_rfl) (fun _ _ _ h => h) (Or.inl ⟨by simp [Region.wanted], fun W hW => by have h1 := (hW.cell (p := ⟨p4, 0, none⟩) l4.out).trans d4.out; go_simp⟩) hS ?_
    simp only [List.getElem_toArray, List.getElem_cons_zero, List.getElem_cons_succ, Act.put, List.setIfInBounds_toArray, List.set_cons_zero, List.set_cons_succ]
    refine wpAnyH_take (i := 4) (v := .slice (some ⟨b2, o2, none⟩) (i + 1) cb) rfl (by kernel_rfl) (by kernel_rfl) (by kernel_rfl) (fun _ _ _ h => h) (Or.inl ⟨by simp [Region.wanted], fun W _ => by go_simp⟩) hS ?_
    simp only [List.getElem_toArray, List.getElem_cons_zero, List.getElem_cons_succ, Act.put, List.setIfInBounds_toArray, List.set_cons_zero, List.set_cons_succ]
    refine wpAnyH_ready (rs := [2]) (by kernel_rfl) (by simp) ?_
    refine AllReadyH.cons rfl (fun K1 hK1 => ?_) AllReadyH.nil
    refine wanted_go rfl ?_
    simp only [List.getElem_toArray, List.getElem_cons_zero, List.getElem_cons_succ]
    go_wp2_with (with_reducible refine (HSA.out _).mono ?_; rintro e w4 ⟨k1, rfl, hk1, hc1, hb4⟩; have HB4 := Lib.hid hb4; have HK1 := Lib.hid hc1; clear hb4 hc1)
    refine hK1.out _ _ (bt2 hS HB4.out) (fun hS1 => ?_)
    refine wpAnyH_ready (rs := [5]) (by kernel_rfl) (by simp) ?_
    refine AllReadyH.cons rfl (fun K2 hK2 => ?_) AllReadyH.nil
    refine wanted_go rfl ?_
    simp only [List.getElem_toArray, List.getElem_cons_zero, List.getElem_cons_succ]
    go_wp2_with (with_reducible refine (HSB.out _).mono ?_; rintro e w5 ⟨k2, rfl, hk2, hc2, hb5⟩; have HB5 := Lib.hid hb5; have HK2 := Lib.hid hc2; clear hb5 hc2)
    refine hK2.out _ _ (bt2 hS1 HB5.out) (fun hS2 => ?_)
    refine wpAnyH_take (i := 6) (v := .slice (some ⟨k1, 0, none⟩) 1 1) rfl (by kernel_rfl) (by kernel_rfl) (by kernel_rfl) (fun _ _ _ h => h) (Or.inl ⟨by simp [Region.wanted], fun W _ => by go_simp⟩) hS2 ?_
    simp only [List.getElem_toArray, List.getElem_cons_zero, List.getElem_cons_succ, Act.put, List.setIfInBounds_toArray, List.set_cons_zero, List.set_cons_succ]
    refine wpAnyH_take (i := 7) (v := .slice (some ⟨k2, 0, none⟩) 1 1) rfl (by kernel_rfl) (by kernel_rfl) (by kernel_rfl) (fun _ _ _ h => h) (Or.inl ⟨by simp [Region.wanted], fun W _ => by go_simp⟩) hS2 ?_
    simp only [List.getElem_toArray, List.getElem_cons_zero, List.getElem_cons_succ, Act.put, List.setIfInBounds_toArray, List.set_cons_zero, List.set_cons_succ]
    refine wpAnyH_done (by kernel_rfl) ?_ _
    have HSK := Lib.hid (show SK w k1 k2 #[.slice (some ⟨b1, o1, none⟩) i ca] #[.slice (some ⟨b2, o2, none⟩) i cb] w5 from ⟨hS2, (HB5.out.block k1 (lt_of_block HK1.out)).trans HK1.out, HK2.out⟩)
    clear hS hS1 hS2 hK1 hK2 hk1 hk2 HB4 HB5 HK1 HK2 HW3
    go_upto_region 7 with (fail)
    go_loopw [37] (fun vi W => vi = .int .i64 0 ∧ SK w k1 k2 #[.slice (some ⟨b1, o1, none⟩) i ca] #[.slice (some ⟨b2, o2, none⟩) i cb] W) (fun vi _ => 1 - (intOf vi).toNat)
    case atStart => exact ⟨rfl, HSK.out⟩
    case round =>
      obtain ⟨rfl, hsk⟩ := hrel
      have HS := Lib.hid hsk
      clear hsk
      go_upto_region 12 with (fail)
      refine wp_region_held_drew (S := fun W => Below w.heap.size w W ∧ SK w k1 k2 #[.slice (some ⟨b1, o1, none⟩) i ca] #[.slice (some ⟨b2, o2, none⟩) i cb] W) (by kernel_rfl) (⟨HS.out.1.drew, HS.out.drew⟩) (fun hS => ?_)
      refine wpAnyH_take (i := 0) (v := .func (.func 46) #[] #[.pointer (some ⟨p2, 0, none⟩), .pointer (some ⟨p3, 0, none⟩), .pointer (some ⟨p4, 0, none⟩), .pointer (some ⟨p5, 0, none⟩)]) rfl (by kernel_rfl) (by kernel_rfl) (by kernel_rfl) (fun _ _ _ h => h) (Or.inl ⟨by simp [Region.wanted], fun W hW => by have h1 := (hW.1.cell (p := ⟨p5, 0, none⟩) l5.out).trans d5.out; go_simp⟩) hS ?_
      simp only [List.getElem_toArray, List.getElem_cons_zero, Act.put, List.setIfInBounds_toArray, List.set_cons_zero, List.set_cons_succ]
      refine wpAnyH_take (i := 1) (v := .slice (some ⟨k1, 0, none⟩) 1 1) rfl (by kernel_rfl) (by kernel_rfl) (by kernel_rfl) (fun _ _ _ h => h) (Or.inl ⟨by simp [Region.wanted], fun W _ => by go_simp⟩) hS ?_
      simp only [List.getElem_toArray, List.getElem_cons_zero, List.getElem_cons_succ, Act.put, List.setIfInBounds_toArray, List.set_cons_zero, List.set_cons_succ]
      refine wpAnyH_take (i := 2) (v := .int .i64 0) rfl (by kernel_rfl) (by kernel_rfl) (by kernel_rfl) (fun _ _ _ h => h) (Or.inl ⟨by simp [Region.wanted], fun W _ => by go_simp⟩) hS ?_
      simp only [List.getElem_toArray, List.getElem_cons_zero, List.getElem_cons_succ, Act.put, List.setIfInBounds_toArray, List.set_cons_zero, List.set_cons_succ]
      refine wpAnyH_take (i := 3) (v := .pointer (some ⟨k1, 0, none⟩)) rfl (by kernel_rfl) (by kernel_rfl) (by kernel_rfl) (fun _ _ _ h => h) (Or.inl ⟨by simp [Region.wanted], fun W _ => by go_simp⟩) hS ?_
      simp only [List.getElem_toArray, List.getElem_cons_zero, List.getElem_cons_succ, Act.put, List.setIfInBounds_toArray, List.set_cons_zero, List.set_cons_succ]
      refine wpAnyH_take (i := 4) (v := .slice (some ⟨b1, o1, none⟩) i ca) rfl (by kernel_rfl) (by kernel_rfl) (by kernel_rfl) (fun _ _ _ h => h) (Or.inl ⟨by simp [Region.wanted], fun W hW => by have h1 := hW.2.c1 0; go_simp⟩) hS ?_
      simp only [List.getElem_toArray, List.getElem_cons_zero, List.getElem_cons_succ, Act.put, List.setIfInBounds_toArray, List.set_cons_zero, List.set_cons_succ]
      refine wpAnyH_take (i := 5) (v := .slice (some ⟨k2, 0, none⟩) 1 1) rfl (by kernel_rfl) (by kernel_rfl) (by kernel_rfl) (fun _ _ _ h => h) (Or.inl ⟨by simp [Region.wanted], fun W _ => by go_simp⟩) hS ?_
      simp only [List.getElem_toArray, List.getElem_cons_zero, List.getElem_cons_succ, Act.put, List.setIfInBounds_toArray, List.set_cons_zero, List.set_cons_succ]
      refine wpAnyH_take (i := 6) (v := .int .i64 0) rfl (by kernel_rfl) (by kernel_rfl) (by kernel_rfl) (fun _ _ _ h => h) (Or.inl ⟨by simp [Region.wanted], fun W _ => by go_simp⟩) hS ?_
      simp only [List.getElem_toArray, List.getElem_cons_zero, List.getElem_cons_succ, Act.put, List.setIfInBounds_toArray, List.set_cons_zero, List.set_cons_succ]
      refine wpAnyH_take (i := 7) (v := .pointer (some ⟨k2, 0, none⟩)) rfl (by kernel_rfl) (by kernel_rfl) (by kernel_rfl) (fun _ _ _ h => h) (Or.inl ⟨by simp [Region.wanted], fun W _ => by go_simp⟩) hS ?_
      simp only [List.getElem_toArray, List.getElem_cons_zero, List.getElem_cons_succ, Act.put, List.setIfInBounds_toArray, List.set_cons_zero, List.set_cons_succ]
      refine wpAnyH_take (i := 8) (v := .slice (some ⟨b2, o2, none⟩) i cb) rfl (by kernel_rfl) (by kernel_rfl) (by kernel_rfl) (fun _ _ _ h => h) (Or.inl ⟨by simp [Region.wanted], fun W hW => by have h1 := hW.2.c2 0; go_simp⟩) hS ?_
      simp only [List.getElem_toArray, List.getElem_cons_zero, List.getElem_cons_succ, Act.put, List.setIfInBounds_toArray, List.set_cons_zero, List.set_cons_succ]
      refine wpAnyH_ready (rs := [9]) (by kernel_rfl) (by simp) ?_
      refine AllReadyH.cons rfl (fun K1 hK1 => ?_) AllReadyH.nil
      refine wanted_go rfl ?_
      simp only [List.getElem_toArray, List.getElem_cons_zero, List.getElem_cons_succ]
      go_wp2_with (with_reducible refine (HI2.out _ hS.1).mono ?_; rintro e w7 ⟨rfl, hb7⟩; have HB7 := Lib.hid hb7; clear hb7)
      refine hK1.out _ _ (⟨bt2 hS.1 HB7.out, hS.2.below HB7.out⟩) (fun hS1 => ?_)
      refine wpAnyH_take (i := 10) (v := .string RR.1) rfl (by kernel_rfl) (by kernel_rfl) (by kernel_rfl) (fun _ _ _ h => h) (Or.inl ⟨by simp [Region.wanted], fun W _ => by go_simp⟩) hS1 ?_
      simp only [List.getElem_toArray, List.getElem_cons_zero, List.getElem_cons_succ, Act.put, List.setIfInBounds_toArray, List.set_cons_zero, List.set_cons_succ]
      refine wpAnyH_take (i := 11) (v := .string RR.2) rfl (by kernel_rfl) (by kernel_rfl) (by kernel_rfl) (fun _ _ _ h => h) (Or.inl ⟨by simp [Region.wanted], fun W _ => by go_simp⟩) hS1 ?_
      simp only [List.getElem_toArray, List.getElem_cons_zero, List.getElem_cons_succ, Act.put, List.setIfInBounds_toArray, List.set_cons_zero, List.set_cons_succ]
      refine wpAnyH_take (i := 12) (v := .string RR.1) rfl (by kernel_rfl) (by kernel_rfl) (by kernel_rfl) (fun _ _ _ h => h) (Or.inl ⟨by simp [Region.wanted], fun W _ => by go_simp⟩) hS1 ?_
      simp only [List.getElem_toArray, List.getElem_cons_zero, List.getElem_cons_succ, Act.put, List.setIfInBounds_toArray, List.set_cons_zero, List.set_cons_succ]
      refine wpAnyH_take (i := 13) (v := .string RR.2) rfl (by kernel_rfl) (by kernel_rfl) (by kernel_rfl) (fun _ _ _ h => h) (Or.inl ⟨by simp [Region.wanted], fun W _ => by go_simp⟩) hS1 ?_
      simp only [List.getElem_toArray, List.getElem_cons_zero, List.getElem_cons_succ, Act.put, List.setIfInBounds_toArray, List.set_cons_zero, List.set_cons_succ]
      refine wpAnyH_done (by kernel_rfl) ?_ _
      have HF := Lib.hid hS1.1
      clear hS hS1 hK1
      go_wp2
      go_ret2
      exact ⟨by have h := HEND.out; subst h; rfl, HF.out⟩
  · have hxb : (X.toList == Y.toList) = false := eqB_ne hxy
    have HEND := Lib.hid (HNOW.out hxy)
    clear hxy
    go_wp2
    go_ret2
    exact ⟨by have h := HEND.out; subst h; rfl, HW3.out⟩
end Go.Proofs.YtalgailclcefdaaDoor
