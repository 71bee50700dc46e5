/- The way down: the contract of the closure that goes down two rows, or two chains. -/
import Derived.Test.YtalgailclcefdaaDoorClashChain
namespace Go.Proofs.YtalgailclcefdaaDoor
open Go.RowKit

theorem equal31b (a a2 : Option Addr) (l q : List ByteArray) (n m ca cb : Nat) (w : World) (hl : l.length = n) (hq : q.length = m) (hr : StrsAt w a l) (hs : StrsAt w a2 q) (hn : n ≤ 60000) (hm : m ≤ 60000) :
    Calls Tryd.prog 31 #[.slice a n ca, .slice a2 m cb] w fun e w' => e = .returned (.bool (decide (l = q))) ∧ Below w.heap.size w w' := by
  refine (equal31 a a2 l q n m ca cb w hl hq hr hs hn hm).mono ?_
  rintro e w' ⟨rfl, k, rfl⟩
  exact ⟨rfl, below_drews k⟩
/-- Two rows of rows lie in their blocks. -/
def SK (w : World) (k1 k2 : Nat) (c1 c2 : Array Value) (W : World) : Prop := Below w.heap.size w W ∧ W.heap[k1]? = some (.cells c1 22 (0, 0)) ∧ W.heap[k2]? = some (.cells c2 22 (0, 0))
theorem SK.below {w : World} {k1 k2 : Nat} {c1 c2 : Array Value} {W W' : World} (h : SK w k1 k2 c1 c2 W) (hb : Below W.heap.size W W') : SK w k1 k2 c1 c2 W' :=
  ⟨bt2 h.1 hb, (hb.block _ (lt_of_block h.2.1)).trans h.2.1, (hb.block _ (lt_of_block h.2.2)).trans h.2.2⟩
theorem SK.drew {w : World} {k1 k2 : Nat} {c1 c2 : Array Value} {W : World} (h : SK w k1 k2 c1 c2 W) : SK w k1 k2 c1 c2 W.drew := ⟨h.1.drew, h.2.1, h.2.2⟩
theorem SK.drewN {w : World} {k1 k2 : Nat} {c1 c2 : Array Value} {W : World} (h : SK w k1 k2 c1 c2 W) (q : Nat) : SK w k1 k2 c1 c2 (W.drewN q) := ⟨below_drewN' h.1 q, h.2.1, h.2.2⟩
theorem SK.c1 {w : World} {k1 k2 : Nat} {c1 c2 : Array Value} {W : World} (h : SK w k1 k2 c1 c2 W) (i : Nat) : W.cell? ⟨k1, i, none⟩ = c1[i]? := cell_of_row _ k1 i _ 22 (0, 0) h.2.1
theorem SK.c2 {w : World} {k1 k2 : Nat} {c1 c2 : Array Value} {W : World} (h : SK w k1 k2 c1 c2 W) (i : Nat) : W.cell? ⟨k2, i, none⟩ = c2[i]? := cell_of_row _ k2 i _ 22 (0, 0) h.2.2

/-- What the closure that goes down rows has caught. -/
def DR (n gA gB p2 p3 p4 p5 : Nat) (W : World) : Prop :=
  W.cell? ⟨p2, 0, none⟩ = some (.func (.func 33) #[] #[.pointer (some ⟨gA, 0, none⟩)]) ∧ W.cell? ⟨p3, 0, none⟩ = some (.func (.func 33) #[] #[.pointer (some ⟨gB, 0, none⟩)]) ∧ W.cell? ⟨p4, 0, none⟩ = some (.func (.func 19) #[] #[]) ∧
    W.cell? ⟨p5, 0, none⟩ = some (.func (.func 46) #[] #[.pointer (some ⟨p2, 0, none⟩), .pointer (some ⟨p3, 0, none⟩), .pointer (some ⟨p4, 0, none⟩), .pointer (some ⟨p5, 0, none⟩)]) ∧ W.cell? ⟨gA, 0, none⟩ = some (.int .i64 (n : Int)) ∧ W.cell? ⟨gB, 0, none⟩ = some (.int .i64 (n : Int))
theorem DR.below {n gA gB p2 p3 p4 p5 : Nat} {W W' : World} (h : DR n gA gB p2 p3 p4 p5 W) (hb : Below W.heap.size W W') : DR n gA gB p2 p3 p4 p5 W' := by
  have k := fun (p : Addr) (v : Value) (hv : W.cell? p = some v) => (hb.cell (p := p) (World.block_lt_of_cell? W _ hv)).trans hv
  exact ⟨k _ _ h.1, k _ _ h.2.1, k _ _ h.2.2.1, k _ _ h.2.2.2.1, k _ _ h.2.2.2.2.1, k _ _ h.2.2.2.2.2⟩

set_option maxRecDepth 100000 in
set_option maxHeartbeats 1000000 in
theorem down46R (n : Nat) (h0 : 1 ≤ n) (h1 : n ≤ 32) (gA gB p2 p3 p4 p5 : Nat) : ∀ (m : Nat) (la lb : List ByteArray) (a a2 : Option Addr) (ca cb : Nat) (w : World), la.length = m → lb.length = m → m ≤ 4096 → (∀ t ∈ la, t.size ≤ 700000) → (∀ t ∈ lb, t.size ≤ 700000) →
    StrsAt w a la → StrsAt w a2 lb → m ≤ ca → m ≤ cb → KHeld w → DR n gA gB p2 p3 p4 p5 w → la ≠ lb →
    Calls Tryd.prog 46 #[.slice a m ca, .slice a2 m cb, .pointer (some ⟨p2, 0, none⟩), .pointer (some ⟨p3, 0, none⟩), .pointer (some ⟨p4, 0, none⟩), .pointer (some ⟨p5, 0, none⟩)] w fun e w' => e = .returned (.tuple #[.string (findS (cutH n) la lb).1, .string (findS (cutH n) la lb).2]) ∧ Below w.heap.size w w' := by
  intro m
  induction m using Nat.strongRecOn with
  | ind m ih =>
  intro la lb a a2 ca cb w hla hlb hm hza hzb hra hrb hca hcb hK hD hne
  have hfn : hashedS (cutH n) la ≠ hashedS (cutH n) lb → findS (cutH n) la lb = (hashedS (cutH n) la, hashedS (cutH n) lb) := findS_now _
  have hfe : hashedS (cutH n) la = hashedS (cutH n) lb → 2 ≤ m := fun e => by
    rcases Nat.lt_or_ge m 2 with hlt | hge
    · exact absurd ((hashed_inj (cutH n) n (cutH_size n h1) (hla.trans hlb.symm) e).1 (by omega)) hne
    · exact hge
  have hfl : hashedS (cutH n) la = hashedS (cutH n) lb → la.take (spl m) ≠ lb.take (spl m) → findS (cutH n) la lb = findS (cutH n) (la.take (spl m)) (lb.take (spl m)) := fun e ht => by
    have h2 := hfe e
    have := findS_left (cutH n) e (by omega) (by rw [hla]; exact ht)
    rwa [hla] at this
  have hfr : hashedS (cutH n) la = hashedS (cutH n) lb → la.take (spl m) = lb.take (spl m) → findS (cutH n) la lb = findS (cutH n) (la.drop (spl m)) (lb.drop (spl m)) := fun e ht => by
    have h2 := hfe e
    have := findS_right (cutH n) e (by omega) (by rw [hla]; exact ht)
    rwa [hla] at this
  obtain ⟨RES, hRES⟩ : ∃ R, findS (cutH n) la lb = R := ⟨_, rfl⟩
  rw [hRES] at hfn hfl hfr ⊢
  clear hRES
  have HA := Lib.hid (fun (W : World) (hb : Below w.heap.size w W) => hashed33 n h0 h1 m la a ca gA W hla hm hza (hra.below hb) hca (KHeld_of hK hb) (hD.below hb).2.2.2.2.1)
  have HB := Lib.hid (fun (W : World) (hb : Below w.heap.size w W) => hashed33 n h0 h1 m lb a2 cb gB W hlb hm hzb (hrb.below hb) hcb (KHeld_of hK hb) (hD.below hb).2.2.2.2.2)
  obtain ⟨X, hX⟩ : ∃ X, hashedS (cutH n) la = X := ⟨_, rfl⟩
  obtain ⟨Y, hY⟩ : ∃ Y, hashedS (cutH n) lb = Y := ⟨_, rfl⟩
  rw [hX] at HA
  rw [hY] at HB
  rw [hX, hY] at hfn hfe hfl hfr
  have d2 := Lib.hid hD.1; have d3 := Lib.hid hD.2.1; have d4 := Lib.hid hD.2.2.1; have d5 := Lib.hid hD.2.2.2.1
  have l2 := Lib.hid (World.block_lt_of_cell? w _ hD.1); have l3 := Lib.hid (World.block_lt_of_cell? w _ hD.2.1); have l4 := Lib.hid (World.block_lt_of_cell? w _ hD.2.2.1); have l5 := Lib.hid (World.block_lt_of_cell? w _ hD.2.2.2.1)
  have HE1 := enters33; have HE2 := enters19; have HE3 := enters46
  have HNOW := Lib.hid hfn; have HTWO := Lib.hid hfe; have HLEFT := Lib.hid hfl; have HRIGHT := Lib.hid hfr; have HNE := Lib.hid hne
  have HRA := Lib.hid hra; have HRB := Lib.hid hrb; have HLA := Lib.hid hla; have HLB := Lib.hid hlb
  have IH := Lib.hid (fun (k : Nat) (hk : k < m) (xa xb : List ByteArray) (b1 b2 : Option Addr) (c1 c2 : Nat) (W : World) (hb : Below w.heap.size w W) (e1 : xa.length = k) (e2 : xb.length = k) (z1 : ∀ t ∈ xa, t.size ≤ 700000) (z2 : ∀ t ∈ xb, t.size ≤ 700000) (r1 : StrsAt W b1 xa) (r2 : StrsAt W b2 xb) (q1 : k ≤ c1) (q2 : k ≤ c2) (ne : xa ≠ xb) =>
    ih k hk xa xb b1 b2 c1 c2 W e1 e2 (by omega) z1 z2 r1 r2 q1 q2 (KHeld_of hK hb) (hD.below hb) ne)
  have HZA := Lib.hid hza; have HZB := Lib.hid hzb
  clear hfn hfe hfl hfr hne hra hrb hla hlb ih hza hzb hK hD hX hY
  go_enter Tryd.func46, Tryd.ntmps46
  go_upto_region 1 with (fail)
  refine wp_region_held_drew (S := fun W => Below w.heap.size w W) (by kernel_rfl) ((Below.refl _ w).drew) (fun hS => ?_)
  refine wpAnyH_take (i := 0) (v := .func (.func 33) #[] #[.pointer (some ⟨gA, 0, none⟩)]) rfl (by kernel_rfl) (by kernel_rfl) (by kernel_rfl) (fun _ _ _ h => h) (Or.inl ⟨by simp [Region.wanted], fun W hW => by have h1 := (hW.cell (p := ⟨p2, 0, none⟩) l2.out).trans d2.out; go_simp⟩) hS ?_
  simp only [List.getElem_toArray, List.getElem_cons_zero, Act.put, List.setIfInBounds_toArray, List.set_cons_zero, List.set_cons_succ]
  refine wpAnyH_take (i := 1) (v := .slice a m ca) rfl (by kernel_rfl) (by kernel_rfl) (by kernel_rfl) (fun _ _ _ h => h) (Or.inl ⟨by simp [Region.wanted], fun W _ => by go_simp⟩) hS ?_
  simp only [List.getElem_toArray, List.getElem_cons_zero, List.getElem_cons_succ, Act.put, List.setIfInBounds_toArray, List.set_cons_zero, List.set_cons_succ]
  refine wpAnyH_take (i := 3) (v := .func (.func 33) #[] #[.pointer (some ⟨gB, 0, none⟩)]) rfl (by kernel_rfl) (by kernel_rfl) (by kernel_rfl) (fun _ _ _ h => h) (Or.inl ⟨by simp [Region.wanted], fun W hW => by have h1 := (hW.cell (p := ⟨p3, 0, none⟩) l3.out).trans d3.out; go_simp⟩) hS ?_
  simp only [List.getElem_toArray, List.getElem_cons_zero, List.getElem_cons_succ, Act.put, List.setIfInBounds_toArray, List.set_cons_zero, List.set_cons_succ]
  refine wpAnyH_take (i := 4) (v := .slice a2 m cb) rfl (by kernel_rfl) (by kernel_rfl) (by kernel_rfl) (fun _ _ _ h => h) (Or.inl ⟨by simp [Region.wanted], fun W _ => by go_simp⟩) hS ?_
  simp only [List.getElem_toArray, List.getElem_cons_zero, List.getElem_cons_succ, Act.put, List.setIfInBounds_toArray, List.set_cons_zero, List.set_cons_succ]
  refine wpAnyH_ready (rs := [2]) (by kernel_rfl) (by simp) ?_
  refine AllReadyH.cons rfl (fun K1 hK1 => ?_) AllReadyH.nil
  refine wanted_go rfl ?_
  simp only [List.getElem_toArray, List.getElem_cons_zero, List.getElem_cons_succ]
  go_wp2_with (with_reducible refine (HA.out _ hS).mono ?_; rintro e w2 ⟨rfl, hb2⟩; have HB2 := Lib.hid hb2; clear hb2)
  refine hK1.out _ _ (bt2 hS HB2.out) (fun hS1 => ?_)
  refine wpAnyH_ready (rs := [5]) (by kernel_rfl) (by simp) ?_
  refine AllReadyH.cons rfl (fun K2 hK2 => ?_) AllReadyH.nil
  refine wanted_go rfl ?_
  simp only [List.getElem_toArray, List.getElem_cons_zero, List.getElem_cons_succ]
  go_wp2_with (with_reducible refine (HB.out _ hS1).mono ?_; rintro e w3 ⟨rfl, hb3⟩; have HB3 := Lib.hid hb3; clear hb3)
  refine hK2.out _ _ (bt2 hS1 HB3.out) (fun hS2 => ?_)
  refine wpAnyH_take (i := 6) (v := .string X) rfl (by kernel_rfl) (by kernel_rfl) (by kernel_rfl) (fun _ _ _ h => h) (Or.inl ⟨by simp [Region.wanted], fun W _ => by go_simp⟩) hS2 ?_
  simp only [List.getElem_toArray, List.getElem_cons_zero, List.getElem_cons_succ, Act.put, List.setIfInBounds_toArray, List.set_cons_zero, List.set_cons_succ]
  refine wpAnyH_take (i := 7) (v := .string Y) rfl (by kernel_rfl) (by kernel_rfl) (by kernel_rfl) (fun _ _ _ h => h) (Or.inl ⟨by simp [Region.wanted], fun W _ => by go_simp⟩) hS2 ?_
  simp only [List.getElem_toArray, List.getElem_cons_zero, List.getElem_cons_succ, Act.put, List.setIfInBounds_toArray, List.set_cons_zero, List.set_cons_succ]
  refine wpAnyH_done (by kernel_rfl) ?_ _
  have HW3 := Lib.hid hS2
  clear hS hS1 hS2 hK1 hK2
  by_cases hxy : X = Y
  · subst hxy
    have h2 := HTWO.out rfl
    have p1 := spl_pos h2
    have p2' := spl_lt h2
    obtain ⟨b1, o1, rfl, _, _⟩ := HRA.out.some (by rw [HLA.out]; omega)
    obtain ⟨b2, o2, rfl, _, _⟩ := HRB.out.some (by rw [HLB.out]; omega)
    have hl := HLEFT.out rfl
    have hr := HRIGHT.out rfl
    have HSA := Lib.hid (fun W => sides19 b1 o1 m ca W h2 (by omega) hca)
    have HSB := Lib.hid (fun W => sides19 b2 o2 m cb W h2 (by omega) hcb)
    have HEQ := Lib.hid (fun (W : World) (hb : Below w.heap.size w W) => equal31b (some ⟨b1, o1, none⟩) (some ⟨b2, o2, none⟩) (la.take (spl m)) (lb.take (spl m)) (spl m) (spl m) ca cb W (by simp; have := HLA.out; omega) (by simp; have := HLB.out; omega) ((HRA.out.take _).below hb) ((HRB.out.take _).below hb) (by omega) (by omega))
    have HI1 := Lib.hid (fun (ne : la.take (spl m) ≠ lb.take (spl m)) (W : World) (hb : Below w.heap.size w W) => IH.out (spl m) p2' (la.take (spl m)) (lb.take (spl m)) (some ⟨b1, o1, none⟩) (some ⟨b2, o2, none⟩) ca cb W hb (by simp; have := HLA.out; omega) (by simp; have := HLB.out; omega) (mem_take' HZA.out) (mem_take' HZB.out) ((HRA.out.take _).below hb) ((HRB.out.take _).below hb) (by omega) (by omega) ne)
    have HI2 := Lib.hid (fun (ne : la.drop (spl m) ≠ lb.drop (spl m)) (W : World) (hb : Below w.heap.size w W) => IH.out (m - spl m) (by omega) (la.drop (spl m)) (lb.drop (spl m)) (some ⟨b1, o1 + spl m, none⟩) (some ⟨b2, o2 + spl m, none⟩) (ca - spl m) (cb - spl m) W hb (by simp; have := HLA.out; omega) (by simp; have := HLB.out; omega) (mem_drop' HZA.out) (mem_drop' HZB.out) ((HRA.out.drop _).below hb) ((HRB.out.drop _).below hb) (by omega) (by omega) ne)
    have HDR := Lib.hid (show la.take (spl m) = lb.take (spl m) → la.drop (spl m) ≠ lb.drop (spl m) from fun ht hd => HNE.out (by rw [← List.take_append_drop (spl m) la, ht, hd, List.take_append_drop]))
    obtain ⟨RL, hRL⟩ : ∃ R, findS (cutH n) (la.take (spl m)) (lb.take (spl m)) = R := ⟨_, rfl⟩
    obtain ⟨RR, hRR⟩ : ∃ R, findS (cutH n) (la.drop (spl m)) (lb.drop (spl m)) = R := ⟨_, rfl⟩
    rw [hRL] at hl HI1
    rw [hRR] at hr HI2
    have HL := Lib.hid hl; have HRT := Lib.hid hr
    clear hl hr hRL hRR HLEFT HRIGHT HNOW HTWO IH HZA HZB HRA HRB HLA HLB HNE HA HB
    obtain ⟨TK, hTK⟩ : ∃ t, decide (la.take (spl m) = lb.take (spl m)) = t := ⟨_, rfl⟩
    rw [hTK] at HEQ
    have HTK := Lib.hid hTK
    clear hTK
    generalize spl m = s at *
    have ne0 : (X.toList == X.toList) = true := by simp
    go_upto_region 4 with (fail)
    clear ne0
    refine wp_region_held_drew (S := fun W => Below w.heap.size w W) (by kernel_rfl) (HW3.out.drew) (fun hS => ?_)
    refine wpAnyH_take (i := 0) (v := .func (.func 19) #[] #[]) rfl (by kernel_rfl) (by kernel_rfl) (by kernel_rfl) (fun _ _ _ h => h) (Or.inl ⟨by simp [Region.wanted], fun W hW => by have h1 := (hW.cell (p := ⟨p4, 0, none⟩) l4.out).trans d4.out; go_simp⟩) hS ?_
    simp only [List.getElem_toArray, List.getElem_cons_zero, Act.put, List.setIfInBounds_toArray, List.set_cons_zero, List.set_cons_succ]
    refine wpAnyH_take (i := 1) (v := .slice (some ⟨b1, o1, none⟩) m ca) rfl (by kernel_rfl) (by kernel_rfl) (by kernel_rfl) (fun _ _ _ h => h) (Or.inl ⟨by simp [Region.wanted], fun W _ => by go_simp⟩) hS ?_
    simp only [List.getElem_toArray, List.getElem_cons_zero, List.getElem_cons_succ, Act.put, List.setIfInBounds_toArray, List.set_cons_zero, List.set_cons_succ]
    refine wpAnyH_take (i := 3) (v := .func (.func 19) #[] #[]) rfl (by kernel_rfl) (by kernel_rfl) (by kernel_rfl) (fun _ _ _ h => h) (Or.inl ⟨by simp [Region.wanted], fun W hW => by have h1 := (hW.cell (p := ⟨p4, 0, none⟩) l4.out).trans d4.out; go_simp⟩) hS ?_
    simp only [List.getElem_toArray, List.getElem_cons_zero, List.getElem_cons_succ, Act.put, List.setIfInBounds_toArray, List.set_cons_zero, List.set_cons_succ]
    refine wpAnyH_take (i := 4) (v := .slice (some ⟨b2, o2, none⟩) m cb) rfl (by kernel_rfl) (by kernel_rfl) (by kernel_rfl) (fun _ _ _ h => h) (Or.inl ⟨by simp [Region.wanted], fun W _ => by go_simp⟩) hS ?_
    simp only [List.getElem_toArray, List.getElem_cons_zero, List.getElem_cons_succ, Act.put, List.setIfInBounds_toArray, List.set_cons_zero, List.set_cons_succ]
    refine wpAnyH_ready (rs := [2]) (by kernel_rfl) (by simp) ?_
    refine AllReadyH.cons rfl (fun K1 hK1 => ?_) AllReadyH.nil
    refine wanted_go rfl ?_
    simp only [List.getElem_toArray, List.getElem_cons_zero, List.getElem_cons_succ]
    go_wp2_with (with_reducible refine (HSA.out _).mono ?_; rintro e w4 ⟨k1, rfl, hk1, hc1, hb4⟩; have HB4 := Lib.hid hb4; have HK1 := Lib.hid hc1; clear hb4 hc1)
    refine hK1.out _ _ (bt2 hS HB4.out) (fun hS1 => ?_)
    refine wpAnyH_ready (rs := [5]) (by kernel_rfl) (by simp) ?_
    refine AllReadyH.cons rfl (fun K2 hK2 => ?_) AllReadyH.nil
    refine wanted_go rfl ?_
    simp only [List.getElem_toArray, List.getElem_cons_zero, List.getElem_cons_succ]
    go_wp2_with (with_reducible refine (HSB.out _).mono ?_; rintro e w5 ⟨k2, rfl, hk2, hc2, hb5⟩; have HB5 := Lib.hid hb5; have HK2 := Lib.hid hc2; clear hb5 hc2)
    refine hK2.out _ _ (bt2 hS1 HB5.out) (fun hS2 => ?_)
    refine wpAnyH_take (i := 6) (v := .slice (some ⟨k1, 0, none⟩) 2 2) rfl (by kernel_rfl) (by kernel_rfl) (by kernel_rfl) (fun _ _ _ h => h) (Or.inl ⟨by simp [Region.wanted], fun W _ => by go_simp⟩) hS2 ?_
    simp only [List.getElem_toArray, List.getElem_cons_zero, List.getElem_cons_succ, Act.put, List.setIfInBounds_toArray, List.set_cons_zero, List.set_cons_succ]
    refine wpAnyH_take (i := 7) (v := .slice (some ⟨k2, 0, none⟩) 2 2) rfl (by kernel_rfl) (by kernel_rfl) (by kernel_rfl) (fun _ _ _ h => h) (Or.inl ⟨by simp [Region.wanted], fun W _ => by go_simp⟩) hS2 ?_
    simp only [List.getElem_toArray, List.getElem_cons_zero, List.getElem_cons_succ, Act.put, List.setIfInBounds_toArray, List.set_cons_zero, List.set_cons_succ]
    refine wpAnyH_done (by kernel_rfl) ?_ _
    have HSK := Lib.hid (show SK w k1 k2 #[.slice (some ⟨b1, o1, none⟩) s ca, .slice (some ⟨b1, o1 + s, none⟩) (m - s) (ca - s)] #[.slice (some ⟨b2, o2, none⟩) s cb, .slice (some ⟨b2, o2 + s, none⟩) (m - s) (cb - s)] w5 from ⟨hS2, (HB5.out.block k1 (lt_of_block HK1.out)).trans HK1.out, HK2.out⟩)
    clear hS hS1 hS2 hK1 hK2 hk1 hk2 HB4 HB5 HK1 HK2 HW3
    go_upto_region 7 with (fail)
    go_loopw [37] (fun vi W => ∃ (i : Nat), i ≤ 1 ∧ vi = .int .i64 (i : Int) ∧ (i = 1 → TK = true) ∧ SK w k1 k2 #[.slice (some ⟨b1, o1, none⟩) s ca, .slice (some ⟨b1, o1 + s, none⟩) (m - s) (ca - s)] #[.slice (some ⟨b2, o2, none⟩) s cb, .slice (some ⟨b2, o2 + s, none⟩) (m - s) (cb - s)] W) (fun vi _ => 1 - (intOf vi).toNat)
    case atStart => exact ⟨0, by omega, rfl, by omega, HSK.out⟩
    case round =>
      obtain ⟨i, hi1, rfl, htk, hsk⟩ := hrel
      have HTR := Lib.hid htk; have HS := Lib.hid hsk
      clear htk hsk
      by_cases i0 : i = 0
      · subst i0
        go_upto_region 9 with (fail)
        refine wp_region_held_drew (S := SK w k1 k2 #[.slice (some ⟨b1, o1, none⟩) s ca, .slice (some ⟨b1, o1 + s, none⟩) (m - s) (ca - s)] #[.slice (some ⟨b2, o2, none⟩) s cb, .slice (some ⟨b2, o2 + s, none⟩) (m - s) (cb - s)]) (by kernel_rfl) (HS.out.drew) (fun hS => ?_)
        refine wpAnyH_take (i := 0) (v := .slice (some ⟨k1, 0, none⟩) 2 2) rfl (by kernel_rfl) (by kernel_rfl) (by kernel_rfl) (fun _ _ _ h => h) (Or.inl ⟨by simp [Region.wanted], fun W _ => by go_simp⟩) hS ?_
        simp only [List.getElem_toArray, List.getElem_cons_zero, Act.put, List.setIfInBounds_toArray, List.set_cons_zero, List.set_cons_succ]
        refine wpAnyH_take (i := 1) (v := .int .i64 0) rfl (by kernel_rfl) (by kernel_rfl) (by kernel_rfl) (fun _ _ _ h => h) (Or.inl ⟨by simp [Region.wanted], fun W _ => by go_simp⟩) hS ?_
        simp only [List.getElem_toArray, List.getElem_cons_zero, List.getElem_cons_succ, Act.put, List.setIfInBounds_toArray, List.set_cons_zero, List.set_cons_succ]
        refine wpAnyH_take (i := 2) (v := .pointer (some ⟨k1, 0, none⟩)) rfl (by kernel_rfl) (by kernel_rfl) (by kernel_rfl) (fun _ _ _ h => h) (Or.inl ⟨by simp [Region.wanted], fun W _ => by go_simp⟩) hS ?_
        simp only [List.getElem_toArray, List.getElem_cons_zero, List.getElem_cons_succ, Act.put, List.setIfInBounds_toArray, List.set_cons_zero, List.set_cons_succ]
        refine wpAnyH_take (i := 3) (v := .slice (some ⟨b1, o1, none⟩) s ca) rfl (by kernel_rfl) (by kernel_rfl) (by kernel_rfl) (fun _ _ _ h => h) (Or.inl ⟨by simp [Region.wanted], fun W hW => by have h1 := hW.c1 0; go_simp⟩) hS ?_
        simp only [List.getElem_toArray, List.getElem_cons_zero, List.getElem_cons_succ, Act.put, List.setIfInBounds_toArray, List.set_cons_zero, List.set_cons_succ]
        refine wpAnyH_take (i := 4) (v := .slice (some ⟨k2, 0, none⟩) 2 2) rfl (by kernel_rfl) (by kernel_rfl) (by kernel_rfl) (fun _ _ _ h => h) (Or.inl ⟨by simp [Region.wanted], fun W _ => by go_simp⟩) hS ?_
        simp only [List.getElem_toArray, List.getElem_cons_zero, List.getElem_cons_succ, Act.put, List.setIfInBounds_toArray, List.set_cons_zero, List.set_cons_succ]
        refine wpAnyH_take (i := 5) (v := .int .i64 0) rfl (by kernel_rfl) (by kernel_rfl) (by kernel_rfl) (fun _ _ _ h => h) (Or.inl ⟨by simp [Region.wanted], fun W _ => by go_simp⟩) hS ?_
        simp only [List.getElem_toArray, List.getElem_cons_zero, List.getElem_cons_succ, Act.put, List.setIfInBounds_toArray, List.set_cons_zero, List.set_cons_succ]
        refine wpAnyH_take (i := 6) (v := .pointer (some ⟨k2, 0, none⟩)) rfl (by kernel_rfl) (by kernel_rfl) (by kernel_rfl) (fun _ _ _ h => h) (Or.inl ⟨by simp [Region.wanted], fun W _ => by go_simp⟩) hS ?_
        simp only [List.getElem_toArray, List.getElem_cons_zero, List.getElem_cons_succ, Act.put, List.setIfInBounds_toArray, List.set_cons_zero, List.set_cons_succ]
        refine wpAnyH_take (i := 7) (v := .slice (some ⟨b2, o2, none⟩) s cb) rfl (by kernel_rfl) (by kernel_rfl) (by kernel_rfl) (fun _ _ _ h => h) (Or.inl ⟨by simp [Region.wanted], fun W hW => by have h1 := hW.c2 0; go_simp⟩) hS ?_
        simp only [List.getElem_toArray, List.getElem_cons_zero, List.getElem_cons_succ, Act.put, List.setIfInBounds_toArray, List.set_cons_zero, List.set_cons_succ]
        refine wpAnyH_ready (rs := [8]) (by kernel_rfl) (by simp) ?_
        refine AllReadyH.cons rfl (fun K1 hK1 => ?_) AllReadyH.nil
        refine wanted_go rfl ?_
        simp only [List.getElem_toArray, List.getElem_cons_zero, List.getElem_cons_succ]
        go_wp2_with (go_at_call 31; refine (HEQ.out _ hS.1).mono ?_; rintro e w6 ⟨rfl, hb6⟩; have HB6 := Lib.hid hb6; clear hb6)
        refine hK1.out _ _ (hS.below HB6.out) (fun hS1 => ?_)
        refine wpAnyH_take (i := 9) (v := .bool (!TK)) rfl (by kernel_rfl) (by kernel_rfl) (by kernel_rfl) (fun _ _ _ h => h) (Or.inl ⟨by simp [Region.wanted], fun W _ => by go_simp⟩) hS1 ?_
        simp only [List.getElem_toArray, List.getElem_cons_zero, List.getElem_cons_succ, Act.put, List.setIfInBounds_toArray, List.set_cons_zero, List.set_cons_succ]
        refine wpAnyH_done (by kernel_rfl) ?_ _
        have HS1 := Lib.hid hS1
        clear hS hS1 hK1 HS
        cases TK
        · have HLL := HL.out (of_decide_eq_false HTK.out)
          have HI1' := Lib.hid (HI1.out (of_decide_eq_false HTK.out))
          have HEND := Lib.hid HLL
          clear HLL HI1
          go_upto_region 10 with (fail)
          refine wp_region_held_drew (S := fun W => Below w.heap.size w W ∧ SK w k1 k2 #[.slice (some ⟨b1, o1, none⟩) s ca, .slice (some ⟨b1, o1 + s, none⟩) (m - s) (ca - s)] #[.slice (some ⟨b2, o2, none⟩) s cb, .slice (some ⟨b2, o2 + s, none⟩) (m - s) (cb - s)] W) (by kernel_rfl) (⟨HS1.out.1.drew, HS1.out.drew⟩) (fun hS => ?_)
          refine wpAnyH_take (i := 0) (v := .func (.func 46) #[] #[.pointer (some ⟨p2, 0, none⟩), .pointer (some ⟨p3, 0, none⟩), .pointer (some ⟨p4, 0, none⟩), .pointer (some ⟨p5, 0, none⟩)]) rfl (by kernel_rfl) (by kernel_rfl) (by kernel_rfl) (fun _ _ _ h => h) (Or.inl ⟨by simp [Region.wanted], fun W hW => by have h1 := (hW.1.cell (p := ⟨p5, 0, none⟩) l5.out).trans d5.out; go_simp⟩) hS ?_
          simp only [List.getElem_toArray, List.getElem_cons_zero, Act.put, List.setIfInBounds_toArray, List.set_cons_zero, List.set_cons_succ]
          refine wpAnyH_take (i := 1) (v := .slice (some ⟨k1, 0, none⟩) 2 2) rfl (by kernel_rfl) (by kernel_rfl) (by kernel_rfl) (fun _ _ _ h => h) (Or.inl ⟨by simp [Region.wanted], fun W _ => by go_simp⟩) hS ?_
          simp only [List.getElem_toArray, List.getElem_cons_zero, List.getElem_cons_succ, Act.put, List.setIfInBounds_toArray, List.set_cons_zero, List.set_cons_succ]
          refine wpAnyH_take (i := 2) (v := .int .i64 0) rfl (by kernel_rfl) (by kernel_rfl) (by kernel_rfl) (fun _ _ _ h => h) (Or.inl ⟨by simp [Region.wanted], fun W _ => by go_simp⟩) hS ?_
          simp only [List.getElem_toArray, List.getElem_cons_zero, List.getElem_cons_succ, Act.put, List.setIfInBounds_toArray, List.set_cons_zero, List.set_cons_succ]
          refine wpAnyH_take (i := 3) (v := .pointer (some ⟨k1, 0, none⟩)) rfl (by kernel_rfl) (by kernel_rfl) (by kernel_rfl) (fun _ _ _ h => h) (Or.inl ⟨by simp [Region.wanted], fun W _ => by go_simp⟩) hS ?_
          simp only [List.getElem_toArray, List.getElem_cons_zero, List.getElem_cons_succ, Act.put, List.setIfInBounds_toArray, List.set_cons_zero, List.set_cons_succ]
          refine wpAnyH_take (i := 4) (v := .slice (some ⟨b1, o1, none⟩) s ca) rfl (by kernel_rfl) (by kernel_rfl) (by kernel_rfl) (fun _ _ _ h => h) (Or.inl ⟨by simp [Region.wanted], fun W hW => by have h1 := hW.2.c1 0; go_simp⟩) hS ?_
          simp only [List.getElem_toArray, List.getElem_cons_zero, List.getElem_cons_succ, Act.put, List.setIfInBounds_toArray, List.set_cons_zero, List.set_cons_succ]
          refine wpAnyH_take (i := 5) (v := .slice (some ⟨k2, 0, none⟩) 2 2) rfl (by kernel_rfl) (by kernel_rfl) (by kernel_rfl) (fun _ _ _ h => h) (Or.inl ⟨by simp [Region.wanted], fun W _ => by go_simp⟩) hS ?_
          simp only [List.getElem_toArray, List.getElem_cons_zero, List.getElem_cons_succ, Act.put, List.setIfInBounds_toArray, List.set_cons_zero, List.set_cons_succ]
          refine wpAnyH_take (i := 6) (v := .int .i64 0) rfl (by kernel_rfl) (by kernel_rfl) (by kernel_rfl) (fun _ _ _ h => h) (Or.inl ⟨by simp [Region.wanted], fun W _ => by go_simp⟩) hS ?_
          simp only [List.getElem_toArray, List.getElem_cons_zero, List.getElem_cons_succ, Act.put, List.setIfInBounds_toArray, List.set_cons_zero, List.set_cons_succ]
          refine wpAnyH_take (i := 7) (v := .pointer (some ⟨k2, 0, none⟩)) rfl (by kernel_rfl) (by kernel_rfl) (by kernel_rfl) (fun _ _ _ h => h) (Or.inl ⟨by simp [Region.wanted], fun W _ => by go_simp⟩) hS ?_
          simp only [List.getElem_toArray, List.getElem_cons_zero, List.getElem_cons_succ, Act.put, List.setIfInBounds_toArray, List.set_cons_zero, List.set_cons_succ]
          refine wpAnyH_take (i := 8) (v := .slice (some ⟨b2, o2, none⟩) s cb) rfl (by kernel_rfl) (by kernel_rfl) (by kernel_rfl) (fun _ _ _ h => h) (Or.inl ⟨by simp [Region.wanted], fun W hW => by have h1 := hW.2.c2 0; go_simp⟩) hS ?_
          simp only [List.getElem_toArray, List.getElem_cons_zero, List.getElem_cons_succ, Act.put, List.setIfInBounds_toArray, List.set_cons_zero, List.set_cons_succ]
          refine wpAnyH_ready (rs := [9]) (by kernel_rfl) (by simp) ?_
          refine AllReadyH.cons rfl (fun K1 hK1 => ?_) AllReadyH.nil
          refine wanted_go rfl ?_
          simp only [List.getElem_toArray, List.getElem_cons_zero, List.getElem_cons_succ]
          go_wp2_with (with_reducible refine (HI1'.out _ hS.1).mono ?_; rintro e w7 ⟨rfl, hb7⟩; have HB7 := Lib.hid hb7; clear hb7)
          refine hK1.out _ _ (⟨bt2 hS.1 HB7.out, hS.2.below HB7.out⟩) (fun hS1 => ?_)
          refine wpAnyH_take (i := 10) (v := .string RL.1) rfl (by kernel_rfl) (by kernel_rfl) (by kernel_rfl) (fun _ _ _ h => h) (Or.inl ⟨by simp [Region.wanted], fun W _ => by go_simp⟩) hS1 ?_
          simp only [List.getElem_toArray, List.getElem_cons_zero, List.getElem_cons_succ, Act.put, List.setIfInBounds_toArray, List.set_cons_zero, List.set_cons_succ]
          refine wpAnyH_take (i := 11) (v := .string RL.2) rfl (by kernel_rfl) (by kernel_rfl) (by kernel_rfl) (fun _ _ _ h => h) (Or.inl ⟨by simp [Region.wanted], fun W _ => by go_simp⟩) hS1 ?_
          simp only [List.getElem_toArray, List.getElem_cons_zero, List.getElem_cons_succ, Act.put, List.setIfInBounds_toArray, List.set_cons_zero, List.set_cons_succ]
          refine wpAnyH_take (i := 12) (v := .string RL.1) rfl (by kernel_rfl) (by kernel_rfl) (by kernel_rfl) (fun _ _ _ h => h) (Or.inl ⟨by simp [Region.wanted], fun W _ => by go_simp⟩) hS1 ?_
          simp only [List.getElem_toArray, List.getElem_cons_zero, List.getElem_cons_succ, Act.put, List.setIfInBounds_toArray, List.set_cons_zero, List.set_cons_succ]
          refine wpAnyH_take (i := 13) (v := .string RL.2) rfl (by kernel_rfl) (by kernel_rfl) (by kernel_rfl) (fun _ _ _ h => h) (Or.inl ⟨by simp [Region.wanted], fun W _ => by go_simp⟩) hS1 ?_
          simp only [List.getElem_toArray, List.getElem_cons_zero, List.getElem_cons_succ, Act.put, List.setIfInBounds_toArray, List.set_cons_zero, List.set_cons_succ]
          refine wpAnyH_done (by kernel_rfl) ?_ _
          have HF := Lib.hid hS1.1
          clear hS hS1 hK1
          go_wp2
          go_ret2
          exact ⟨by have h := HEND.out; subst h; rfl, HF.out⟩
        · go_wp2
          go_roundw
          case rel => exact ⟨1, by omega, rfl, by simp, HS1.out⟩
          case measure => simp [intOf]
      · have i1 : i = 1 := by omega
        subst i1
        have htt := HTR.out rfl
        rw [htt] at HTK
        have HLL := HRT.out (of_decide_eq_true HTK.out)
        have HI2' := Lib.hid (HI2.out (HDR.out (of_decide_eq_true HTK.out)))
        have HEND := Lib.hid HLL
        clear HLL HI2 htt
        go_upto_region 12 with (fail)
        refine wp_region_held_drew (S := fun W => Below w.heap.size w W ∧ SK w k1 k2 #[.slice (some ⟨b1, o1, none⟩) s ca, .slice (some ⟨b1, o1 + s, none⟩) (m - s) (ca - s)] #[.slice (some ⟨b2, o2, none⟩) s cb, .slice (some ⟨b2, o2 + s, none⟩) (m - s) (cb - s)] W) (by kernel_rfl) (⟨HS.out.1.drew, HS.out.drew⟩) (fun hS => ?_)
        refine wpAnyH_take (i := 0) (v := .func (.func 46) #[] #[.pointer (some ⟨p2, 0, none⟩), .pointer (some ⟨p3, 0, none⟩), .pointer (some ⟨p4, 0, none⟩), .pointer (some ⟨p5, 0, none⟩)]) rfl (by kernel_rfl) (by kernel_rfl) (by kernel_rfl) (fun _ _ _ h => h) (Or.inl ⟨by simp [Region.wanted], fun W hW => by have h1 := (hW.1.cell (p := ⟨p5, 0, none⟩) l5.out).trans d5.out; go_simp⟩) hS ?_
        simp only [List.getElem_toArray, List.getElem_cons_zero, Act.put, List.setIfInBounds_toArray, List.set_cons_zero, List.set_cons_succ]
        refine wpAnyH_take (i := 1) (v := .slice (some ⟨k1, 0, none⟩) 2 2) rfl (by kernel_rfl) (by kernel_rfl) (by kernel_rfl) (fun _ _ _ h => h) (Or.inl ⟨by simp [Region.wanted], fun W _ => by go_simp⟩) hS ?_
        simp only [List.getElem_toArray, List.getElem_cons_zero, List.getElem_cons_succ, Act.put, List.setIfInBounds_toArray, List.set_cons_zero, List.set_cons_succ]
        refine wpAnyH_take (i := 2) (v := .int .i64 1) rfl (by kernel_rfl) (by kernel_rfl) (by kernel_rfl) (fun _ _ _ h => h) (Or.inl ⟨by simp [Region.wanted], fun W _ => by go_simp⟩) hS ?_
        simp only [List.getElem_toArray, List.getElem_cons_zero, List.getElem_cons_succ, Act.put, List.setIfInBounds_toArray, List.set_cons_zero, List.set_cons_succ]
        refine wpAnyH_take (i := 3) (v := .pointer (some ⟨k1, 1, none⟩)) rfl (by kernel_rfl) (by kernel_rfl) (by kernel_rfl) (fun _ _ _ h => h) (Or.inl ⟨by simp [Region.wanted], fun W _ => by go_simp⟩) hS ?_
        simp only [List.getElem_toArray, List.getElem_cons_zero, List.getElem_cons_succ, Act.put, List.setIfInBounds_toArray, List.set_cons_zero, List.set_cons_succ]
        refine wpAnyH_take (i := 4) (v := .slice (some ⟨b1, o1 + s, none⟩) (m - s) (ca - s)) rfl (by kernel_rfl) (by kernel_rfl) (by kernel_rfl) (fun _ _ _ h => h) (Or.inl ⟨by simp [Region.wanted], fun W hW => by have h1 := hW.2.c1 1; go_simp⟩) hS ?_
        simp only [List.getElem_toArray, List.getElem_cons_zero, List.getElem_cons_succ, Act.put, List.setIfInBounds_toArray, List.set_cons_zero, List.set_cons_succ]
        refine wpAnyH_take (i := 5) (v := .slice (some ⟨k2, 0, none⟩) 2 2) rfl (by kernel_rfl) (by kernel_rfl) (by kernel_rfl) (fun _ _ _ h => h) (Or.inl ⟨by simp [Region.wanted], fun W _ => by go_simp⟩) hS ?_
        simp only [List.getElem_toArray, List.getElem_cons_zero, List.getElem_cons_succ, Act.put, List.setIfInBounds_toArray, List.set_cons_zero, List.set_cons_succ]
        refine wpAnyH_take (i := 6) (v := .int .i64 1) rfl (by kernel_rfl) (by kernel_rfl) (by kernel_rfl) (fun _ _ _ h => h) (Or.inl ⟨by simp [Region.wanted], fun W _ => by go_simp⟩) hS ?_
        simp only [List.getElem_toArray, List.getElem_cons_zero, List.getElem_cons_succ, Act.put, List.setIfInBounds_toArray, List.set_cons_zero, List.set_cons_succ]
        refine wpAnyH_take (i := 7) (v := .pointer (some ⟨k2, 1, none⟩)) rfl (by kernel_rfl) (by kernel_rfl) (by kernel_rfl) (fun _ _ _ h => h) (Or.inl ⟨by simp [Region.wanted], fun W _ => by go_simp⟩) hS ?_
        simp only [List.getElem_toArray, List.getElem_cons_zero, List.getElem_cons_succ, Act.put, List.setIfInBounds_toArray, List.set_cons_zero, List.set_cons_succ]
        refine wpAnyH_take (i := 8) (v := .slice (some ⟨b2, o2 + s, none⟩) (m - s) (cb - s)) rfl (by kernel_rfl) (by kernel_rfl) (by kernel_rfl) (fun _ _ _ h => h) (Or.inl ⟨by simp [Region.wanted], fun W hW => by have h1 := hW.2.c2 1; go_simp⟩) hS ?_
        simp only [List.getElem_toArray, List.getElem_cons_zero, List.getElem_cons_succ, Act.put, List.setIfInBounds_toArray, List.set_cons_zero, List.set_cons_succ]
        refine wpAnyH_ready (rs := [9]) (by kernel_rfl) (by simp) ?_
        refine AllReadyH.cons rfl (fun K1 hK1 => ?_) AllReadyH.nil
        refine wanted_go rfl ?_
        simp only [List.getElem_toArray, List.getElem_cons_zero, List.getElem_cons_succ]
        go_wp2_with (with_reducible refine (HI2'.out _ hS.1).mono ?_; rintro e w7 ⟨rfl, hb7⟩; have HB7 := Lib.hid hb7; clear hb7)
        refine hK1.out _ _ (⟨bt2 hS.1 HB7.out, hS.2.below HB7.out⟩) (fun hS1 => ?_)
        refine wpAnyH_take (i := 10) (v := .string RR.1) rfl (by kernel_rfl) (by kernel_rfl) (by kernel_rfl) (fun _ _ _ h => h) (Or.inl ⟨by simp [Region.wanted], fun W _ => by go_simp⟩) hS1 ?_
        simp only [List.getElem_toArray, List.getElem_cons_zero, List.getElem_cons_succ, Act.put, List.setIfInBounds_toArray, List.set_cons_zero, List.set_cons_succ]
        refine wpAnyH_take (i := 11) (v := .string RR.2) rfl (by kernel_rfl) (by kernel_rfl) (by kernel_rfl) (fun _ _ _ h => h) (Or.inl ⟨by simp [Region.wanted], fun W _ => by go_simp⟩) hS1 ?_
        simp only [List.getElem_toArray, List.getElem_cons_zero, List.getElem_cons_succ, Act.put, List.setIfInBounds_toArray, List.set_cons_zero, List.set_cons_succ]
        refine wpAnyH_take (i := 12) (v := .string RR.1) rfl (by kernel_rfl) (by kernel_rfl) (by kernel_rfl) (fun _ _ _ h => h) (Or.inl ⟨by simp [Region.wanted], fun W _ => by go_simp⟩) hS1 ?_
        simp only [List.getElem_toArray, List.getElem_cons_zero, List.getElem_cons_succ, Act.put, List.setIfInBounds_toArray, List.set_cons_zero, List.set_cons_succ]
        refine wpAnyH_take (i := 13) (v := .string RR.2) rfl (by kernel_rfl) (by kernel_rfl) (by kernel_rfl) (fun _ _ _ h => h) (Or.inl ⟨by simp [Region.wanted], fun W _ => by go_simp⟩) hS1 ?_
        simp only [List.getElem_toArray, List.getElem_cons_zero, List.getElem_cons_succ, Act.put, List.setIfInBounds_toArray, List.set_cons_zero, List.set_cons_succ]
        refine wpAnyH_done (by kernel_rfl) ?_ _
        have HF := Lib.hid hS1.1
        clear hS hS1 hK1
        go_wp2
        go_ret2
        exact ⟨by have h := HEND.out; subst h; rfl, HF.out⟩
  · have hxb : (X.toList == Y.toList) = false := eqB_ne hxy
    have HEND := Lib.hid (HNOW.out hxy)
    clear hxy
    go_wp2
    go_ret2
    exact ⟨by have h := HEND.out; subst h; rfl, HW3.out⟩
end Go.Proofs.YtalgailclcefdaaDoor
