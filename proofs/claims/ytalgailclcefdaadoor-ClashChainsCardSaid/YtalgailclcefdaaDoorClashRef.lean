/- What is hashed for a row of leaves, and the clash of two, by the document: the contracts of its Hashed, Find. -/
import Derived.Test.YtalgailclcefdaaDoorClashDown
import Derived.Test.YtalgailclcefdaaDoorTreeRef
namespace Go.Proofs.YtalgailclcefdaaDoor
open Go.RowKit

set_option maxRecDepth 100000 in
set_option maxHeartbeats 1000000 in
theorem hashed24 (n : Nat) (h1 : n ≤ 32) (m : Nat) (l : List ByteArray) (a : Option Addr) (cap : Nat) (w : World) (hl : l.length = m) (hm : m ≤ 4096) (hz : ∀ t ∈ l, t.size ≤ 60000) (hr : StrsAt w a l) (hcap : m ≤ cap) :
    Calls Tryd.prog 24 #[.agg keyCells, .slice a m cap, .int .i64 (n : Int)] w fun e w' => e = .returned (.string (hashedS (cutH n) l)) ∧ Below w.heap.size w w' := by
  by_cases e0 : m = 0
  · subst e0
    rw [hashedS_nil _ hl]
    generalize keyCells = kc at *
    clear hr hz
    go_enter Tryd.func24, Tryd.ntmps24
    go_wp2
    go_ret
    exact ⟨rfl, (Below.refl _ w).alloc (Nat.le_refl _) _⟩
  · by_cases e1 : m = 1
    · subst e1
      rw [hashedS_one _ hl]
      obtain ⟨t, ht⟩ : ∃ t, l = [t] := List.length_eq_one_iff.1 hl
      subst ht
      have hts := hz t (by simp)
      obtain ⟨b, off, rfl, hbw, hcell⟩ := hr.some (by simp)
      have c1 := hcell 0 t rfl
      rw [Nat.add_zero] at c1
      rw [show [t].getD 0 ⟨#[]⟩ = t from rfl]
      have e : (⟨#[0]⟩ ++ t : ByteArray).size = 1 + t.size := by rw [size_add]; rfl
      have HD := Lib.hid (show (⟨#[0]⟩ ++ t : ByteArray) = (⟨#[0]⟩ : ByteArray) ++ t from rfl)
      generalize keyCells = kc at *
      have c2 := ((Below.refl w.heap.size w).alloc (Nat.le_refl _) (.cells kc 32)).cell (p := ⟨b, off, none⟩) hbw
      rw [c1] at c2
      clear hr hcell hz
      go_enter Tryd.func24, Tryd.ntmps24
      go_wp2
      go_ret
      exact ⟨rfl, (Below.refl _ w).alloc (Nat.le_refl _) _⟩
    · have h2 : 2 ≤ m := by omega
      rw [hashedS_two _ (by omega), hl]
      obtain ⟨b, off, rfl, hbw, hcell⟩ := hr.some (by omega)
      clear hcell
      have p1 := spl_pos h2
      have p2 := spl_lt h2
      have HS := Lib.hid (fun W => splitR m W (by omega))
      have HI1 := Lib.hid (fun (W : World) (hb : Below w.heap.size w W) => root11 n h1 (spl m) (l.take (spl m)) (some ⟨b, off, none⟩) cap W (by simp; omega) (by omega) (mem_take' (fun t ht => by have := hz t ht; omega)) ((hr.take (spl m)).below hb) (by omega))
      have HI2 := Lib.hid (fun (W : World) (hb : Below w.heap.size w W) => root11 n h1 (m - spl m) (l.drop (spl m)) (some ⟨b, off + spl m, none⟩) (cap - spl m) W (by simp; omega) (by omega) (mem_drop' (fun t ht => by have := hz t ht; omega)) ((hr.drop (spl m)).below hb) (by omega))
      have s1 := rootS_size (cutH n) n (cutH_size n h1) (l.take (spl m))
      have s2 := rootS_size (cutH n) n (cutH_size n h1) (l.drop (spl m))
      generalize rootS (cutH n) (l.take (spl m)) = R1 at *
      generalize rootS (cutH n) (l.drop (spl m)) = R2 at *
      have z1 : (⟨#[1]⟩ ++ R1 : ByteArray).size = 1 + R1.size := by rw [size_add]; rfl
      have z2 : ((⟨#[1]⟩ ++ R1) ++ R2 : ByteArray).size = 1 + R1.size + R2.size := by rw [size_add, z1]
      generalize spl m = s at *
      have HKS := Lib.hid key_size
      generalize keyCells = kc at *
      have b0 : ((m : Int) == 0) = false := by simpa using e0
      have b1 : ((m : Int) == 1) = false := by simp; omega
      have q1 : ¬ cap = s := by omega
      have q2 : (s : Int) ≤ (cap : Int) := by omega
      have q3 : (s : Int) ≤ (m : Int) := by omega
      have q4 : (m : Int) ≤ (cap : Int) := by omega
      clear hr hz hl
      go_enter Tryd.func24, Tryd.ntmps24
      go_upto_region 1 with (fail)
      refine at_world (Φ := KeyS w kc) (KeyS.box w kc) ?_
      rintro W hW
      have HW := Lib.hid hW
      clear hW
      go_upto_region 6 with (go_at_call 22; refine (HS.out _).mono ?_; rintro e w1 ⟨rfl, rfl⟩)
      refine wp_region_held_drew (S := KeyS w kc) (by kernel_rfl) (HW.out.drew) (fun hS => ?_)
      refine wpAnyH_take (i := 0) (v := .agg kc) rfl (by kernel_rfl) (by kernel_rfl) (by kernel_rfl) (fun _ _ _ h => h) (yieldsIf_load rfl 32 (.tmp 3) rfl _ _ rfl (fun W hW => load_key HKS.out hW.1)) hS ?_
      simp only [List.getElem_toArray, List.getElem_cons_zero, Act.put, List.setIfInBounds_toArray, List.set_cons_zero, List.set_cons_succ]
      refine wpAnyH_take (i := 1) (v := .slice (some ⟨b, off, none⟩) m cap) rfl (by kernel_rfl) (by kernel_rfl) (by kernel_rfl) (fun _ _ _ h => h) (Or.inl ⟨by simp [Region.wanted], fun W _ => by go_simp⟩) hS ?_
      simp only [List.getElem_toArray, List.getElem_cons_zero, List.getElem_cons_succ, Act.put, List.setIfInBounds_toArray, List.set_cons_zero, List.set_cons_succ]
      refine wpAnyH_take (i := 2) (v := .int .i64 (s : Int)) rfl (by kernel_rfl) (by kernel_rfl) (by kernel_rfl) (fun _ _ _ h => h) (Or.inl ⟨by simp [Region.wanted], fun W _ => by go_simp⟩) hS ?_
      simp only [List.getElem_toArray, List.getElem_cons_zero, List.getElem_cons_succ, Act.put, List.setIfInBounds_toArray, List.set_cons_zero, List.set_cons_succ]
      refine wpAnyH_take (i := 3) (v := .slice (some ⟨b, off, none⟩) s cap) rfl (by kernel_rfl) (by kernel_rfl) (by kernel_rfl) (fun _ _ _ h => h) (Or.inl ⟨by simp [Region.wanted], fun W _ => by go_simp⟩) hS ?_
      simp only [List.getElem_toArray, List.getElem_cons_zero, List.getElem_cons_succ, Act.put, List.setIfInBounds_toArray, List.set_cons_zero, List.set_cons_succ]
      refine wpAnyH_take (i := 4) (v := .int .i64 (n : Int)) rfl (by kernel_rfl) (by kernel_rfl) (by kernel_rfl) (fun _ _ _ h => h) (Or.inl ⟨by simp [Region.wanted], fun W _ => by go_simp⟩) hS ?_
      simp only [List.getElem_toArray, List.getElem_cons_zero, List.getElem_cons_succ, Act.put, List.setIfInBounds_toArray, List.set_cons_zero, List.set_cons_succ]
      refine wpAnyH_take (i := 7) (v := .agg kc) rfl (by kernel_rfl) (by kernel_rfl) (by kernel_rfl) (fun _ _ _ h => h) (yieldsIf_load rfl 32 (.tmp 3) rfl _ _ rfl (fun W hW => load_key HKS.out hW.1)) hS ?_
      simp only [List.getElem_toArray, List.getElem_cons_zero, List.getElem_cons_succ, Act.put, List.setIfInBounds_toArray, List.set_cons_zero, List.set_cons_succ]
      refine wpAnyH_take (i := 8) (v := .slice (some ⟨b, off, none⟩) m cap) rfl (by kernel_rfl) (by kernel_rfl) (by kernel_rfl) (fun _ _ _ h => h) (Or.inl ⟨by simp [Region.wanted], fun W _ => by go_simp⟩) hS ?_
      simp only [List.getElem_toArray, List.getElem_cons_zero, List.getElem_cons_succ, Act.put, List.setIfInBounds_toArray, List.set_cons_zero, List.set_cons_succ]
      refine wpAnyH_take (i := 9) (v := .int .i64 (s : Int)) rfl (by kernel_rfl) (by kernel_rfl) (by kernel_rfl) (fun _ _ _ h => h) (Or.inl ⟨by simp [Region.wanted], fun W _ => by go_simp⟩) hS ?_
      simp only [List.getElem_toArray, List.getElem_cons_zero, List.getElem_cons_succ, Act.put, List.setIfInBounds_toArray, List.set_cons_zero, List.set_cons_succ]
      refine wpAnyH_take (i := 10) (v := .slice (some ⟨b, off + s, none⟩) (m - s) (cap - s)) rfl (by kernel_rfl) (by kernel_rfl) (by kernel_rfl) (fun _ _ _ h => h) (Or.inl ⟨by simp [Region.wanted], fun W _ => by go_simp⟩) hS ?_
      simp only [List.getElem_toArray, List.getElem_cons_zero, List.getElem_cons_succ, Act.put, List.setIfInBounds_toArray, List.set_cons_zero, List.set_cons_succ]
      refine wpAnyH_take (i := 11) (v := .int .i64 (n : Int)) rfl (by kernel_rfl) (by kernel_rfl) (by kernel_rfl) (fun _ _ _ h => h) (Or.inl ⟨by simp [Region.wanted], fun W _ => by go_simp⟩) hS ?_
      simp only [List.getElem_toArray, List.getElem_cons_zero, List.getElem_cons_succ, Act.put, List.setIfInBounds_toArray, List.set_cons_zero, List.set_cons_succ]
      refine wpAnyH_ready (rs := [5]) (by kernel_rfl) (by simp) ?_
      refine AllReadyH.cons rfl (fun K1 hK1 => ?_) AllReadyH.nil
      refine wanted_go rfl ?_
      simp only [List.getElem_toArray, List.getElem_cons_zero, List.getElem_cons_succ]
      go_wp2_with (go_at_call 10; refine (HI1.out _ hS.2.1).mono ?_; rintro e w1 ⟨rfl, hb1⟩; have HB1 := Lib.hid hb1; clear hb1)
      refine hK1.out _ _ (hS.below HB1.out) (fun hS1 => ?_)
      refine wpAnyH_take (i := 6) (v := .string (⟨#[1]⟩ ++ R1)) rfl (by kernel_rfl) (by kernel_rfl) (by kernel_rfl) (fun _ _ _ h => h) (Or.inl ⟨by simp [Region.wanted], fun W _ => by go_simp; omega⟩) hS1 ?_
      simp only [List.getElem_toArray, List.getElem_cons_zero, List.getElem_cons_succ, Act.put, List.setIfInBounds_toArray, List.set_cons_zero, List.set_cons_succ]
      refine wpAnyH_ready (rs := [12]) (by kernel_rfl) (by simp) ?_
      refine AllReadyH.cons rfl (fun K2 hK2 => ?_) AllReadyH.nil
      refine wanted_go rfl ?_
      simp only [List.getElem_toArray, List.getElem_cons_zero, List.getElem_cons_succ]
      go_wp2_with (go_at_call 10; refine (HI2.out _ hS1.2.1).mono ?_; rintro e w2 ⟨rfl, hb2⟩; have HB2 := Lib.hid hb2; clear hb2)
      refine hK2.out _ _ (hS1.below HB2.out) (fun hS2 => ?_)
      refine wpAnyH_take (i := 13) (v := .string ((⟨#[1]⟩ ++ R1) ++ R2)) rfl (by kernel_rfl) (by kernel_rfl) (by kernel_rfl) (fun _ _ _ h => h) (Or.inl ⟨by simp [Region.wanted], fun W _ => by go_simp; omega⟩) hS2 ?_
      simp only [List.getElem_toArray, List.getElem_cons_zero, List.getElem_cons_succ, Act.put, List.setIfInBounds_toArray, List.set_cons_zero, List.set_cons_succ]
      refine wpAnyH_take (i := 14) (v := .string ((⟨#[1]⟩ ++ R1) ++ R2)) rfl (by kernel_rfl) (by kernel_rfl) (by kernel_rfl) (fun _ _ _ h => h) (Or.inl ⟨by simp [Region.wanted], fun W _ => by go_simp⟩) hS2 ?_
      simp only [List.getElem_toArray, List.getElem_cons_zero, List.getElem_cons_succ, Act.put, List.setIfInBounds_toArray, List.set_cons_zero, List.set_cons_succ]
      refine wpAnyH_done (by kernel_rfl) ?_ _
      go_wp2
      go_ret
      exact ⟨rfl, hS2.2.1⟩

theorem same11b (a a2 : Option Addr) (l q : List ByteArray) (n m ca cb : Nat) (w : World) (hl : l.length = n) (hq : q.length = m) (hr : StrsAt w a l) (hs : StrsAt w a2 q) (hn : n ≤ 60000) (hm : m ≤ 60000) :
    Calls Tryd.prog 11 #[.slice a n ca, .slice a2 m cb] w fun e w' => e = .returned (.bool (decide (l = q))) ∧ Below w.heap.size w w' := by
  refine (same11g a a2 l q n m ca cb w hl hq hr hs hn hm).mono ?_
  rintro e w' ⟨rfl, k, rfl⟩
  exact ⟨rfl, below_drews k⟩

set_option maxRecDepth 100000 in
set_option maxHeartbeats 1000000 in
theorem find12 (n : Nat) (h1 : n ≤ 32) : ∀ (m : Nat) (la lb : List ByteArray) (a a2 : Option Addr) (ca cb : Nat) (w : World), la.length = m → lb.length = m → m ≤ 4096 → (∀ t ∈ la, t.size ≤ 60000) → (∀ t ∈ lb, t.size ≤ 60000) →
    StrsAt w a la → StrsAt w a2 lb → m ≤ ca → m ≤ cb → la ≠ lb →
    Calls Tryd.prog 12 #[.agg keyCells, .slice a m ca, .slice a2 m cb, .int .i64 (n : Int)] w fun e w' => e = .returned (.tuple #[.string (findS (cutH n) la lb).1, .string (findS (cutH n) la lb).2]) ∧ Below w.heap.size w w' := by
  intro m
  induction m using Nat.strongRecOn with
  | ind m ih =>
  intro la lb a a2 ca cb w hla hlb hm hza hzb hra hrb hca hcb hne
  have hfn : hashedS (cutH n) la ≠ hashedS (cutH n) lb → findS (cutH n) la lb = (hashedS (cutH n) la, hashedS (cutH n) lb) := findS_now _
  have hfe : hashedS (cutH n) la = hashedS (cutH n) lb → 2 ≤ m := fun e => by
    rcases Nat.lt_or_ge m 2 with hlt | hge
    · exact absurd ((hashed_inj (cutH n) n (cutH_size n h1) (hla.trans hlb.symm) e).1 (by omega)) hne
    · exact hge
  have hfl : hashedS (cutH n) la = hashedS (cutH n) lb → la.take (spl m) ≠ lb.take (spl m) → findS (cutH n) la lb = findS (cutH n) (la.take (spl m)) (lb.take (spl m)) := fun e ht => by
    have h2 := hfe e
    have := findS_left (cutH n) e (by omega) (by rw [hla]; exact ht)
    rwa [hla] at this
  have hfr : hashedS (cutH n) la = hashedS (cutH n) lb → la.take (spl m) = lb.take (spl m) → findS (cutH n) la lb = findS (cutH n) (la.drop (spl m)) (lb.drop (spl m)) := fun e ht => by
    have h2 := hfe e
    have := findS_right (cutH n) e (by omega) (by rw [hla]; exact ht)
    rwa [hla] at this
  obtain ⟨RES, hRES⟩ : ∃ R, findS (cutH n) la lb = R := ⟨_, rfl⟩
  rw [hRES] at hfn hfl hfr ⊢
  clear hRES
  have HA := Lib.hid (fun (W : World) (hb : Below w.heap.size w W) => hashed24 n h1 m la a ca W hla hm hza (hra.below hb) hca)
  have HB := Lib.hid (fun (W : World) (hb : Below w.heap.size w W) => hashed24 n h1 m lb a2 cb W hlb hm hzb (hrb.below hb) hcb)
  obtain ⟨X, hX⟩ : ∃ X, hashedS (cutH n) la = X := ⟨_, rfl⟩
  obtain ⟨Y, hY⟩ : ∃ Y, hashedS (cutH n) lb = Y := ⟨_, rfl⟩
  rw [hX] at HA
  rw [hY] at HB
  rw [hX, hY] at hfn hfe hfl hfr
  have HNOW := Lib.hid hfn; have HTWO := Lib.hid hfe; have HLEFT := Lib.hid hfl; have HRIGHT := Lib.hid hfr; have HNE := Lib.hid hne
  have HRA := Lib.hid hra; have HRB := Lib.hid hrb; have HLA := Lib.hid hla; have HLB := Lib.hid hlb
  have IH := Lib.hid (fun (k : Nat) (hk : k < m) (xa xb : List ByteArray) (b1 b2 : Option Addr) (c1 c2 : Nat) (W : World) (e1 : xa.length = k) (e2 : xb.length = k) (z1 : ∀ t ∈ xa, t.size ≤ 60000) (z2 : ∀ t ∈ xb, t.size ≤ 60000) (r1 : StrsAt W b1 xa) (r2 : StrsAt W b2 xb) (q1 : k ≤ c1) (q2 : k ≤ c2) (ne : xa ≠ xb) =>
    ih k hk xa xb b1 b2 c1 c2 W e1 e2 (by omega) z1 z2 r1 r2 q1 q2 ne)
  have HZA := Lib.hid hza; have HZB := Lib.hid hzb
  clear hfn hfe hfl hfr hne hra hrb hla hlb ih hza hzb hX hY
  have HKS := Lib.hid key_size
  generalize keyCells = kc at *
  go_enter Tryd.func12, Tryd.ntmps12
  go_upto_region 1 with (fail)
  refine at_world (Φ := KeyS w kc) (KeyS.box w kc) ?_
  rintro W hW
  have HW := Lib.hid hW
  clear hW
  refine wp_region_held_drew (S := KeyS w kc) (by kernel_rfl) (HW.out.drew) (fun hS => ?_)
  refine wpAnyH_take (i := 0) (v := .agg kc) rfl (by kernel_rfl) (by kernel_rfl) (by kernel_rfl) (fun _ _ _ h => h) (yieldsIf_load rfl 32 (.tmp 4) rfl _ _ rfl (fun W hW => load_key HKS.out hW.1)) hS ?_
  simp only [List.getElem_toArray, List.getElem_cons_zero, Act.put, List.setIfInBounds_toArray, List.set_cons_zero, List.set_cons_succ]
  refine wpAnyH_take (i := 1) (v := .slice a m ca) rfl (by kernel_rfl) (by kernel_rfl) (by kernel_rfl) (fun _ _ _ h => h) (Or.inl ⟨by simp [Region.wanted], fun W _ => by go_simp⟩) hS ?_
  simp only [List.getElem_toArray, List.getElem_cons_zero, List.getElem_cons_succ, Act.put, List.setIfInBounds_toArray, List.set_cons_zero, List.set_cons_succ]
  refine wpAnyH_take (i := 2) (v := .int .i64 (n : Int)) rfl (by kernel_rfl) (by kernel_rfl) (by kernel_rfl) (fun _ _ _ h => h) (Or.inl ⟨by simp [Region.wanted], fun W _ => by go_simp⟩) hS ?_
  simp only [List.getElem_toArray, List.getElem_cons_zero, List.getElem_cons_succ, Act.put, List.setIfInBounds_toArray, List.set_cons_zero, List.set_cons_succ]
  refine wpAnyH_take (i := 4) (v := .agg kc) rfl (by kernel_rfl) (by kernel_rfl) (by kernel_rfl) (fun _ _ _ h => h) (yieldsIf_load rfl 32 (.tmp 4) rfl _ _ rfl (fun W hW => load_key HKS.out hW.1)) hS ?_
  simp only [List.getElem_toArray, List.getElem_cons_zero, List.getElem_cons_succ, Act.put, List.setIfInBounds_toArray, List.set_cons_zero, List.set_cons_succ]
  refine wpAnyH_take (i := 5) (v := .slice a2 m cb) rfl (by kernel_rfl) (by kernel_rfl) (by kernel_rfl) (fun _ _ _ h => h) (Or.inl ⟨by simp [Region.wanted], fun W _ => by go_simp⟩) hS ?_
  simp only [List.getElem_toArray, List.getElem_cons_zero, List.getElem_cons_succ, Act.put, List.setIfInBounds_toArray, List.set_cons_zero, List.set_cons_succ]
  refine wpAnyH_take (i := 6) (v := .int .i64 (n : Int)) rfl (by kernel_rfl) (by kernel_rfl) (by kernel_rfl) (fun _ _ _ h => h) (Or.inl ⟨by simp [Region.wanted], fun W _ => by go_simp⟩) hS ?_
  simp only [List.getElem_toArray, List.getElem_cons_zero, List.getElem_cons_succ, Act.put, List.setIfInBounds_toArray, List.set_cons_zero, List.set_cons_succ]
  refine wpAnyH_ready (rs := [3]) (by kernel_rfl) (by simp) ?_
  refine AllReadyH.cons rfl (fun K1 hK1 => ?_) AllReadyH.nil
  refine wanted_go rfl ?_
  simp only [List.getElem_toArray, List.getElem_cons_zero, List.getElem_cons_succ]
  go_wp2_with (go_at_call 24; refine (HA.out _ hS.2.1).mono ?_; rintro e w1 ⟨rfl, hb1⟩; have HB1 := Lib.hid hb1; clear hb1)
  refine hK1.out _ _ (hS.below HB1.out) (fun hS1 => ?_)
  refine wpAnyH_ready (rs := [7]) (by kernel_rfl) (by simp) ?_
  refine AllReadyH.cons rfl (fun K2 hK2 => ?_) AllReadyH.nil
  refine wanted_go rfl ?_
  simp only [List.getElem_toArray, List.getElem_cons_zero, List.getElem_cons_succ]
  go_wp2_with (go_at_call 24; refine (HB.out _ hS1.2.1).mono ?_; rintro e w2 ⟨rfl, hb2⟩; have HB2 := Lib.hid hb2; clear hb2)
  refine hK2.out _ _ (hS1.below HB2.out) (fun hS2 => ?_)
  refine wpAnyH_take (i := 8) (v := .string X) rfl (by kernel_rfl) (by kernel_rfl) (by kernel_rfl) (fun _ _ _ h => h) (Or.inl ⟨by simp [Region.wanted], fun W _ => by go_simp⟩) hS2 ?_
  simp only [List.getElem_toArray, List.getElem_cons_zero, List.getElem_cons_succ, Act.put, List.setIfInBounds_toArray, List.set_cons_zero, List.set_cons_succ]
  refine wpAnyH_take (i := 9) (v := .string Y) rfl (by kernel_rfl) (by kernel_rfl) (by kernel_rfl) (fun _ _ _ h => h) (Or.inl ⟨by simp [Region.wanted], fun W _ => by go_simp⟩) hS2 ?_
  simp only [List.getElem_toArray, List.getElem_cons_zero, List.getElem_cons_succ, Act.put, List.setIfInBounds_toArray, List.set_cons_zero, List.set_cons_succ]
  refine wpAnyH_done (by kernel_rfl) ?_ _
  have HW2 := Lib.hid hS2
  clear hS hS1 hS2 hK1 hK2 HW
  by_cases hxy : X = Y
  · subst hxy
    have h2 := HTWO.out rfl
    have p1 := spl_pos h2
    have p2' := spl_lt h2
    obtain ⟨b1, o1, rfl, _, _⟩ := HRA.out.some (by rw [HLA.out]; omega)
    obtain ⟨b2, o2, rfl, _, _⟩ := HRB.out.some (by rw [HLB.out]; omega)
    have hl := HLEFT.out rfl
    have hr := HRIGHT.out rfl
    have HSP := Lib.hid (fun W => splitR m W (by omega))
    have HEQ := Lib.hid (fun (W : World) (hb : Below w.heap.size w W) => same11b (some ⟨b1, o1, none⟩) (some ⟨b2, o2, none⟩) (la.take (spl m)) (lb.take (spl m)) (spl m) (spl m) ca cb W (by simp; have := HLA.out; omega) (by simp; have := HLB.out; omega) ((HRA.out.take _).below hb) ((HRB.out.take _).below hb) (by omega) (by omega))
    have HI1 := Lib.hid (fun (ne : la.take (spl m) ≠ lb.take (spl m)) (W : World) (hb : Below w.heap.size w W) => IH.out (spl m) p2' (la.take (spl m)) (lb.take (spl m)) (some ⟨b1, o1, none⟩) (some ⟨b2, o2, none⟩) ca cb W (by simp; have := HLA.out; omega) (by simp; have := HLB.out; omega) (mem_take' HZA.out) (mem_take' HZB.out) ((HRA.out.take _).below hb) ((HRB.out.take _).below hb) (by omega) (by omega) ne)
    have HI2 := Lib.hid (fun (ne : la.drop (spl m) ≠ lb.drop (spl m)) (W : World) (hb : Below w.heap.size w W) => IH.out (m - spl m) (by omega) (la.drop (spl m)) (lb.drop (spl m)) (some ⟨b1, o1 + spl m, none⟩) (some ⟨b2, o2 + spl m, none⟩) (ca - spl m) (cb - spl m) W (by simp; have := HLA.out; omega) (by simp; have := HLB.out; omega) (mem_drop' HZA.out) (mem_drop' HZB.out) ((HRA.out.drop _).below hb) ((HRB.out.drop _).below hb) (by omega) (by omega) ne)
    have HDR := Lib.hid (show la.take (spl m) = lb.take (spl m) → la.drop (spl m) ≠ lb.drop (spl m) from fun ht hd => HNE.out (by rw [← List.take_append_drop (spl m) la, ht, hd, List.take_append_drop]))
    obtain ⟨RL, hRL⟩ : ∃ R, findS (cutH n) (la.take (spl m)) (lb.take (spl m)) = R := ⟨_, rfl⟩
    obtain ⟨RR, hRR⟩ : ∃ R, findS (cutH n) (la.drop (spl m)) (lb.drop (spl m)) = R := ⟨_, rfl⟩
    rw [hRL] at hl HI1
    rw [hRR] at hr HI2
    have HL := Lib.hid hl; have HRT := Lib.hid hr
    clear hl hr hRL hRR HLEFT HRIGHT HNOW HTWO IH HZA HZB HRA HRB HLA HLB HNE HA HB
    obtain ⟨TK, hTK⟩ : ∃ t, decide (la.take (spl m) = lb.take (spl m)) = t := ⟨_, rfl⟩
    rw [hTK] at HEQ
    have HTK := Lib.hid hTK
    clear hTK
    generalize spl m = s at *
    have ne0 : (X.toList == X.toList) = true := by simp
    have q1 : ¬ ca = s := by omega
    have q1' : ¬ cb = s := by omega
    have q2 : (s : Int) ≤ (ca : Int) := by omega
    have q2' : (s : Int) ≤ (cb : Int) := by omega
    have q3 : (s : Int) ≤ (m : Int) := by omega
    have q4 : (m : Int) ≤ (ca : Int) := by omega
    have q4' : (m : Int) ≤ (cb : Int) := by omega
    go_upto_region 5 with (go_at_call 22; refine (HSP.out _).mono ?_; rintro e w3 ⟨rfl, rfl⟩)
    clear ne0
    refine wp_region_held_drew (S := KeyS w kc) (by kernel_rfl) (HW2.out.drew) (fun hS => ?_)
    refine wpAnyH_take (i := 0) (v := .slice (some ⟨b1, o1, none⟩) m ca) rfl (by kernel_rfl) (by kernel_rfl) (by kernel_rfl) (fun _ _ _ h => h) (Or.inl ⟨by simp [Region.wanted], fun W _ => by go_simp⟩) hS ?_
    simp only [List.getElem_toArray, List.getElem_cons_zero, Act.put, List.setIfInBounds_toArray, List.set_cons_zero, List.set_cons_succ]
    refine wpAnyH_take (i := 1) (v := .int .i64 (s : Int)) rfl (by kernel_rfl) (by kernel_rfl) (by kernel_rfl) (fun _ _ _ h => h) (Or.inl ⟨by simp [Region.wanted], fun W _ => by go_simp⟩) hS ?_
    simp only [List.getElem_toArray, List.getElem_cons_zero, List.getElem_cons_succ, Act.put, List.setIfInBounds_toArray, List.set_cons_zero, List.set_cons_succ]
    refine wpAnyH_take (i := 2) (v := .slice (some ⟨b1, o1, none⟩) s ca) rfl (by kernel_rfl) (by kernel_rfl) (by kernel_rfl) (fun _ _ _ h => h) (Or.inl ⟨by simp [Region.wanted], fun W _ => by go_simp⟩) hS ?_
    simp only [List.getElem_toArray, List.getElem_cons_zero, List.getElem_cons_succ, Act.put, List.setIfInBounds_toArray, List.set_cons_zero, List.set_cons_succ]
    refine wpAnyH_take (i := 3) (v := .slice (some ⟨b2, o2, none⟩) m cb) rfl (by kernel_rfl) (by kernel_rfl) (by kernel_rfl) (fun _ _ _ h => h) (Or.inl ⟨by simp [Region.wanted], fun W _ => by go_simp⟩) hS ?_
    simp only [List.getElem_toArray, List.getElem_cons_zero, List.getElem_cons_succ, Act.put, List.setIfInBounds_toArray, List.set_cons_zero, List.set_cons_succ]
    refine wpAnyH_take (i := 4) (v := .int .i64 (s : Int)) rfl (by kernel_rfl) (by kernel_rfl) (by kernel_rfl) (fun _ _ _ h => h) (Or.inl ⟨by simp [Region.wanted], fun W _ => by go_simp⟩) hS ?_
    simp only [List.getElem_toArray, List.getElem_cons_zero, List.getElem_cons_succ, Act.put, List.setIfInBounds_toArray, List.set_cons_zero, List.set_cons_succ]
    refine wpAnyH_take (i := 5) (v := .slice (some ⟨b2, o2, none⟩) s cb) rfl (by kernel_rfl) (by kernel_rfl) (by kernel_rfl) (fun _ _ _ h => h) (Or.inl ⟨by simp [Region.wanted], fun W _ => by go_simp⟩) hS ?_
    simp only [List.getElem_toArray, List.getElem_cons_zero, List.getElem_cons_succ, Act.put, List.setIfInBounds_toArray, List.set_cons_zero, List.set_cons_succ]
    refine wpAnyH_ready (rs := [6]) (by kernel_rfl) (by simp) ?_
    refine AllReadyH.cons rfl (fun K1 hK1 => ?_) AllReadyH.nil
    refine wanted_go rfl ?_
    simp only [List.getElem_toArray, List.getElem_cons_zero, List.getElem_cons_succ]
    go_wp2_with (go_at_call 11; refine (HEQ.out _ hS.2.1).mono ?_; rintro e w4 ⟨rfl, hb4⟩; have HB4 := Lib.hid hb4; clear hb4)
    refine hK1.out _ _ (hS.below HB4.out) (fun hS1 => ?_)
    refine wpAnyH_take (i := 7) (v := .bool (!TK)) rfl (by kernel_rfl) (by kernel_rfl) (by kernel_rfl) (fun _ _ _ h => h) (Or.inl ⟨by simp [Region.wanted], fun W _ => by go_simp⟩) hS1 ?_
    simp only [List.getElem_toArray, List.getElem_cons_zero, List.getElem_cons_succ, Act.put, List.setIfInBounds_toArray, List.set_cons_zero, List.set_cons_succ]
    refine wpAnyH_done (by kernel_rfl) ?_ _
    have HW4 := Lib.hid hS1
    clear hS hS1 hK1 HW2
    cases TK
    · have HEND := Lib.hid (HL.out (of_decide_eq_false HTK.out))
      have HI1' := Lib.hid (HI1.out (of_decide_eq_false HTK.out))
      clear HI1 HI2
      go_upto_region 6 with (fail)
      refine wp_region_held_drew (S := KeyS w kc) (by kernel_rfl) (HW4.out.drew) (fun hS => ?_)
      refine wpAnyH_take (i := 0) (v := .agg kc) rfl (by kernel_rfl) (by kernel_rfl) (by kernel_rfl) (fun _ _ _ h => h) (yieldsIf_load rfl 32 (.tmp 4) rfl _ _ rfl (fun W hW => load_key HKS.out hW.1)) hS ?_
      simp only [List.getElem_toArray, List.getElem_cons_zero, Act.put, List.setIfInBounds_toArray, List.set_cons_zero, List.set_cons_succ]
      refine wpAnyH_take (i := 1) (v := .slice (some ⟨b1, o1, none⟩) m ca) rfl (by kernel_rfl) (by kernel_rfl) (by kernel_rfl) (fun _ _ _ h => h) (Or.inl ⟨by simp [Region.wanted], fun W _ => by go_simp⟩) hS ?_
      simp only [List.getElem_toArray, List.getElem_cons_zero, List.getElem_cons_succ, Act.put, List.setIfInBounds_toArray, List.set_cons_zero, List.set_cons_succ]
      refine wpAnyH_take (i := 2) (v := .int .i64 (s : Int)) rfl (by kernel_rfl) (by kernel_rfl) (by kernel_rfl) (fun _ _ _ h => h) (Or.inl ⟨by simp [Region.wanted], fun W _ => by go_simp⟩) hS ?_
      simp only [List.getElem_toArray, List.getElem_cons_zero, List.getElem_cons_succ, Act.put, List.setIfInBounds_toArray, List.set_cons_zero, List.set_cons_succ]
      refine wpAnyH_take (i := 3) (v := .slice (some ⟨b1, o1, none⟩) s ca) rfl (by kernel_rfl) (by kernel_rfl) (by kernel_rfl) (fun _ _ _ h => h) (Or.inl ⟨by simp [Region.wanted], fun W _ => by go_simp⟩) hS ?_
      simp only [List.getElem_toArray, List.getElem_cons_zero, List.getElem_cons_succ, Act.put, List.setIfInBounds_toArray, List.set_cons_zero, List.set_cons_succ]
      refine wpAnyH_take (i := 4) (v := .slice (some ⟨b2, o2, none⟩) m cb) rfl (by kernel_rfl) (by kernel_rfl) (by kernel_rfl) (fun _ _ _ h => h) (Or.inl ⟨by simp [Region.wanted], fun W _ => by go_simp⟩) hS ?_
      simp only [List.getElem_toArray, List.getElem_cons_zero, List.getElem_cons_succ, Act.put, List.setIfInBounds_toArray, List.set_cons_zero, List.set_cons_succ]
      refine wpAnyH_take (i := 5) (v := .int .i64 (s : Int)) rfl (by kernel_rfl) (by kernel_rfl) (by kernel_rfl) (fun _ _ _ h => h) (Or.inl ⟨by simp [Region.wanted], fun W _ => by go_simp⟩) hS ?_
      simp only [List.getElem_toArray, List.getElem_cons_zero, List.getElem_cons_succ, Act.put, List.setIfInBounds_toArray, List.set_cons_zero, List.set_cons_succ]
      refine wpAnyH_take (i := 6) (v := .slice (some ⟨b2, o2, none⟩) s cb) rfl (by kernel_rfl) (by kernel_rfl) (by kernel_rfl) (fun _ _ _ h => h) (Or.inl ⟨by simp [Region.wanted], fun W _ => by go_simp⟩) hS ?_
      simp only [List.getElem_toArray, List.getElem_cons_zero, List.getElem_cons_succ, Act.put, List.setIfInBounds_toArray, List.set_cons_zero, List.set_cons_succ]
      refine wpAnyH_take (i := 7) (v := .int .i64 (n : Int)) rfl (by kernel_rfl) (by kernel_rfl) (by kernel_rfl) (fun _ _ _ h => h) (Or.inl ⟨by simp [Region.wanted], fun W _ => by go_simp⟩) hS ?_
      simp only [List.getElem_toArray, List.getElem_cons_zero, List.getElem_cons_succ, Act.put, List.setIfInBounds_toArray, List.set_cons_zero, List.set_cons_succ]
      refine wpAnyH_ready (rs := [8]) (by kernel_rfl) (by simp) ?_
      refine AllReadyH.cons rfl (fun K1 hK1 => ?_) AllReadyH.nil
      refine wanted_go rfl ?_
      simp only [List.getElem_toArray, List.getElem_cons_zero, List.getElem_cons_succ]
      go_wp2_with (go_at_call 12; refine (HI1'.out _ hS.2.1).mono ?_; rintro e w5 ⟨rfl, hb5⟩; have HB5 := Lib.hid hb5; clear hb5)
      refine hK1.out _ _ (hS.below HB5.out) (fun hS1 => ?_)
      refine wpAnyH_take (i := 9) (v := .string RL.1) rfl (by kernel_rfl) (by kernel_rfl) (by kernel_rfl) (fun _ _ _ h => h) (Or.inl ⟨by simp [Region.wanted], fun W _ => by go_simp⟩) hS1 ?_
      simp only [List.getElem_toArray, List.getElem_cons_zero, List.getElem_cons_succ, Act.put, List.setIfInBounds_toArray, List.set_cons_zero, List.set_cons_succ]
      refine wpAnyH_take (i := 10) (v := .string RL.2) rfl (by kernel_rfl) (by kernel_rfl) (by kernel_rfl) (fun _ _ _ h => h) (Or.inl ⟨by simp [Region.wanted], fun W _ => by go_simp⟩) hS1 ?_
      simp only [List.getElem_toArray, List.getElem_cons_zero, List.getElem_cons_succ, Act.put, List.setIfInBounds_toArray, List.set_cons_zero, List.set_cons_succ]
      refine wpAnyH_take (i := 11) (v := .string RL.1) rfl (by kernel_rfl) (by kernel_rfl) (by kernel_rfl) (fun _ _ _ h => h) (Or.inl ⟨by simp [Region.wanted], fun W _ => by go_simp⟩) hS1 ?_
      simp only [List.getElem_toArray, List.getElem_cons_zero, List.getElem_cons_succ, Act.put, List.setIfInBounds_toArray, List.set_cons_zero, List.set_cons_succ]
      refine wpAnyH_take (i := 12) (v := .string RL.2) rfl (by kernel_rfl) (by kernel_rfl) (by kernel_rfl) (fun _ _ _ h => h) (Or.inl ⟨by simp [Region.wanted], fun W _ => by go_simp⟩) hS1 ?_
      simp only [List.getElem_toArray, List.getElem_cons_zero, List.getElem_cons_succ, Act.put, List.setIfInBounds_toArray, List.set_cons_zero, List.set_cons_succ]
      refine wpAnyH_done (by kernel_rfl) ?_ _
      have HF := Lib.hid hS1.2.1
      clear hS hS1 hK1
      go_wp2
      go_ret2
      exact ⟨by have h := HEND.out; subst h; rfl, HF.out⟩
    · have HEND := Lib.hid (HRT.out (of_decide_eq_true HTK.out))
      have HI2' := Lib.hid (HI2.out (HDR.out (of_decide_eq_true HTK.out)))
      clear HI1 HI2
      go_upto_region 7 with (fail)
      refine wp_region_held_drew (S := KeyS w kc) (by kernel_rfl) (HW4.out.drew) (fun hS => ?_)
      refine wpAnyH_take (i := 0) (v := .agg kc) rfl (by kernel_rfl) (by kernel_rfl) (by kernel_rfl) (fun _ _ _ h => h) (yieldsIf_load rfl 32 (.tmp 4) rfl _ _ rfl (fun W hW => load_key HKS.out hW.1)) hS ?_
      simp only [List.getElem_toArray, List.getElem_cons_zero, Act.put, List.setIfInBounds_toArray, List.set_cons_zero, List.set_cons_succ]
      refine wpAnyH_take (i := 1) (v := .slice (some ⟨b1, o1, none⟩) m ca) rfl (by kernel_rfl) (by kernel_rfl) (by kernel_rfl) (fun _ _ _ h => h) (Or.inl ⟨by simp [Region.wanted], fun W _ => by go_simp⟩) hS ?_
      simp only [List.getElem_toArray, List.getElem_cons_zero, List.getElem_cons_succ, Act.put, List.setIfInBounds_toArray, List.set_cons_zero, List.set_cons_succ]
      refine wpAnyH_take (i := 2) (v := .int .i64 (s : Int)) rfl (by kernel_rfl) (by kernel_rfl) (by kernel_rfl) (fun _ _ _ h => h) (Or.inl ⟨by simp [Region.wanted], fun W _ => by go_simp⟩) hS ?_
      simp only [List.getElem_toArray, List.getElem_cons_zero, List.getElem_cons_succ, Act.put, List.setIfInBounds_toArray, List.set_cons_zero, List.set_cons_succ]
      refine wpAnyH_take (i := 3) (v := .slice (some ⟨b1, o1 + s, none⟩) (m - s) (ca - s)) rfl (by kernel_rfl) (by kernel_rfl) (by kernel_rfl) (fun _ _ _ h => h) (Or.inl ⟨by simp [Region.wanted], fun W _ => by go_simp⟩) hS ?_
      simp only [List.getElem_toArray, List.getElem_cons_zero, List.getElem_cons_succ, Act.put, List.setIfInBounds_toArray, List.set_cons_zero, List.set_cons_succ]
      refine wpAnyH_take (i := 4) (v := .slice (some ⟨b2, o2, none⟩) m cb) rfl (by kernel_rfl) (by kernel_rfl) (by kernel_rfl) (fun _ _ _ h => h) (Or.inl ⟨by simp [Region.wanted], fun W _ => by go_simp⟩) hS ?_
      simp only [List.getElem_toArray, List.getElem_cons_zero, List.getElem_cons_succ, Act.put, List.setIfInBounds_toArray, List.set_cons_zero, List.set_cons_succ]
      refine wpAnyH_take (i := 5) (v := .int .i64 (s : Int)) rfl (by kernel_rfl) (by kernel_rfl) (by kernel_rfl) (fun _ _ _ h => h) (Or.inl ⟨by simp [Region.wanted], fun W _ => by go_simp⟩) hS ?_
      simp only [List.getElem_toArray, List.getElem_cons_zero, List.getElem_cons_succ, Act.put, List.setIfInBounds_toArray, List.set_cons_zero, List.set_cons_succ]
      refine wpAnyH_take (i := 6) (v := .slice (some ⟨b2, o2 + s, none⟩) (m - s) (cb - s)) rfl (by kernel_rfl) (by kernel_rfl) (by kernel_rfl) (fun _ _ _ h => h) (Or.inl ⟨by simp [Region.wanted], fun W _ => by go_simp⟩) hS ?_
      simp only [List.getElem_toArray, List.getElem_cons_zero, List.getElem_cons_succ, Act.put, List.setIfInBounds_toArray, List.set_cons_zero, List.set_cons_succ]
      refine wpAnyH_take (i := 7) (v := .int .i64 (n : Int)) rfl (by kernel_rfl) (by kernel_rfl) (by kernel_rfl) (fun _ _ _ h => h) (Or.inl ⟨by simp [Region.wanted], fun W _ => by go_simp⟩) hS ?_
      simp only [List.getElem_toArray, List.getElem_cons_zero, List.getElem_cons_succ, Act.put, List.setIfInBounds_toArray, List.set_cons_zero, List.set_cons_succ]
      refine wpAnyH_ready (rs := [8]) (by kernel_rfl) (by simp) ?_
      refine AllReadyH.cons rfl (fun K1 hK1 => ?_) AllReadyH.nil
      refine wanted_go rfl ?_
      simp only [List.getElem_toArray, List.getElem_cons_zero, List.getElem_cons_succ]
      go_wp2_with (go_at_call 12; refine (HI2'.out _ hS.2.1).mono ?_; rintro e w5 ⟨rfl, hb5⟩; have HB5 := Lib.hid hb5; clear hb5)
      refine hK1.out _ _ (hS.below HB5.out) (fun hS1 => ?_)
      refine wpAnyH_take (i := 9) (v := .string RR.1) rfl (by kernel_rfl) (by kernel_rfl) (by kernel_rfl) (fun _ _ _ h => h) (Or.inl ⟨by simp [Region.wanted], fun W _ => by go_simp⟩) hS1 ?_
      simp only [List.getElem_toArray, List.getElem_cons_zero, List.getElem_cons_succ, Act.put, List.setIfInBounds_toArray, List.set_cons_zero, List.set_cons_succ]
      refine wpAnyH_take (i := 10) (v := .string RR.2) rfl (by kernel_rfl) (by kernel_rfl) (by kernel_rfl) (fun _ _ _ h => h) (Or.inl ⟨by simp [Region.wanted], fun W _ => by go_simp⟩) hS1 ?_
      simp only [List.getElem_toArray, List.getElem_cons_zero, List.getElem_cons_succ, Act.put, List.setIfInBounds_toArray, List.set_cons_zero, List.set_cons_succ]
      refine wpAnyH_take (i := 11) (v := .string RR.1) rfl (by kernel_rfl) (by kernel_rfl) (by kernel_rfl) (fun _ _ _ h => h) (Or.inl ⟨by simp [Region.wanted], fun W _ => by go_simp⟩) hS1 ?_
      simp only [List.getElem_toArray, List.getElem_cons_zero, List.getElem_cons_succ, Act.put, List.setIfInBounds_toArray, List.set_cons_zero, List.set_cons_succ]
      refine wpAnyH_take (i := 12) (v := .string RR.2) rfl (by kernel_rfl) (by kernel_rfl) (by kernel_rfl) (fun _ _ _ h => h) (Or.inl ⟨by simp [Region.wanted], fun W _ => by go_simp⟩) hS1 ?_
      simp only [List.getElem_toArray, List.getElem_cons_zero, List.getElem_cons_succ, Act.put, List.setIfInBounds_toArray, List.set_cons_zero, List.set_cons_succ]
      refine wpAnyH_done (by kernel_rfl) ?_ _
      have HF := Lib.hid hS1.2.1
      clear hS hS1 hK1
      go_wp2
      go_ret2
      exact ⟨by have h := HEND.out; subst h; rfl, HF.out⟩
  · have hxb : (X.toList == Y.toList) = false := eqB_ne hxy
    have HEND := Lib.hid (HNOW.out hxy)
    clear hxy
    go_wp2
    go_ret2
    exact ⟨by have h := HEND.out; subst h; rfl, HW2.out.2.1⟩
end Go.Proofs.YtalgailclcefdaaDoor
