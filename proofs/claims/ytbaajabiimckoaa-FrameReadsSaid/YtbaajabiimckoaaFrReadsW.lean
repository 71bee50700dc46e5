/- The walk of FrameReads. -/
import Derived.Test.YtbaajabiimckoaaFrAlive
namespace Go.Proofs.Ytbaajabiimckoaa
open Go.RowKit Base

/-- A row of texts that a slice owns, as a slice's texts. -/
theorem own_strs {W : World} {B : Nat} {v : Value} {L : List (ByteArray × Nat)} (h : W.ownsRow B 9 1 v L.length (L.map fun p => Value.string p.1)) : ∃ a c, v = .slice a L.length c ∧ StrsAt W a (L.map (·.1)) := by
  by_cases hL : L.length = 0
  · obtain ⟨a, c, rfl⟩ := own_form h
    have : L = [] := List.eq_nil_of_length_eq_zero hL
    subst this
    exact ⟨a, c, rfl, .inl rfl⟩
  · obtain ⟨g, cp, rfl⟩ := own_shape' h (by omega)
    refine ⟨some ⟨g, 0, none⟩, cp, rfl, .inr ⟨g, 0, rfl, (h.lt g rfl).2, fun i t hi => ?_⟩⟩
    have hi2 : i < L.length := by
      have := (List.getElem?_eq_some_iff.1 hi).1
      simpa using this
    rw [Nat.zero_add, h.cellAt i (by omega)]
    rw [List.getElem?_map] at hi ⊢
    rw [List.getElem?_eq_getElem hi2] at hi ⊢
    simp at hi ⊢
    exact hi
theorem totS_drop (L : List (ByteArray × Nat)) (i : Nat) (p : ByteArray × Nat) (h : L[i]? = some p) : totS (L.drop i) = p.2 + totS (L.drop (i + 1)) := by
  obtain ⟨hi, ht⟩ := List.getElem?_eq_some_iff.1 h
  rw [List.drop_eq_getElem_cons hi, ht]
  simp [totS]
theorem totS_drop_le (L : List (ByteArray × Nat)) (i : Nat) : totS (L.drop i) ≤ totS L := by
  induction L generalizing i with
  | nil => simp [totS]
  | cons p L ih =>
    cases i with
    | zero => exact Nat.le_refl _
    | succ i =>
      have := ih i
      have e : totS (p :: L) = p.2 + totS L := by simp [totS]
      rw [List.drop_succ_cons, e]; omega

theorem same14 (a b : Option Addr) (L : List (ByteArray × Nat)) (ca cb : Nat) (w : World) (hr : StrsAt w a (L.map (·.1))) (hq : StrsAt w b (L.map (·.1))) (hn : L.length ≤ 60000) :
    Calls Try.prog 14 #[.slice a L.length ca, .slice b L.length cb] w fun e w' => e = .returned (.bool true) ∧ ∃ m, w' = w.drewN m := by
  have := same12 a b (L.map (·.1)) ca cb w hr hq (by rw [List.length_map]; exact hn)
  rw [List.length_map] at this
  exact this

set_option maxRecDepth 100000 in
set_option maxHeartbeats 4000000 in
theorem reads4 (S : ByteArray) (w : World) : Calls Try.prog 4 #[.string S] w fun e w' => e = .returned (.bool true) ∧ Below w.heap.size w w' := by
  have HA := Lib.hid (alive6 w)
  by_cases h2 : (2000 : Int) < (S.size : Int)
  · go_enter Try.func4, Try.ntmps4
    go_wp2_with (go_at_call 6; refine HA.out.mono ?_; rintro e w1 ⟨rfl, hb⟩; have HB := Lib.hid hb; clear hb)
    go_ret
    exact ⟨rfl, HB.out⟩
  have hN := fun W => next8 S W (by omega)
  have hM := fun W => rnext10 S W (by omega)
  have hS := fun W => scan11 S W (by omega)
  have hT := fun W => rscan12 S W (by omega)
  have hZ := fun W => sizes13 S W (by omega)
  have ht := scanS_tot S
  obtain ⟨⟨row, k, er⟩, hq⟩ : ∃ q, nextS S = q := ⟨_, rfl⟩
  obtain ⟨L, hL⟩ : ∃ L, scanS S = L := ⟨_, rfl⟩
  rw [hL] at hS hT hZ ht
  have hr0 : nextV (row, k, er) = .tuple #[.string row, .int .i64 (k : Int), .int .i64 er] := rfl
  rw [hq, hr0] at hM
  rw [hq, hr0] at hN
  have HN := Lib.hid hN
  have HM := Lib.hid hM
  have HS := Lib.hid hS
  have HT := Lib.hid hT
  have HZ := Lib.hid hZ
  have hT0 : Hid (totS (L.drop 0) = totS L) := rfl
  have hle : L.length ≤ 2000 := by omega
  have HDL := Lib.hid (fun i => totS_drop_le L i)
  have HDN := Lib.hid (fun i p => totS_drop L i p)
  have htl : totS L ≤ 2000 := by omega
  clear hN hM hS hT hZ hq hL hr0 ht
  go_enter Try.func4, Try.ntmps4
  go_wp2_with (first
    | (go_at_call 6; refine HA.out.mono ?_; rintro e w1 ⟨rfl, hb⟩; have HB := Lib.hid hb; clear hb)
    | (go_at_call 8; refine (HN.out _).mono ?_; rintro e w2 ⟨rfl, hb2⟩; have HB2 := Lib.hid (HB.out.trans (hb2.mono HB.out.size)); clear hb2)
    | (go_at_call 10; refine (HM.out _).mono ?_; rintro e w3 ⟨rfl, hb3⟩; have HB3 := Lib.hid (HB2.out.trans (hb3.mono HB2.out.size)); clear hb3)
    | (go_at_call 11; refine (HS.out _).mono ?_; rintro e w4 ⟨⟨v1, rfl, ho1⟩, hb4⟩; obtain ⟨a1, c1, rfl, hs1⟩ := own_strs ho1; have HS1 := Lib.hid hs1; have HB4 := Lib.hid (HB3.out.trans (hb4.mono HB3.out.size)); clear hb4 hs1 ho1)
    | (go_at_call 12; refine (HT.out _).mono ?_; rintro e w5 ⟨⟨v2, u2, rfl, ho2, hz2⟩, hb5⟩; obtain ⟨a2, c2, rfl, hs2⟩ := own_strs ho2; obtain ⟨b2, d2, rfl⟩ := own_form hz2; have HS2 := Lib.hid hs2; have HZ2 := Lib.hid hz2; have HB5 := Lib.hid (HB4.out.trans (hb5.mono HB4.out.size)); have HS15 := Lib.hid (HS1.out.below hb5); clear hb5 hs2 ho2 hz2)
    | (go_at_call 13; refine (HZ.out _).mono ?_; rintro e w6 ⟨⟨u3, rfl, hz3⟩, hb6⟩; obtain ⟨b3, d3, rfl⟩ := own_form hz3; have HZ3 := Lib.hid hz3; have HB6 := Lib.hid (HB5.out.trans (hb6.mono HB5.out.size)); have HS16 := Lib.hid (HS15.out.below hb6); have HS26 := Lib.hid (HS2.out.below hb6); have HZ26 := Lib.hid (own_below' HZ2.out hb6); clear hb6 hz3)
    | (go_at_call 14; refine (same14 a1 a2 L c1 c2 _ HS16.out HS26.out (by omega)).mono ?_; rintro e w7 ⟨rfl, m7, rfl⟩))
  rw [← hT0.out] at htl ⊢
  go_loopw [10, 14] (fun va vi W => ∃ i m : Nat, i ≤ L.length ∧ va = .int .i64 (totS (L.drop i) : Int) ∧ vi = .int .i64 (i : Int) ∧ W = w6.drewN m) (fun _ vi _ => L.length - (intOf vi).toNat)
  case atStart => exact ⟨0, m7, by omega, rfl, rfl, rfl⟩
  case round =>
    obtain ⟨i, m, hi, rfl, rfl, hW⟩ := hrel
    have HW := Lib.hid hW
    by_cases hin : i < L.length
    · obtain ⟨p, hp⟩ : ∃ p, L[i]? = some p := ⟨L[i], by simp [hin]⟩
      obtain ⟨g2, e2, hg2⟩ := own_shape' HZ26.out (by omega)
      obtain ⟨g3, e3, hg3⟩ := own_shape' HZ3.out (by omega)
      simp only [Value.slice.injEq] at hg2 hg3
      obtain ⟨rfl, _, rfl⟩ := hg2
      obtain ⟨rfl, _, rfl⟩ := hg3
      have hk2 : wr.cell? ⟨g2, i, none⟩ = some (.int .i64 (p.2 : Int)) := by
        rw [hW]; show w6.cell? ⟨g2, i, none⟩ = _
        rw [HZ26.out.cellAt i (by omega), List.getElem?_map, hp]; rfl
      have hk3 : wr.cell? ⟨g3, i, none⟩ = some (.int .i64 (p.2 : Int)) := by
        rw [hW]; show w6.cell? ⟨g3, i, none⟩ = _
        rw [HZ3.out.cellAt i (by omega), List.getElem?_map, hp]; rfl
      have hd := HDN.out i p hp
      have hz1 := HDL.out i
      have hz2 := HDL.out (i + 1)
      rw [← hT0.out] at hz1 hz2
      obtain ⟨s0, hs0⟩ : ∃ z, totS (L.drop i) = z := ⟨_, rfl⟩
      obtain ⟨s1, hs1⟩ : ∃ z, totS (L.drop (i + 1)) = z := ⟨_, rfl⟩
      rw [hs0] at hd hz1 ⊢
      rw [hs1] at hd hz2
      have HS1' := Lib.hid hs1
      have hsub : (s0 : Int) - (p.2 : Int) = (s1 : Int) := by omega
      obtain ⟨q, hq⟩ : ∃ q : Int, (p.2 : Int) = q := ⟨_, rfl⟩
      rw [hq] at hk2 hk3 hsub
      have HDR := Lib.hid hsub
      have hq1 : 0 ≤ q ∧ q ≤ 2000 := by omega
      clear hp hd hs0 hs1 hq hsub hW
      go_wp2
      go_quiet (fail)
      have hk4 : (wr.drewN nq).cell? ⟨g2, i, none⟩ = some (.int .i64 q) := hk2
      have hsub := HDR.out
      go_wp2
      go_roundw
      case rel => exact ⟨i + 1, m + nq, by omega, by rw [HS1'.out], by go_num, by rw [HW.out, World.drewN_drewN]⟩
      case measure => simp [intOf]; omega
    · have hie : i = L.length := by omega
      have hz0 : totS (L.drop L.length) = 0 := by rw [List.drop_of_length_le (Nat.le_refl _)]; rfl
      rw [hie, hz0]
      clear hie hin hi hz0 hW
      go_wp2
      go_ret
      exact ⟨rfl, by rw [HW.out]; exact below_drewN' HB6.out m⟩
end Go.Proofs.Ytbaajabiimckoaa
