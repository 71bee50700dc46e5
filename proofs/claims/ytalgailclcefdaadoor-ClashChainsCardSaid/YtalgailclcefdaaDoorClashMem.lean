/- Rows of texts, joined and compared; rows of rows: the contracts of joined, Equal, the document's Same, refusal, sides, beginning. -/
import Derived.Test.YtalgailclcefdaaDoorShelf
import Derived.Test.YtalgailclcefdaaDoorTreeMem
namespace Go.Proofs.YtalgailclcefdaaDoor
open Go.RowKit

/-- Texts, one behind the other. -/
def catS (l : List ByteArray) : ByteArray := ⟨(Lib.join (l.map (·.data.toList)) []).toArray⟩
theorem catS_two (a b : ByteArray) : catS [a, b] = a ++ b := by
  apply ByteArray.ext; apply Array.ext'; simp [catS, Lib.join, List.intercalate]
theorem catS_three (a b c : ByteArray) : catS [a, b, c] = (a ++ b) ++ c := by
  apply ByteArray.ext; apply Array.ext'; simp [catS, Lib.join, List.intercalate]
theorem catS_size (l : List ByteArray) : (catS l).size = (Lib.join (l.map (·.data.toList)) []).length := by
  show (Lib.join (l.map (·.data.toList)) []).toArray.size = _
  simp

theorem joined34 (b off : Nat) (l : List ByteArray) (n cap : Nat) (w : World) (hn : l.length = n) (h1 : 1 ≤ n) (hcap : n ≤ cap) (hr : StrsAt w (some ⟨b, off, none⟩) l) (hz : (catS l).size ≤ 100000000) (hc : n ≤ 1000) :
    Calls Tryd.prog 34 #[.slice (some ⟨b, off, none⟩) n cap] w fun e w' => e = .returned (.string (catS l)) ∧ Below w.heap.size w w' := by
  obtain ⟨b', off', e, hb, hcell⟩ := hr.some (by omega)
  simp only [Option.some.injEq, Addr.mk.injEq, and_true] at e
  obtain ⟨rfl, rfl⟩ := e
  rw [catS_size] at hz
  have HJ := Lib.hid (shstrings_Join b off cap l ⟨#[]⟩ w hcell hb (by omega) (by omega) (by show (Lib.join (l.map (·.data.toList)) []).length ≤ _; omega))
  rw [show (⟨(Lib.join (l.map (·.data.toList)) (⟨#[]⟩ : ByteArray).data.toList).toArray⟩ : ByteArray) = catS l from rfl, hn] at HJ
  generalize catS l = D at *
  clear hr hcell hn hz
  go_enter Tryd.func34, Tryd.ntmps34
  go_wp2_with (go_at_call 47; refine HJ.out.mono ?_; rintro e w1 ⟨rfl, hb1⟩; have HB1 := Lib.hid hb1; clear hb1)
  go_ret
  exact ⟨rfl, HB1.out⟩

theorem strs_getD {W : World} {b off : Nat} {l : List ByteArray} (h : ∀ i t, l[i]? = some t → W.cell? ⟨b, off + i, none⟩ = some (.string t)) : ∀ j, j < l.length → W.cell? ⟨b, off + j, none⟩ = some (.string (l.getD j ByteArray.empty)) := by
  intro j hj
  refine h j _ ?_
  rw [List.getElem?_eq_getElem hj, List.getD_eq_getElem?_getD, List.getElem?_eq_getElem hj]; rfl
theorem equal31_no (a a2 : Option Addr) (n m ca cb : Nat) (w : World) (hnm : n ≠ m) :
    Calls Tryd.prog 31 #[.slice a n ca, .slice a2 m cb] w fun e w' => e = .returned (.bool false) ∧ w = w' := by
  have hb : ((n : Int) != (m : Int)) = true := by simp; omega
  clear hnm
  go_enter Tryd.func31, Tryd.ntmps31
  go_wp2
  go_ret
  exact ⟨rfl, rfl⟩
theorem equal31 (a a2 : Option Addr) (l q : List ByteArray) (n m ca cb : Nat) (w : World) (hl : l.length = n) (hq : q.length = m) (hr : StrsAt w a l) (hs : StrsAt w a2 q) (hn : n ≤ 60000) (hm : m ≤ 60000) :
    Calls Tryd.prog 31 #[.slice a n ca, .slice a2 m cb] w fun e w' => e = .returned (.bool (decide (l = q))) ∧ ∃ k, w' = w.drewN k := by
  by_cases h0 : n = 0
  · subst h0
    refine (shslices_Equal_string_empty a a2 ca m cb w (by omega)).mono ?_
    rintro e w' ⟨rfl, rfl⟩
    refine ⟨?_, 0, rfl⟩
    have e1 := List.eq_nil_of_length_eq_zero hl
    subst e1
    by_cases hm0 : m = 0
    · have := List.eq_nil_of_length_eq_zero (hq.trans hm0); subst this; rw [decide_eq_true hm0]; rfl
    · rw [decide_eq_false hm0, decide_eq_false (by rintro rfl; simp at hq; omega)]
  · obtain ⟨b, off, rfl, hb, hc⟩ := hr.some (by omega)
    rcases hs with rfl | ⟨b2, off2, rfl, hb2, hc2⟩
    · simp at hq; subst hq
      refine (equal31_no _ a2 n 0 ca cb w h0).mono ?_
      rintro e w' ⟨rfl, rfl⟩
      exact ⟨by rw [decide_eq_false (by rintro rfl; simp at hl; omega)], 0, rfl⟩
    · refine (shslices_Equal_string b off n ca b2 off2 m cb l q w (by omega) (by omega) (by omega) (by omega) (strs_getD hc) (strs_getD hc2)).mono ?_
      rintro e w' ⟨rfl, hw⟩
      refine ⟨?_, hw⟩
      rw [← hl, ← hq, List.take_length, List.take_length]

set_option maxRecDepth 100000 in
/-- Are two rows of texts alike? -/
theorem same11g (a a2 : Option Addr) (l q : List ByteArray) (n m ca cb : Nat) (w : World) (hl : l.length = n) (hq : q.length = m) (hr : StrsAt w a l) (hs : StrsAt w a2 q) (hn : n ≤ 60000) (hm : m ≤ 60000) :
    Calls Tryd.prog 11 #[.slice a n ca, .slice a2 m cb] w fun e w' => e = .returned (.bool (decide (l = q))) ∧ ∃ k, w' = w.drewN k := by
  by_cases hnm : n = m
  · subst hnm
    obtain ⟨v, hv⟩ : ∃ v, decide (l = q) = v := ⟨_, rfl⟩
    rw [hv]
    have HR := Lib.hid hr; have HQ := Lib.hid hs; have HN := Lib.hid hl; have HM := Lib.hid hq; have HV := Lib.hid hv
    clear hr hs hl hq hv
    go_enter Tryd.func11, Tryd.ntmps11
    go_upto_region 4 with (fail)
    go_loopw [5] (fun v W => (∃ i : Nat, i ≤ n ∧ v = .int .i64 (i : Int) ∧ ∀ j, j < i → l[j]? = q[j]?) ∧ ∃ m, W = w.drewN m) (fun v _ => n - (intOf v).toNat)
    case atStart => exact ⟨⟨0, by omega, rfl, fun j hj => absurd hj (by omega)⟩, 0, rfl⟩
    case round =>
      obtain ⟨⟨i, hi, rfl, hsm⟩, m, rfl⟩ := hrel
      have HSM := Lib.hid hsm
      clear hsm
      by_cases hlt : (i : Int) < (n : Int)
      · obtain ⟨b, off, rfl, hbw, hcell⟩ := HR.out.some (by rw [HN.out]; omega)
        obtain ⟨b2, off2, rfl, hbw2, hcell2⟩ := HQ.out.some (by rw [HM.out]; omega)
        obtain ⟨t, ht⟩ : ∃ t, l[i]? = some t := ⟨_, List.getElem?_eq_getElem (by rw [HN.out]; omega)⟩
        obtain ⟨t2, ht2⟩ : ∃ t, q[i]? = some t := ⟨_, List.getElem?_eq_getElem (by rw [HM.out]; omega)⟩
        have c1 := hcell i t ht
        have c2 := hcell2 i t2 ht2
        have HT := Lib.hid ht; have HT2 := Lib.hid ht2
        clear hcell hcell2 ht ht2
        by_cases heq : t = t2
        · subst heq
          go_upto_region 6 with (fail)
          go_quiet (fail)
          go_wp2
          go_roundw
          case rel =>
            refine ⟨⟨i + 1, by omega, by go_num, fun j hj => ?_⟩, m + nq, rfl⟩
            by_cases hji : j = i
            · subst hji; rw [HT.out, HT2.out]
            · exact HSM.out j (by omega)
          case measure => simp [intOf]; omega
        · have hne : (t.toList == t2.toList) = false := eqB_ne heq
          have hvf : v = false := by
            rw [← HV.out, decide_eq_false]
            rintro rfl
            rw [HT.out] at HT2
            exact heq (by simpa using HT2.out)
          subst hvf
          clear heq
          go_upto_region 6 with (fail)
          go_quiet (fail)
          go_wp2
          go_ret
          exact ⟨rfl, m + nq, World.drewN_drewN _ _ _⟩
      · have hvt : v = true := by
          rw [← HV.out, decide_eq_true]
          refine List.ext_getElem? fun j => ?_
          by_cases hj : j < n
          · exact HSM.out j (by omega)
          · rw [List.getElem?_eq_none (by rw [HN.out]; omega), List.getElem?_eq_none (by rw [HM.out]; omega)]
        subst hvt
        go_wp2
        go_ret
        exact ⟨rfl, m, rfl⟩
  · rw [decide_eq_false (by rintro rfl; omega)]
    have hb : ((n : Int) != (m : Int)) = true := by simp; omega
    clear hr hs hl hq hnm
    go_enter Tryd.func11, Tryd.ntmps11
    go_wp2
    go_ret
    exact ⟨rfl, 0, rfl⟩

/-- Why no clash is sought. -/
def refC (n : Int) (la lb : Nat) : Int := if 1 ≤ n ∧ n ≤ 32 then (if 4096 < la ∨ 4096 < lb then 4 else if la ≠ lb then 12 else 0) else 1
theorem refC_arg {n : Int} {la lb : Nat} (h : ¬ (1 ≤ n ∧ n ≤ 32)) : refC n la lb = 1 := by unfold refC; rw [if_neg h]
theorem refC_many {n : Int} {la lb : Nat} (h : 1 ≤ n ∧ n ≤ 32) (h2 : 4096 < la ∨ 4096 < lb) : refC n la lb = 4 := by unfold refC; rw [if_pos h, if_pos h2]
theorem refC_twin {n : Int} {la lb : Nat} (h : 1 ≤ n ∧ n ≤ 32) (h2 : la ≤ 4096) (h3 : lb ≤ 4096) (h4 : la ≠ lb) : refC n la lb = 12 := by unfold refC; rw [if_pos h, if_neg (by omega), if_pos h4]
theorem refC_ok {n : Int} {la : Nat} (h : 1 ≤ n ∧ n ≤ 32) (h2 : la ≤ 4096) : refC n la la = 0 := by unfold refC; rw [if_pos h, if_neg (by omega), if_neg (by omega)]
theorem refusal29 (n : Int) (a a2 : Option Addr) (la lb ca cb : Nat) (w : World) (h1 : la ≤ maxLen) (h2 : lb ≤ maxLen) :
    Calls Tryd.prog 29 #[.int .i64 n, .slice a la ca, .slice a2 lb cb] w fun e w' => e = .returned (.int .i64 (refC n la lb)) ∧ w = w' := by
  unfold maxLen at h1 h2
  by_cases h : 1 ≤ n ∧ n ≤ 32
  · by_cases hm : 4096 < la ∨ 4096 < lb
    · rw [refC_many h hm]
      by_cases hab : (la : Int) ≤ (lb : Int)
      · go_enter Tryd.func29, Tryd.ntmps29
        go_wp2
        go_ret
        exact ⟨rfl, rfl⟩
      · go_enter Tryd.func29, Tryd.ntmps29
        go_wp2
        go_ret
        exact ⟨rfl, rfl⟩
    · by_cases he : la = lb
      · subst he
        rw [refC_ok h (by omega)]
        go_enter Tryd.func29, Tryd.ntmps29
        go_wp2
        go_ret
        exact ⟨rfl, rfl⟩
      · rw [refC_twin h (by omega) (by omega) he]
        go_enter Tryd.func29, Tryd.ntmps29
        go_wp2
        go_ret
        exact ⟨rfl, rfl⟩
  · rw [refC_arg h]
    by_cases h3 : n < 1
    · go_enter Tryd.func29, Tryd.ntmps29
      go_wp2
      go_ret
      exact ⟨rfl, rfl⟩
    · have h4 : n > 32 := by omega
      clear h
      go_enter Tryd.func29, Tryd.ntmps29
      go_wp2
      go_ret
      exact ⟨rfl, rfl⟩

set_option maxRecDepth 100000 in
theorem sides19 (b off n cap : Nat) (w : World) (hn : 2 ≤ n) (h1 : n ≤ 60000) (hcap : n ≤ cap) :
    Calls Tryd.prog 19 #[.slice (some ⟨b, off, none⟩) n cap] w fun e w' => ∃ k, e = .returned (.slice (some ⟨k, 0, none⟩) 2 2) ∧ w.heap.size ≤ k ∧ w'.heap[k]? = some (.cells #[.slice (some ⟨b, off, none⟩) (spl n) cap, .slice (some ⟨b, off + spl n, none⟩) (n - spl n) (cap - spl n)] 22 (0, 0)) ∧ Below w.heap.size w w' := by
  have HS := Lib.hid (splitP n w h1)
  have p1 := spl_pos hn
  have p2 := spl_lt hn
  generalize spl n = s at *
  go_enter Tryd.func19, Tryd.ntmps19
  go_upto_region 2 with (go_at_call 36; refine HS.out.mono ?_; rintro e w' ⟨rfl, rfl⟩)
  go_region
  all_goals
    go_wp2
    go_ret
    exact ⟨_, rfl, Nat.le_refl _, heap_alloc_new w _, ((Below.refl _ w).alloc (Nat.le_refl _) _).drew⟩
theorem beginning26 (b off n cap : Nat) (w : World) (hn : 1 ≤ n) (h1 : n ≤ 60000) (hcap : n ≤ cap) :
    Calls Tryd.prog 26 #[.slice (some ⟨b, off, none⟩) n cap] w fun e w' => ∃ k, e = .returned (.slice (some ⟨k, 0, none⟩) 1 1) ∧ w.heap.size ≤ k ∧ w'.heap[k]? = some (.cells #[.slice (some ⟨b, off, none⟩) (n - 1) cap] 22 (0, 0)) ∧ Below w.heap.size w w' := by
  have e1 : ((n : Int) - 1) = ((n - 1 : Nat) : Int) := by omega
  go_enter Tryd.func26, Tryd.ntmps26
  go_wp2
  go_ret
  exact ⟨_, rfl, Nat.le_refl _, heap_alloc_new w _, (Below.refl _ w).alloc (Nat.le_refl _) _⟩
end Go.Proofs.YtalgailclcefdaaDoor
