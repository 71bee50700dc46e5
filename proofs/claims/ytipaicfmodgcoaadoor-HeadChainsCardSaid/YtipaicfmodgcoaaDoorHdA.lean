/- The plain mathematics of headers: whether one may be, its bytes, what any bytes are as one, whether headers chain. Nothing here speaks of the program. Contracts of the document's May, Put of a header; of a law's look at how great one is. The contract of the document's Get of a header. Contracts of the document's Hash and Chain of headers. The contract of the document's Chain of headers. The contract of the document's Get of a header. The walk of HeadChains, given what the example and the program's Chain answer. Headers held alike; the walk of HeadGets, given what the example and the program's Get, Put, May answer. The walk of HeadPuts, given what the example and the program's May, Put, Get, Hash, First answer. The document's example of headers, given what the program's Chain and First answer. A header, and a slice of headers, that come in. -/
import Derived.Test.YtipaicfmodgcoaaDoorBackWalk
import Derived.Test.YtipaicfmodgcoaaDoorRefRow
import Derived.Test.YtipaicfmodgcoaaDoorTreeHash
import Derived.Test.YtipaicfmodgcoaaDoorNums
import Derived.Test.YtipaicfmodgcoaaDoorDigs
import Derived.Test.YtipaicfmodgcoaaDoorBase
import Derived.BigQuiet
import Derived.Test.YtipaicfmodgcoaaDoorRefs2
import Derived.Test.YtipaicfmodgcoaaDoorBase2
import Derived.Test.YtipaicfmodgcoaaDoorKeyS
import Derived.Test.YtipaicfmodgcoaaDoorShaLaid
import Derived.Laws.StructEq
import Derived.Deep.Slices
namespace Go.Proofs.YtipaicfmodgcoaaDoor
open Go.RowKit

/-- A header: its numbers, its two texts. -/
structure HeadT where
  ix : Int
  fi : Int
  co : Int
  by' : Int
  pv : ByteArray
  rt : ByteArray
def zeroH : HeadT := ⟨0, 0, 0, 0, ⟨#[]⟩, ⟨#[]⟩⟩
/-- A number of 64 bits with a sign. -/
def In64H (z : Int) : Prop := -9223372036854775808 ≤ z ∧ z ≤ 9223372036854775807
/-- The numbers are of 64 bits. -/
def HeadT.In (h : HeadT) : Prop := In64H h.ix ∧ In64H h.fi ∧ In64H h.co ∧ In64H h.by'
def mayH (h : HeadT) (n : Nat) : Bool :=
  decide (0 ≤ h.ix) && decide (h.ix ≤ 1099511627776) && decide (0 ≤ h.fi) && decide (h.fi ≤ 1099511627776) && decide (1 ≤ h.co) && decide (h.co ≤ 64) && decide (0 ≤ h.by') && decide (h.by' ≤ 1099511627776) && decide (h.pv.size = n) && decide (h.rt.size = n)
theorem mayH_iff (h : HeadT) (n : Nat) : mayH h n = true ↔ (0 ≤ h.ix ∧ h.ix ≤ 1099511627776) ∧ (0 ≤ h.fi ∧ h.fi ≤ 1099511627776) ∧ (1 ≤ h.co ∧ h.co ≤ 64) ∧ (0 ≤ h.by' ∧ h.by' ≤ 1099511627776) ∧ h.pv.size = n ∧ h.rt.size = n := by
  unfold mayH
  simp only [Bool.and_eq_true, decide_eq_true_eq]
  constructor
  · rintro ⟨⟨⟨⟨⟨⟨⟨⟨⟨a, b⟩, c⟩, d⟩, e⟩, f⟩, g⟩, i⟩, j⟩, k⟩; exact ⟨⟨a, b⟩, ⟨c, d⟩, ⟨e, f⟩, ⟨g, i⟩, j, k⟩
  · rintro ⟨⟨a, b⟩, ⟨c, d⟩, ⟨e, f⟩, ⟨g, i⟩, j, k⟩; exact ⟨⟨⟨⟨⟨⟨⟨⟨⟨a, b⟩, c⟩, d⟩, e⟩, f⟩, g⟩, i⟩, j⟩, k⟩
theorem mayH_no {h : HeadT} {n : Nat} (k : ¬ ((0 ≤ h.ix ∧ h.ix ≤ 1099511627776) ∧ (0 ≤ h.fi ∧ h.fi ≤ 1099511627776) ∧ (1 ≤ h.co ∧ h.co ≤ 64) ∧ (0 ≤ h.by' ∧ h.by' ≤ 1099511627776) ∧ h.pv.size = n ∧ h.rt.size = n)) : mayH h n = false := by
  cases hm : mayH h n with
  | false => rfl
  | true => exact absurd ((mayH_iff h n).1 hm) k

/-- A number of 64 bits as bytes, going round below 0. -/
def encU (z : Int) : ByteArray := M.encB (IntKind.u64.wrap z).toNat
theorem wrap_u64_in (z : Int) : 0 ≤ IntKind.u64.wrap z ∧ IntKind.u64.wrap z ≤ 18446744073709551615 := by
  rw [IntKind.wrap_u64]; omega
theorem encU_nat (n : Nat) (h : n < 18446744073709551616) : encU (n : Int) = M.encB n := by
  unfold encU; rw [IntKind.wrap_u64, show ((n : Int) % 18446744073709551616) = (n : Int) by omega, Int.toNat_natCast]
def putH (h : HeadT) : ByteArray := encU h.ix ++ encU h.fi ++ encU h.co ++ encU h.by' ++ rowB h.pv ++ rowB h.rt
def hashH (n : Nat) (h : HeadT) : ByteArray := cutH n (putH h)

/-- A reader's state: what is left, the fault. -/
abbrev StR := ByteArray × Int
def stepNum (most : Int) (st : StR) : Nat × StR :=
  (orZ st.2 (numTo st.1.data.toList (fun n => decide ((n : Int) ≤ most))).1 0, AfterX st.1 st.2 ((numTo st.1.data.toList (fun n => decide ((n : Int) ≤ most))).2.1 : Int) (numTo st.1.data.toList (fun n => decide ((n : Int) ≤ most))).2.2)
def stepRow (most : Int) (st : StR) : ByteArray × StR :=
  (orZ st.2 (rowR st.1 most).1 ⟨#[]⟩, AfterX st.1 st.2 (rowR st.1 most).2.1 (rowR st.1 most).2.2)
theorem AfterX_size (s : ByteArray) (e k er : Int) : (AfterX s e k er).1.size ≤ s.size := by
  unfold AfterX
  split
  · split
    · simp [ByteArray.size_extract]
    · exact Nat.le_refl _
  · exact Nat.le_refl _
theorem stepNum_size (most : Int) (st : StR) : (stepNum most st).2.1.size ≤ st.1.size := AfterX_size ..
theorem stepRow_size (most : Int) (st : StR) : (stepRow most st).2.1.size ≤ st.1.size := AfterX_size ..
theorem stepNum_le (most : Int) (h0 : 0 ≤ most) (st : StR) : ((stepNum most st).1 : Int) ≤ most := by
  unfold stepNum orZ
  simp only
  split
  · by_cases h : (numTo st.1.data.toList (fun n => decide ((n : Int) ≤ most))).2.2 = 0
    · have := (numTo_may _ _ h).1
      simpa using this
    · rw [numTo_zero _ _ h]; simpa using h0
  · simpa using h0

/-- What is read of bytes: the header, what is left, the fault. -/
def readH (s : ByteArray) (n : Int) : HeadT × StR :=
  let a := stepNum 1099511627776 (s, 0)
  let b := stepNum 1099511627776 a.2
  let c := stepNum 64 b.2
  let d := stepNum 1099511627776 c.2
  let p := stepRow n d.2
  let q := stepRow n p.2
  (⟨a.1, b.1, c.1, d.1, p.1, q.1⟩, q.2)
def getH (s : ByteArray) (n : Nat) : HeadT × Int :=
  if (readH s n).2.2 ≠ 0 then (zeroH, (readH s n).2.2)
  else if 0 < (readH s n).2.1.size then (zeroH, 3)
  else if mayH (readH s n).1 n = false then (zeroH, 3)
  else ((readH s n).1, 0)
theorem getH_fault {s : ByteArray} {n : Nat} {h : HeadT} {r : ByteArray} {e : Int} (hq : readH s n = (h, r, e)) (he : e ≠ 0) : getH s n = (zeroH, e) := by unfold getH; rw [hq]; exact if_pos he
theorem getH_more {s : ByteArray} {n : Nat} {h : HeadT} {r : ByteArray} (hq : readH s n = (h, r, 0)) (hr : 0 < r.size) : getH s n = (zeroH, 3) := by unfold getH; rw [hq]; rw [if_neg (by simp), if_pos hr]
theorem getH_no {s : ByteArray} {n : Nat} {h : HeadT} {r : ByteArray} (hq : readH s n = (h, r, 0)) (hr : ¬ 0 < r.size) (hm : mayH h n = false) : getH s n = (zeroH, 3) := by unfold getH; rw [hq]; rw [if_neg (by simp), if_neg hr, if_pos hm]
theorem getH_ok {s : ByteArray} {n : Nat} {h : HeadT} {r : ByteArray} (hq : readH s n = (h, r, 0)) (hr : ¬ 0 < r.size) (hm : mayH h n = true) : getH s n = (h, 0) := by unfold getH; rw [hq]; rw [if_neg (by simp), if_neg hr, if_neg (by simp [hm])]

/-! ### What is put is got again, and nothing else is got as it -/
theorem AfterX_go (s : ByteArray) (k : Int) : AfterX s 0 k 0 = (s.extract k.toNat s.size, 0) := rfl
theorem stepNum_put (most : Int) (m : Nat) (R : ByteArray) (hm : (m : Int) ≤ most) (h64 : m < 18446744073709551616) : stepNum most (M.encB m ++ R, 0) = (m, R, 0) := by
  have hn := num_app m R h64
  have hto : numTo (M.encB m ++ R).data.toList (fun n => decide ((n : Int) ≤ most)) = (m, (M.encB m).size, 0) := by
    rw [numTo_ok (.inr (by rw [hn]; simpa using hm)), hn]
  unfold stepNum
  simp only [hto, orZ_ok, AfterX_go, Int.toNat_natCast, ext_app]
theorem stepRow_put (most : Nat) (t R : ByteArray) (hm : t.size ≤ most) (h5 : t.size ≤ 100000) : stepRow (most : Int) (rowB t ++ R, 0) = (t, R, 0) := by
  have hn := num_app t.size (t ++ R) (by omega)
  have e1 : rowB t ++ R = M.encB t.size ++ (t ++ R) := by unfold rowB; rw [ByteArray.append_assoc]
  have hto : numTo (rowB t ++ R).data.toList (rowMay (most : Int)) = (t.size, (M.encB t.size).size, 0) := by
    rw [e1, numTo_ok (.inr (by rw [hn]; simp [rowMay]; omega)), hn]
  have hr := rowR_ok (rowB t ++ R) (most : Int) _ hto rfl
  simp only at hr
  have hx : (rowB t ++ R).extract (M.encB t.size).size (rowB t ++ R).size = t ++ R := by rw [e1, ext_app]
  have ht : takeR (t ++ R) (t.size : Int) = (t, 0) := by
    unfold takeR
    rw [if_neg (by omega), if_neg (by rw [ByteArray.size_append]; omega), Int.toNat_natCast, ext_app0]
  rw [hx, ht] at hr
  unfold stepRow
  simp only [hr, orZ_ok, AfterX_go]
  have hz : ((M.encB t.size).size : Int) + (t.size : Int) = ((rowB t).size : Int) := by unfold rowB; rw [ByteArray.size_append]; omega
  rw [hz, Int.toNat_natCast, ext_app]
theorem getH_put (h : HeadT) (n : Nat) (hn : n ≤ 32) (hm : mayH h n = true) : getH (putH h) n = (h, 0) := by
  obtain ⟨⟨a1, a2⟩, ⟨b1, b2⟩, ⟨c1, c2⟩, ⟨d1, d2⟩, hp, hr⟩ := (mayH_iff h n).1 hm
  obtain ⟨ix, fi, co, by', pv, rt⟩ := h
  simp only at a1 a2 b1 b2 c1 c2 d1 d2 hp hr
  obtain ⟨a, rfl⟩ := Int.eq_ofNat_of_zero_le a1
  obtain ⟨b, rfl⟩ := Int.eq_ofNat_of_zero_le b1
  obtain ⟨c, rfl⟩ := Int.eq_ofNat_of_zero_le (show 0 ≤ co by omega)
  obtain ⟨d, rfl⟩ := Int.eq_ofNat_of_zero_le d1
  have e0 : rowB rt = rowB rt ++ (⟨#[]⟩ : ByteArray) := by apply ByteArray.ext; simp
  have hput : putH ⟨a, b, c, d, pv, rt⟩ = M.encB a ++ (M.encB b ++ (M.encB c ++ (M.encB d ++ (rowB pv ++ (rowB rt ++ (⟨#[]⟩ : ByteArray)))))) := by
    unfold putH
    simp only
    rw [encU_nat a (by omega), encU_nat b (by omega), encU_nat c (by omega), encU_nat d (by omega), ← e0]
    simp only [ByteArray.append_assoc]
  have hread : readH (putH ⟨a, b, c, d, pv, rt⟩) n = (⟨a, b, c, d, pv, rt⟩, ⟨#[]⟩, 0) := by
    unfold readH
    simp only
    rw [hput, stepNum_put _ a _ (by omega) (by omega)]
    simp only
    rw [stepNum_put _ b _ (by omega) (by omega)]
    simp only
    rw [stepNum_put _ c _ (by omega) (by omega)]
    simp only
    rw [stepNum_put _ d _ (by omega) (by omega)]
    simp only
    rw [stepRow_put n pv _ (by omega) (by omega)]
    simp only
    rw [stepRow_put n rt _ (by omega) (by omega)]
  exact getH_ok hread (by decide) hm
theorem ext_join (s : ByteArray) (k : Nat) (_h : k ≤ s.size) : s.extract 0 k ++ s.extract k s.size = s := by
  apply ByteArray.ext; apply Array.toList_inj.1
  rw [app_toList, Lib.extract_data, Lib.extract_data, List.drop_zero, Nat.sub_zero]
  have hl : s.data.toList.length = s.size := (Lib.size_eq s).symm
  rw [List.take_of_length_le (l := s.data.toList.drop k) (by rw [List.length_drop]; omega), List.take_append_drop]
/-- A step that goes well: the bytes that were read. -/
theorem stepNum_bytes (most : Int) (st : StR) (h : (stepNum most st).2.2 = 0) : st.2 = 0 ∧ M.encB (stepNum most st).1 ++ (stepNum most st).2.1 = st.1 := by
  obtain ⟨s, e⟩ := st
  unfold stepNum at h ⊢
  simp only at h ⊢
  by_cases he : e = 0
  · subst he
    refine ⟨rfl, ?_⟩
    have hle := numTo_le s (fun n => decide ((n : Int) ≤ most))
    obtain ⟨⟨n, k, er⟩, hq⟩ : ∃ q, numTo s.data.toList (fun n => decide ((n : Int) ≤ most)) = q := ⟨_, rfl⟩
    rw [hq] at h hle ⊢
    simp only at h hle ⊢
    by_cases her : er = 0
    · subst her
      have hm := numTo_may s.data.toList (fun n => decide ((n : Int) ≤ most)) (by rw [hq])
      have ho := M.num_one s.data.toList
      rw [← hm.2, hq] at ho
      simp only at ho
      have e1 : M.encB n = s.extract 0 k := by
        rw [Lib.extract_eq]; unfold M.encB; rw [ho trivial]; simp
      rw [orZ_ok, AfterX_go, Int.toNat_natCast, e1]
      exact ext_join s k hle
    · unfold AfterX at h; rw [if_pos rfl, if_neg her] at h; exact absurd h her
  · unfold AfterX at h; rw [if_neg he] at h; exact absurd h he
theorem stepRow_bytes (most : Int) (st : StR) (h : (stepRow most st).2.2 = 0) : st.2 = 0 ∧ rowB (stepRow most st).1 ++ (stepRow most st).2.1 = st.1 := by
  obtain ⟨s, e⟩ := st
  unfold stepRow at h ⊢
  simp only at h ⊢
  by_cases he : e = 0
  · subst he
    refine ⟨rfl, ?_⟩
    by_cases her : (rowR s most).2.2 = 0
    · have ho := rowR_one s most her
      have hk := rowR_k s most
      rw [orZ_ok, her, AfterX_go, ho]
      exact ext_join s _ (by omega)
    · unfold AfterX at h; rw [if_pos rfl, if_neg her] at h; exact absurd h her
  · unfold AfterX at h; rw [if_neg he] at h; exact absurd h he
/-- What is got is put as it was. -/
theorem getH_bytes (s : ByteArray) (n : Nat) (h : (getH s n).2 = 0) : putH (getH s n).1 = s ∧ mayH (getH s n).1 n = true := by
  obtain ⟨⟨H, r, e⟩, hq⟩ : ∃ q, readH s n = q := ⟨_, rfl⟩
  by_cases he : e = 0
  · subst he
    by_cases hr : 0 < r.size
    · rw [getH_more hq hr] at h; simp at h
    · cases hm : mayH H n with
      | false => rw [getH_no hq hr hm] at h; simp at h
      | true =>
        rw [getH_ok hq hr hm]
        refine ⟨?_, hm⟩
        have hr0 : r = ⟨#[]⟩ := by
          apply ByteArray.ext; apply Array.toList_inj.1; apply List.eq_nil_of_length_eq_zero
          have := Lib.size_eq r; omega
        subst hr0
        unfold readH at hq
        simp only [Prod.mk.injEq] at hq
        obtain ⟨rfl, hq⟩ := hq
        obtain ⟨z5, q5⟩ := stepRow_bytes n _ (congrArg Prod.snd hq)
        obtain ⟨z4, q4⟩ := stepRow_bytes n _ z5
        obtain ⟨z3, q3⟩ := stepNum_bytes _ _ z4
        obtain ⟨z2, q2⟩ := stepNum_bytes _ _ z3
        obtain ⟨z1, q1⟩ := stepNum_bytes _ _ z2
        obtain ⟨_, q0⟩ := stepNum_bytes _ _ z1
        rw [congrArg Prod.fst hq] at q5
        rw [← q5] at q4
        rw [← q4] at q3
        rw [← q3] at q2
        rw [← q2] at q1
        rw [← q1] at q0
        have b0 := stepNum_le 1099511627776 (by decide) (s, 0)
        have b1 := stepNum_le 1099511627776 (by decide) (stepNum 1099511627776 (s, 0)).2
        have b2 := stepNum_le 64 (by decide) (stepNum 1099511627776 (stepNum 1099511627776 (s, 0)).2).2
        have b3 := stepNum_le 1099511627776 (by decide) (stepNum 64 (stepNum 1099511627776 (stepNum 1099511627776 (s, 0)).2).2).2
        unfold putH
        simp only
        rw [encU_nat _ (by omega), encU_nat _ (by omega), encU_nat _ (by omega), encU_nat _ (by omega)]
        refine Eq.trans ?_ q0
        simp only [ByteArray.append_assoc]
        congr 5
        apply ByteArray.ext; simp
  · rw [getH_fault hq he] at h; exact absurd h he

/-! ### Chains -/
/-- Do headers chain, from the i-th one, the record fi, the hash pv on? The last hash. -/
def chainG (n : Nat) : List HeadT → Nat → Int → ByteArray → Option ByteArray
  | [], _, _, pv => some pv
  | h :: l, i, fi, pv => if (mayH h n && decide (h.ix = (i : Int)) && decide (h.fi = fi) && decide (h.pv = pv)) = true then chainG n l (i + 1) (fi + h.co) (hashH n h) else none
def chainH (n : Nat) (l : List HeadT) : Option ByteArray := chainG n l 0 0 (cutH n ⟨#[]⟩)
end Go.Proofs.YtipaicfmodgcoaaDoor

namespace Go.Proofs.YtipaicfmodgcoaaDoor
open Go.RowKit Base

def hcells (h : HeadT) : Array Value := #[.int .i64 h.ix, .int .i64 h.fi, .int .i64 h.co, .int .i64 h.by', .string h.pv, .string h.rt]
def hv (h : HeadT) : Value := .agg (hcells h)

set_option maxRecDepth 100000 in
theorem great7H (h : HeadT) (w : World) : Calls Tryd.prog 7 #[hv h] w fun e w' => e = .returned (.bool (decide (100 < h.pv.size) || decide (100 < h.rt.size))) ∧ Below w.heap.size w w' := by
  obtain ⟨ix, fi, co, b, pv, rt⟩ := h
  dsimp only [hv, hcells]
  by_cases h1 : (100 : Int) < (pv.size : Int)
  · have e1 : decide (100 < pv.size) = true := decide_eq_true (by omega)
    rw [e1]
    go_enter Tryd.func7, Tryd.ntmps7
    go_wp2
    go_ret
    exact ⟨rfl, (Below.refl _ w).alloc (Nat.le_refl _) _⟩
  · have e1 : decide (100 < pv.size) = false := decide_eq_false (by omega)
    rw [e1]
    by_cases h2 : (100 : Int) < (rt.size : Int)
    · have e2 : decide (100 < rt.size) = true := decide_eq_true (by omega)
      rw [e2]
      go_enter Tryd.func7, Tryd.ntmps7
      go_wp2
      go_ret
      exact ⟨ret_bool (by simp), (Below.refl _ w).alloc (Nat.le_refl _) _⟩
    · have e2 : decide (100 < rt.size) = false := decide_eq_false (by omega)
      rw [e2]
      go_enter Tryd.func7, Tryd.ntmps7
      go_wp2
      go_ret
      exact ⟨ret_bool (by simp), (Below.refl _ w).alloc (Nat.le_refl _) _⟩

set_option maxRecDepth 100000 in
set_option maxHeartbeats 1000000 in
theorem rmay14 (h : HeadT) (n : Nat) (w : World) : Calls Tryd.prog 14 #[hv h, .int .i64 (n : Int)] w fun e w' => e = .returned (.bool (mayH h n)) ∧ Below w.heap.size w w' := by
  obtain ⟨ix, fi, co, b, pv, rt⟩ := h
  by_cases k0 : ix < 0
  · have hm : mayH ⟨ix, fi, co, b, pv, rt⟩ n = false := mayH_no (by dsimp only; omega)
    rw [hm]
    dsimp only [hv, hcells]
    clear hm
    go_enter Tryd.func14, Tryd.ntmps14
    go_wp2
    go_ret
    exact ⟨rfl, (Below.refl _ w).alloc (Nat.le_refl _) _⟩
  by_cases k1 : 1099511627776 < ix
  · have hm : mayH ⟨ix, fi, co, b, pv, rt⟩ n = false := mayH_no (by dsimp only; omega)
    rw [hm]
    dsimp only [hv, hcells]
    clear hm
    go_enter Tryd.func14, Tryd.ntmps14
    go_wp2
    go_ret
    exact ⟨rfl, (Below.refl _ w).alloc (Nat.le_refl _) _⟩
  by_cases k2 : fi < 0
  · have hm : mayH ⟨ix, fi, co, b, pv, rt⟩ n = false := mayH_no (by dsimp only; omega)
    rw [hm]
    dsimp only [hv, hcells]
    clear hm
    go_enter Tryd.func14, Tryd.ntmps14
    go_wp2
    go_ret
    exact ⟨rfl, (Below.refl _ w).alloc (Nat.le_refl _) _⟩
  by_cases k3 : 1099511627776 < fi
  · have hm : mayH ⟨ix, fi, co, b, pv, rt⟩ n = false := mayH_no (by dsimp only; omega)
    rw [hm]
    dsimp only [hv, hcells]
    clear hm
    go_enter Tryd.func14, Tryd.ntmps14
    go_wp2
    go_ret
    exact ⟨rfl, (Below.refl _ w).alloc (Nat.le_refl _) _⟩
  by_cases k4 : co < 1
  · have hm : mayH ⟨ix, fi, co, b, pv, rt⟩ n = false := mayH_no (by dsimp only; omega)
    rw [hm]
    dsimp only [hv, hcells]
    clear hm
    go_enter Tryd.func14, Tryd.ntmps14
    go_wp2
    go_ret
    exact ⟨rfl, (Below.refl _ w).alloc (Nat.le_refl _) _⟩
  by_cases k5 : 64 < co
  · have hm : mayH ⟨ix, fi, co, b, pv, rt⟩ n = false := mayH_no (by dsimp only; omega)
    rw [hm]
    dsimp only [hv, hcells]
    clear hm
    go_enter Tryd.func14, Tryd.ntmps14
    go_wp2
    go_ret
    exact ⟨rfl, (Below.refl _ w).alloc (Nat.le_refl _) _⟩
  by_cases k6 : b < 0
  · have hm : mayH ⟨ix, fi, co, b, pv, rt⟩ n = false := mayH_no (by dsimp only; omega)
    rw [hm]
    dsimp only [hv, hcells]
    clear hm
    go_enter Tryd.func14, Tryd.ntmps14
    go_wp2
    go_ret
    exact ⟨rfl, (Below.refl _ w).alloc (Nat.le_refl _) _⟩
  by_cases k7 : 1099511627776 < b
  · have hm : mayH ⟨ix, fi, co, b, pv, rt⟩ n = false := mayH_no (by dsimp only; omega)
    rw [hm]
    dsimp only [hv, hcells]
    clear hm
    go_enter Tryd.func14, Tryd.ntmps14
    go_wp2
    go_ret
    exact ⟨rfl, (Below.refl _ w).alloc (Nat.le_refl _) _⟩
  by_cases k8 : (pv.size : Int) = (n : Int)
  · have b8 : ((pv.size : Int) == (n : Int)) = true := by simpa using k8
    by_cases k9 : (rt.size : Int) = (n : Int)
    · have b9 : ((rt.size : Int) == (n : Int)) = true := by simpa using k9
      have hm : mayH ⟨ix, fi, co, b, pv, rt⟩ n = true := (mayH_iff _ _).2 (by dsimp only; omega)
      rw [hm]
      dsimp only [hv, hcells]
      clear hm k8 k9
      go_enter Tryd.func14, Tryd.ntmps14
      go_wp2
      go_ret
      exact ⟨rfl, (Below.refl _ w).alloc (Nat.le_refl _) _⟩
    · have b9 : ((rt.size : Int) == (n : Int)) = false := by simpa using k9
      have hm : mayH ⟨ix, fi, co, b, pv, rt⟩ n = false := mayH_no (by dsimp only; omega)
      rw [hm]
      dsimp only [hv, hcells]
      clear hm k8 k9
      go_enter Tryd.func14, Tryd.ntmps14
      go_wp2
      go_ret
      exact ⟨rfl, (Below.refl _ w).alloc (Nat.le_refl _) _⟩
  · have b8 : ((pv.size : Int) == (n : Int)) = false := by simpa using k8
    have hm : mayH ⟨ix, fi, co, b, pv, rt⟩ n = false := mayH_no (by dsimp only; omega)
    rw [hm]
    dsimp only [hv, hcells]
    clear hm k8
    go_enter Tryd.func14, Tryd.ntmps14
    go_wp2
    go_ret
    exact ⟨rfl, (Below.refl _ w).alloc (Nat.le_refl _) _⟩

/-- While a header lies in a box. -/
def HeadS (w : World) (hc : Array Value) (W : World) : Prop := W.heap[w.heap.size]? = some (.cells hc 23 (0, 0)) ∧ Below w.heap.size w W ∧ w.heap.size < W.heap.size
theorem HeadS.below {w W W' : World} {hc : Array Value} (h : HeadS w hc W) (hb : Below W.heap.size W W') : HeadS w hc W' :=
  ⟨(hb.block _ h.2.2).trans h.1, h.2.1.trans (hb.mono (by have := h.2.2; omega)), Nat.lt_of_lt_of_le h.2.2 hb.size⟩
theorem HeadS.drew {w W : World} {hc : Array Value} (h : HeadS w hc W) : HeadS w hc W.drew := ⟨h.1, h.2.1.drew, h.2.2⟩
theorem HeadS.box (w : World) (hc : Array Value) : HeadS w hc (w.alloc (.cells hc 23)) := ⟨heap_alloc_new w _, (Below.refl _ w).alloc (Nat.le_refl _) _, by simp⟩
theorem HeadS.cellAt {w W : World} {hc : Array Value} (h : HeadS w hc W) (i : Nat) : W.cell? ⟨w.heap.size, i, none⟩ = hc[i]? := cell_of_row W w.heap.size i hc 23 (0, 0) h.1

set_option maxRecDepth 100000 in
set_option maxHeartbeats 4000000 in
theorem rput17 (h : HeadT) (w : World) (hp : h.pv.size ≤ 1000) (hr : h.rt.size ≤ 1000) : Calls Tryd.prog 17 #[hv h] w fun e w' => e = .returned (.string (putH h)) ∧ Below w.heap.size w w' := by
  obtain ⟨ix, fi, co, b, pv, rt⟩ := h
  have wa := wrap_u64_in ix; have wb := wrap_u64_in fi; have wc := wrap_u64_in co; have wd := wrap_u64_in b
  have HA := Lib.hid (fun W => ref9 (IntKind.u64.wrap ix) W wa.1 wa.2)
  have HB := Lib.hid (fun W => ref9 (IntKind.u64.wrap fi) W wb.1 wb.2)
  have HC := Lib.hid (fun W => ref9 (IntKind.u64.wrap co) W wc.1 wc.2)
  have HD := Lib.hid (fun W => ref9 (IntKind.u64.wrap b) W wd.1 wd.2)
  have HP := Lib.hid (fun W => row13 pv W (by dsimp only at hp; omega))
  have HR := Lib.hid (fun W => row13 rt W (by dsimp only at hr; omega))
  have z1 := encB_size (IntKind.u64.wrap ix).toNat; have z2 := encB_size (IntKind.u64.wrap fi).toNat; have z3 := encB_size (IntKind.u64.wrap co).toNat; have z4 := encB_size (IntKind.u64.wrap b).toNat
  have z5 : (rowB pv).size ≤ 1010 := by unfold rowB; rw [ByteArray.size_append]; have := encB_size pv.size; dsimp only at hp; omega
  have z6 : (rowB rt).size ≤ 1010 := by unfold rowB; rw [ByteArray.size_append]; have := encB_size rt.size; dsimp only at hr; omega
  have HX := Lib.hid (show putH ⟨ix, fi, co, b, pv, rt⟩ = M.encB (IntKind.u64.wrap ix).toNat ++ M.encB (IntKind.u64.wrap fi).toNat ++ M.encB (IntKind.u64.wrap co).toNat ++ M.encB (IntKind.u64.wrap b).toNat ++ rowB pv ++ rowB rt from rfl)
  rw [HX.out]
  generalize M.encB (IntKind.u64.wrap ix).toNat = E1 at *
  generalize M.encB (IntKind.u64.wrap fi).toNat = E2 at *
  generalize M.encB (IntKind.u64.wrap co).toNat = E3 at *
  generalize M.encB (IntKind.u64.wrap b).toNat = E4 at *
  generalize rowB pv = E5 at *
  generalize rowB rt = E6 at *
  have s2 : (E1 ++ E2).size = E1.size + E2.size := ByteArray.size_append ..
  have s3 : (E1 ++ E2 ++ E3).size = E1.size + E2.size + E3.size := by rw [ByteArray.size_append, s2]
  have s4 : (E1 ++ E2 ++ E3 ++ E4).size = E1.size + E2.size + E3.size + E4.size := by rw [ByteArray.size_append, s3]
  have s5 : (E1 ++ E2 ++ E3 ++ E4 ++ E5).size = E1.size + E2.size + E3.size + E4.size + E5.size := by rw [ByteArray.size_append, s4]
  dsimp only [hv, hcells]
  clear hp hr wa wb wc wd HX
  go_enter Tryd.func17, Tryd.ntmps17
  go_upto_region 1 with (fail)
  refine at_world (Φ := HeadS w #[.int .i64 ix, .int .i64 fi, .int .i64 co, .int .i64 b, .string pv, .string rt]) (HeadS.box w _) ?_
  rintro W hW
  have HW := Lib.hid hW
  clear hW
  refine wp_region_held_drew (S := HeadS w #[.int .i64 ix, .int .i64 fi, .int .i64 co, .int .i64 b, .string pv, .string rt]) (by kernel_rfl) (HW.out.drew) (fun hS => ?_)
  refine wpAnyH_take (i := 0) (v := .pointer (some ⟨w.heap.size, 0, none⟩)) rfl (by kernel_rfl) (by kernel_rfl) (by kernel_rfl) (fun _ _ _ h => h) (Or.inl ⟨by simp [Region.wanted], fun W _ => by go_simp⟩) hS ?_
  simp only [List.getElem_toArray, List.getElem_cons_zero, Act.put, List.setIfInBounds_toArray, List.set_cons_zero, List.set_cons_succ]
  refine wpAnyH_take (i := 1) (v := .int .i64 ix) rfl (by kernel_rfl) (by kernel_rfl) (by kernel_rfl) (fun _ _ _ h => h) (Or.inl ⟨by simp [Region.wanted], fun W hW => by have c1 : W.cell? ⟨w.heap.size, 0, none⟩ = some (.int .i64 ix) := hW.cellAt 0; go_simp⟩) hS ?_
  simp only [List.getElem_toArray, List.getElem_cons_zero, List.getElem_cons_succ, Act.put, List.setIfInBounds_toArray, List.set_cons_zero, List.set_cons_succ]
  refine wpAnyH_take (i := 2) (v := .int .u64 (IntKind.u64.wrap ix)) rfl (by kernel_rfl) (by kernel_rfl) (by kernel_rfl) (fun _ _ _ h => h) (Or.inl ⟨by simp [Region.wanted], fun W _ => by go_simp⟩) hS ?_
  simp only [List.getElem_toArray, List.getElem_cons_zero, List.getElem_cons_succ, Act.put, List.setIfInBounds_toArray, List.set_cons_zero, List.set_cons_succ]
  refine wpAnyH_take (i := 4) (v := .pointer (some ⟨w.heap.size, 1, none⟩)) rfl (by kernel_rfl) (by kernel_rfl) (by kernel_rfl) (fun _ _ _ h => h) (Or.inl ⟨by simp [Region.wanted], fun W _ => by go_simp⟩) hS ?_
  simp only [List.getElem_toArray, List.getElem_cons_zero, List.getElem_cons_succ, Act.put, List.setIfInBounds_toArray, List.set_cons_zero, List.set_cons_succ]
  refine wpAnyH_take (i := 5) (v := .int .i64 fi) rfl (by kernel_rfl) (by kernel_rfl) (by kernel_rfl) (fun _ _ _ h => h) (Or.inl ⟨by simp [Region.wanted], fun W hW => by have c1 : W.cell? ⟨w.heap.size, 1, none⟩ = some (.int .i64 fi) := hW.cellAt 1; go_simp⟩) hS ?_
  simp only [List.getElem_toArray, List.getElem_cons_zero, List.getElem_cons_succ, Act.put, List.setIfInBounds_toArray, List.set_cons_zero, List.set_cons_succ]
  refine wpAnyH_take (i := 6) (v := .int .u64 (IntKind.u64.wrap fi)) rfl (by kernel_rfl) (by kernel_rfl) (by kernel_rfl) (fun _ _ _ h => h) (Or.inl ⟨by simp [Region.wanted], fun W _ => by go_simp⟩) hS ?_
  simp only [List.getElem_toArray, List.getElem_cons_zero, List.getElem_cons_succ, Act.put, List.setIfInBounds_toArray, List.set_cons_zero, List.set_cons_succ]
  refine wpAnyH_take (i := 9) (v := .pointer (some ⟨w.heap.size, 2, none⟩)) rfl (by kernel_rfl) (by kernel_rfl) (by kernel_rfl) (fun _ _ _ h => h) (Or.inl ⟨by simp [Region.wanted], fun W _ => by go_simp⟩) hS ?_
  simp only [List.getElem_toArray, List.getElem_cons_zero, List.getElem_cons_succ, Act.put, List.setIfInBounds_toArray, List.set_cons_zero, List.set_cons_succ]
  refine wpAnyH_take (i := 10) (v := .int .i64 co) rfl (by kernel_rfl) (by kernel_rfl) (by kernel_rfl) (fun _ _ _ h => h) (Or.inl ⟨by simp [Region.wanted], fun W hW => by have c1 : W.cell? ⟨w.heap.size, 2, none⟩ = some (.int .i64 co) := hW.cellAt 2; go_simp⟩) hS ?_
  simp only [List.getElem_toArray, List.getElem_cons_zero, List.getElem_cons_succ, Act.put, List.setIfInBounds_toArray, List.set_cons_zero, List.set_cons_succ]
  refine wpAnyH_take (i := 11) (v := .int .u64 (IntKind.u64.wrap co)) rfl (by kernel_rfl) (by kernel_rfl) (by kernel_rfl) (fun _ _ _ h => h) (Or.inl ⟨by simp [Region.wanted], fun W _ => by go_simp⟩) hS ?_
  simp only [List.getElem_toArray, List.getElem_cons_zero, List.getElem_cons_succ, Act.put, List.setIfInBounds_toArray, List.set_cons_zero, List.set_cons_succ]
  refine wpAnyH_take (i := 14) (v := .pointer (some ⟨w.heap.size, 3, none⟩)) rfl (by kernel_rfl) (by kernel_rfl) (by kernel_rfl) (fun _ _ _ h => h) (Or.inl ⟨by simp [Region.wanted], fun W _ => by go_simp⟩) hS ?_
  simp only [List.getElem_toArray, List.getElem_cons_zero, List.getElem_cons_succ, Act.put, List.setIfInBounds_toArray, List.set_cons_zero, List.set_cons_succ]
  refine wpAnyH_take (i := 15) (v := .int .i64 b) rfl (by kernel_rfl) (by kernel_rfl) (by kernel_rfl) (fun _ _ _ h => h) (Or.inl ⟨by simp [Region.wanted], fun W hW => by have c1 : W.cell? ⟨w.heap.size, 3, none⟩ = some (.int .i64 b) := hW.cellAt 3; go_simp⟩) hS ?_
  simp only [List.getElem_toArray, List.getElem_cons_zero, List.getElem_cons_succ, Act.put, List.setIfInBounds_toArray, List.set_cons_zero, List.set_cons_succ]
  refine wpAnyH_take (i := 16) (v := .int .u64 (IntKind.u64.wrap b)) rfl (by kernel_rfl) (by kernel_rfl) (by kernel_rfl) (fun _ _ _ h => h) (Or.inl ⟨by simp [Region.wanted], fun W _ => by go_simp⟩) hS ?_
  simp only [List.getElem_toArray, List.getElem_cons_zero, List.getElem_cons_succ, Act.put, List.setIfInBounds_toArray, List.set_cons_zero, List.set_cons_succ]
  refine wpAnyH_take (i := 19) (v := .pointer (some ⟨w.heap.size, 4, none⟩)) rfl (by kernel_rfl) (by kernel_rfl) (by kernel_rfl) (fun _ _ _ h => h) (Or.inl ⟨by simp [Region.wanted], fun W _ => by go_simp⟩) hS ?_
  simp only [List.getElem_toArray, List.getElem_cons_zero, List.getElem_cons_succ, Act.put, List.setIfInBounds_toArray, List.set_cons_zero, List.set_cons_succ]
  refine wpAnyH_take (i := 20) (v := .string pv) rfl (by kernel_rfl) (by kernel_rfl) (by kernel_rfl) (fun _ _ _ h => h) (Or.inl ⟨by simp [Region.wanted], fun W hW => by have c1 : W.cell? ⟨w.heap.size, 4, none⟩ = some (.string pv) := hW.cellAt 4; go_simp⟩) hS ?_
  simp only [List.getElem_toArray, List.getElem_cons_zero, List.getElem_cons_succ, Act.put, List.setIfInBounds_toArray, List.set_cons_zero, List.set_cons_succ]
  refine wpAnyH_take (i := 23) (v := .pointer (some ⟨w.heap.size, 5, none⟩)) rfl (by kernel_rfl) (by kernel_rfl) (by kernel_rfl) (fun _ _ _ h => h) (Or.inl ⟨by simp [Region.wanted], fun W _ => by go_simp⟩) hS ?_
  simp only [List.getElem_toArray, List.getElem_cons_zero, List.getElem_cons_succ, Act.put, List.setIfInBounds_toArray, List.set_cons_zero, List.set_cons_succ]
  refine wpAnyH_take (i := 24) (v := .string rt) rfl (by kernel_rfl) (by kernel_rfl) (by kernel_rfl) (fun _ _ _ h => h) (Or.inl ⟨by simp [Region.wanted], fun W hW => by have c1 : W.cell? ⟨w.heap.size, 5, none⟩ = some (.string rt) := hW.cellAt 5; go_simp⟩) hS ?_
  simp only [List.getElem_toArray, List.getElem_cons_zero, List.getElem_cons_succ, Act.put, List.setIfInBounds_toArray, List.set_cons_zero, List.set_cons_succ]
  refine wpAnyH_ready (rs := [3]) (by kernel_rfl) (by simp) ?_
  refine AllReadyH.cons rfl (fun K1 hK1 => ?_) AllReadyH.nil
  refine wanted_go rfl ?_
  simp only [List.getElem_toArray, List.getElem_cons_zero, List.getElem_cons_succ]
  go_wp2_with (go_at_call 30; refine (HA.out _).mono ?_; rintro e w1 ⟨rfl, hb1⟩; have HB1 := Lib.hid hb1; clear hb1)
  refine hK1.out _ _ (hS.below HB1.out) (fun hS1 => ?_)
  refine wpAnyH_ready (rs := [7]) (by kernel_rfl) (by simp) ?_
  refine AllReadyH.cons rfl (fun K2 hK2 => ?_) AllReadyH.nil
  refine wanted_go rfl ?_
  simp only [List.getElem_toArray, List.getElem_cons_zero, List.getElem_cons_succ]
  go_wp2_with (go_at_call 30; refine (HB.out _).mono ?_; rintro e w2 ⟨rfl, hb2⟩; have HB2 := Lib.hid hb2; clear hb2)
  refine hK2.out _ _ (hS1.below HB2.out) (fun hS2 => ?_)
  refine wpAnyH_take (i := 8) (v := .string (E1 ++ E2)) rfl (by kernel_rfl) (by kernel_rfl) (by kernel_rfl) (fun _ _ _ h => h) (Or.inl ⟨by simp [Region.wanted], fun W _ => by go_simp; omega⟩) hS2 ?_
  simp only [List.getElem_toArray, List.getElem_cons_zero, List.getElem_cons_succ, Act.put, List.setIfInBounds_toArray, List.set_cons_zero, List.set_cons_succ]
  refine wpAnyH_ready (rs := [12]) (by kernel_rfl) (by simp) ?_
  refine AllReadyH.cons rfl (fun K3 hK3 => ?_) AllReadyH.nil
  refine wanted_go rfl ?_
  simp only [List.getElem_toArray, List.getElem_cons_zero, List.getElem_cons_succ]
  go_wp2_with (go_at_call 30; refine (HC.out _).mono ?_; rintro e w3 ⟨rfl, hb3⟩; have HB3 := Lib.hid hb3; clear hb3)
  refine hK3.out _ _ (hS2.below HB3.out) (fun hS3 => ?_)
  refine wpAnyH_take (i := 13) (v := .string (E1 ++ E2 ++ E3)) rfl (by kernel_rfl) (by kernel_rfl) (by kernel_rfl) (fun _ _ _ h => h) (Or.inl ⟨by simp [Region.wanted], fun W _ => by go_simp; omega⟩) hS3 ?_
  simp only [List.getElem_toArray, List.getElem_cons_zero, List.getElem_cons_succ, Act.put, List.setIfInBounds_toArray, List.set_cons_zero, List.set_cons_succ]
  refine wpAnyH_ready (rs := [17]) (by kernel_rfl) (by simp) ?_
  refine AllReadyH.cons rfl (fun K4 hK4 => ?_) AllReadyH.nil
  refine wanted_go rfl ?_
  simp only [List.getElem_toArray, List.getElem_cons_zero, List.getElem_cons_succ]
  go_wp2_with (go_at_call 30; refine (HD.out _).mono ?_; rintro e w4 ⟨rfl, hb4⟩; have HB4 := Lib.hid hb4; clear hb4)
  refine hK4.out _ _ (hS3.below HB4.out) (fun hS4 => ?_)
  refine wpAnyH_take (i := 18) (v := .string (E1 ++ E2 ++ E3 ++ E4)) rfl (by kernel_rfl) (by kernel_rfl) (by kernel_rfl) (fun _ _ _ h => h) (Or.inl ⟨by simp [Region.wanted], fun W _ => by go_simp; omega⟩) hS4 ?_
  simp only [List.getElem_toArray, List.getElem_cons_zero, List.getElem_cons_succ, Act.put, List.setIfInBounds_toArray, List.set_cons_zero, List.set_cons_succ]
  refine wpAnyH_ready (rs := [21]) (by kernel_rfl) (by simp) ?_
  refine AllReadyH.cons rfl (fun K5 hK5 => ?_) AllReadyH.nil
  refine wanted_go rfl ?_
  simp only [List.getElem_toArray, List.getElem_cons_zero, List.getElem_cons_succ]
  go_wp2_with (go_at_call 31; refine (HP.out _).mono ?_; rintro e w5 ⟨rfl, hb5⟩; have HB5 := Lib.hid hb5; clear hb5)
  refine hK5.out _ _ (hS4.below HB5.out) (fun hS5 => ?_)
  refine wpAnyH_take (i := 22) (v := .string (E1 ++ E2 ++ E3 ++ E4 ++ E5)) rfl (by kernel_rfl) (by kernel_rfl) (by kernel_rfl) (fun _ _ _ h => h) (Or.inl ⟨by simp [Region.wanted], fun W _ => by go_simp; omega⟩) hS5 ?_
  simp only [List.getElem_toArray, List.getElem_cons_zero, List.getElem_cons_succ, Act.put, List.setIfInBounds_toArray, List.set_cons_zero, List.set_cons_succ]
  refine wpAnyH_ready (rs := [25]) (by kernel_rfl) (by simp) ?_
  refine AllReadyH.cons rfl (fun K6 hK6 => ?_) AllReadyH.nil
  refine wanted_go rfl ?_
  simp only [List.getElem_toArray, List.getElem_cons_zero, List.getElem_cons_succ]
  go_wp2_with (go_at_call 31; refine (HR.out _).mono ?_; rintro e w6 ⟨rfl, hb6⟩; have HB6 := Lib.hid hb6; clear hb6)
  refine hK6.out _ _ (hS5.below HB6.out) (fun hS6 => ?_)
  refine wpAnyH_take (i := 26) (v := .string (E1 ++ E2 ++ E3 ++ E4 ++ E5 ++ E6)) rfl (by kernel_rfl) (by kernel_rfl) (by kernel_rfl) (fun _ _ _ h => h) (Or.inl ⟨by simp [Region.wanted], fun W _ => by go_simp; omega⟩) hS6 ?_
  simp only [List.getElem_toArray, List.getElem_cons_zero, List.getElem_cons_succ, Act.put, List.setIfInBounds_toArray, List.set_cons_zero, List.set_cons_succ]
  refine wpAnyH_take (i := 27) (v := .string (E1 ++ E2 ++ E3 ++ E4 ++ E5 ++ E6)) rfl (by kernel_rfl) (by kernel_rfl) (by kernel_rfl) (fun _ _ _ h => h) (Or.inl ⟨by simp [Region.wanted], fun W _ => by go_simp⟩) hS6 ?_
  simp only [List.getElem_toArray, List.getElem_cons_zero, List.getElem_cons_succ, Act.put, List.setIfInBounds_toArray, List.set_cons_zero, List.set_cons_succ]
  refine wpAnyH_done (by kernel_rfl) ?_ _
  go_wp2
  go_ret
  exact ⟨rfl, hS6.2.1⟩
end Go.Proofs.YtipaicfmodgcoaaDoor

namespace Go.Proofs.YtipaicfmodgcoaaDoor
open Go.RowKit Base Base2

/-- The document's reader: what is left, the fault. -/
def RdYs (w : World) (q : Nat) (S : ByteArray) (st : StR) : Prop := ∃ P, P ≤ S.size ∧ RdY w q S P st.2 ∧ st.1 = S.extract P S.size
theorem RdYs.grown {w w' : World} {q : Nat} {S : ByteArray} {st : StR} {r : Option Nat} (h : RdYs w q S st) (hg : w.grownBy w' r) (hr : some q ≠ r) : RdYs w' q S st :=
  let ⟨P, h1, h2, h3⟩ := h; ⟨P, h1, h2.grown hg hr, h3⟩
theorem RdYs.below {w w' : World} {q B : Nat} {S : ByteArray} {st : StR} (h : RdYs w q S st) (hb : Below B w w') (hB : q < B) : RdYs w' q S st :=
  let ⟨P, h1, h2, h3⟩ := h; ⟨P, h1, h2.below hb hB, h3⟩
theorem RdYs.lt {w : World} {q : Nat} {S : ByteArray} {st : StR} (h : RdYs w q S st) : q < w.heap.size := let ⟨_, _, h2, _⟩ := h; h2.lt
theorem RdYs.c2 {w : World} {q : Nat} {S : ByteArray} {st : StR} (h : RdYs w q S st) : w.cell? ⟨q, 2, none⟩ = some (.int .i64 st.2) := let ⟨_, _, h2, _⟩ := h; h2.c2
theorem RdYs.start {w : World} {q : Nat} {S : ByteArray} (h : RdY w q S 0 0) : RdYs w q S (S, 0) := ⟨0, Nat.zero_le _, h, ByteArray.extract_zero_size.symm⟩
theorem ext_ext2 (S : ByteArray) (P k : Nat) (_hP : P ≤ S.size) : (S.extract P S.size).extract k (S.extract P S.size).size = S.extract (P + k) S.size := by
  apply ByteArray.ext
  have e : (S.extract P S.size).size = S.size - P := by simp [ByteArray.size_extract]
  rw [e]
  simp only [ByteArray.data_extract, Array.extract_extract]
  congr 1; omega
theorem after_eq (S : ByteArray) (P : Nat) (e k er : Int) (hP : P ≤ S.size) (_hk : 0 ≤ k) : AfterX (S.extract P S.size) e k er = (S.extract (AfterY P e k er).1 S.size, (AfterY P e k er).2) := by
  unfold AfterX AfterY
  split
  · split
    · rw [ext_ext2 S P _ hP]
    · rfl
  · rfl
theorem afterY_leH (S : ByteArray) (P : Nat) (e k er : Int) (hP : P ≤ S.size) (hk : k ≤ ((S.size - P : Nat) : Int)) (_h0 : 0 ≤ k) : (AfterY P e k er).1 ≤ S.size := by
  unfold AfterY
  split
  · split
    · show P + k.toNat ≤ S.size; omega
    · exact hP
  · exact hP
theorem orZ_cast (e : Int) (a : Nat) : orZ e (a : Int) 0 = ((orZ e a 0 : Nat) : Int) := by unfold orZ; split <;> rfl
theorem numY (q : Nat) (S : ByteArray) (st : StR) (most : Int) (w : World) (hs : S.size ≤ 1000000) (h : RdYs w q S st) :
    Calls Tryd.prog 33 #[.pointer (some ⟨q, 0, none⟩), .int .u64 most] w fun x w' => x = .returned (.int .u64 ((stepNum most st).1 : Int)) ∧ RdYs w' q S (stepNum most st).2 ∧ w.grownBy w' (some q) := by
  obtain ⟨P, hP, hr, hst⟩ := h
  obtain ⟨s, e⟩ := st
  simp only at hr hst
  subst hst
  refine (num26 q S P e most w hs hP hr).mono ?_
  rintro x w' ⟨rfl, hr2, hg⟩
  have hle := numTo_le (S.extract P S.size) (fun n => decide ((n : Int) ≤ most))
  have hx : (S.extract P S.size).size = S.size - P := by simp [ByteArray.size_extract]
  rw [hx] at hle
  have ha : (stepNum most (S.extract P S.size, e)).2 = (S.extract (AfterY P e ((numTo (S.extract P S.size).data.toList (fun n => decide ((n : Int) ≤ most))).2.1 : Int) (numTo (S.extract P S.size).data.toList (fun n => decide ((n : Int) ≤ most))).2.2).1 S.size, (AfterY P e ((numTo (S.extract P S.size).data.toList (fun n => decide ((n : Int) ≤ most))).2.1 : Int) (numTo (S.extract P S.size).data.toList (fun n => decide ((n : Int) ≤ most))).2.2).2) :=
    after_eq S P e _ _ hP (by omega)
  rw [ha]
  exact ⟨by rw [orZ_cast]; rfl, ⟨_, afterY_leH S P e _ _ hP (by omega) (by omega), hr2, rfl⟩, hg⟩
theorem rowY (q : Nat) (S : ByteArray) (st : StR) (most : Int) (w : World) (hs : S.size ≤ 1000000) (hm1 : -9223372036854775808 ≤ most) (hm2 : most ≤ 9223372036854775807) (h : RdYs w q S st) :
    Calls Tryd.prog 34 #[.pointer (some ⟨q, 0, none⟩), .int .i64 most] w fun x w' => x = .returned (.string (stepRow most st).1) ∧ RdYs w' q S (stepRow most st).2 ∧ w.grownBy w' (some q) := by
  obtain ⟨P, hP, hr, hst⟩ := h
  obtain ⟨s, e⟩ := st
  simp only at hr hst
  subst hst
  refine (row28 q S P e most w hs hP hm1 hm2 hr).mono ?_
  rintro x w' ⟨rfl, hr2, hg⟩
  have hle := rowR_k (S.extract P S.size) most
  have hx : (S.extract P S.size).size = S.size - P := by simp [ByteArray.size_extract]
  rw [hx] at hle
  have ha : (stepRow most (S.extract P S.size, e)).2 = (S.extract (AfterY P e (rowR (S.extract P S.size) most).2.1 (rowR (S.extract P S.size) most).2.2).1 S.size, (AfterY P e (rowR (S.extract P S.size) most).2.1 (rowR (S.extract P S.size) most).2.2).2) :=
    after_eq S P e _ _ hP hle.1
  rw [ha]
  exact ⟨rfl, ⟨_, afterY_leH S P e _ _ hP hle.2 hle.1, hr2, rfl⟩, hg⟩
theorem leftY (q : Nat) (S : ByteArray) (st : StR) (w : World) (hs : S.size ≤ 1000000) (h : RdYs w q S st) :
    Calls Tryd.prog 35 #[.pointer (some ⟨q, 0, none⟩)] w fun x w' => x = .returned (.int .i64 (st.1.size : Int)) ∧ ∃ m, w' = w.drewN m := by
  obtain ⟨P, hP, hr, hst⟩ := h
  refine (left32 q S P st.2 w hs hP hr).mono ?_
  rintro x w' ⟨rfl, m, rfl⟩
  exact ⟨by rw [hst], m, rfl⟩
end Go.Proofs.YtipaicfmodgcoaaDoor

namespace Go.Proofs.YtipaicfmodgcoaaDoor
open Go.RowKit Base

theorem infoHd : (Tryd.prog.info? 23).map (·.size) = some 6 := by kernel_rfl
theorem load_head {W : World} {g : Nat} {hc : Array Value} (hs : hc.size = 6) (h : W.heap[g]? = some (.cells hc 23 (0, 0))) : (Instr.loadAt 23 (.pointer (some ⟨g, 0, none⟩))).run Tryd.prog W = .ok (.agg hc) W := by
  have hr := World.rangeAt_of_block h 0 6
  have e : (hc.extract 0 (0 + 6)).toList = hc.toList := by
    rw [show 0 + 6 = hc.size by omega, Array.extract_size]
  rw [e] at hr
  have := load_at (P := Tryd.prog) W g 0 23 hc.toList _ hr Tryd.underlying23 rfl (by rw [infoHd]; simp [hs])
  simpa using this
/-- The key and a header lie in boxes. -/
def KeyH (w : World) (kc hc : Array Value) (W : World) : Prop := W.heap[w.heap.size]? = some (.cells kc 37 (0, 0)) ∧ W.heap[w.heap.size + 1]? = some (.cells hc 23 (0, 0)) ∧ Below w.heap.size w W ∧ w.heap.size + 1 < W.heap.size
theorem KeyH.below {w W W' : World} {kc hc : Array Value} (h : KeyH w kc hc W) (hb : Below W.heap.size W W') : KeyH w kc hc W' :=
  ⟨(hb.block _ (by have := h.2.2.2; omega)).trans h.1, (hb.block _ h.2.2.2).trans h.2.1, h.2.2.1.trans (hb.mono (by have := h.2.2.2; omega)), Nat.lt_of_lt_of_le h.2.2.2 hb.size⟩
theorem KeyH.drew {w W : World} {kc hc : Array Value} (h : KeyH w kc hc W) : KeyH w kc hc W.drew := ⟨h.1, h.2.1, h.2.2.1.drew, h.2.2.2⟩
theorem KeyH.box (w : World) (kc hc : Array Value) : KeyH w kc hc ((w.alloc (.cells kc 37)).alloc (.cells hc 23)) := by
  have hn := heap_alloc_new (w.alloc (.cells kc 37)) (.cells hc 23)
  rw [World.size_alloc] at hn
  exact ⟨(Below.heap_alloc _ _ _ (by simp)).trans (heap_alloc_new w _), hn, ((Below.refl _ w).alloc (Nat.le_refl _) _).alloc (by simp) _, by simp⟩

theorem putH_size (h : HeadT) (hp : h.pv.size ≤ 1000) (hr : h.rt.size ≤ 1000) : (putH h).size ≤ 3000 := by
  unfold putH encU rowB
  simp only [ByteArray.size_append]
  have z1 := encB_size (IntKind.u64.wrap h.ix).toNat; have z2 := encB_size (IntKind.u64.wrap h.fi).toNat; have z3 := encB_size (IntKind.u64.wrap h.co).toNat; have z4 := encB_size (IntKind.u64.wrap h.by').toNat
  have z5 := encB_size h.pv.size; have z6 := encB_size h.rt.size
  omega

set_option maxRecDepth 100000 in
set_option maxHeartbeats 2000000 in
theorem rhash15 (h : HeadT) (n : Nat) (w : World) (hn : n ≤ 32) (hp : h.pv.size ≤ 1000) (hr : h.rt.size ≤ 1000) : Calls Tryd.prog 15 #[.agg keyCells, hv h, .int .i64 (n : Int)] w fun e w' => e = .returned (.string (hashH n h)) ∧ Below w.heap.size w w' := by
  have HP := Lib.hid (fun W => rput17 h W hp hr)
  have hz := putH_size h hp hr
  have HC := Lib.hid (fun W => cut22 (putH h) n W hn (by omega))
  have HX := Lib.hid (show hashH n h = cutH n (putH h) from rfl)
  rw [HX.out]
  generalize cutH n (putH h) = D at *
  generalize putH h = E1 at *
  have HKS := Lib.hid key_size
  generalize keyCells = kc at *
  have hsz : (hcells h).size = 6 := rfl
  have HHS := Lib.hid hsz
  unfold hv at *
  generalize hcells h = hc at *
  clear hp hr hsz HX
  go_enter Tryd.func15, Tryd.ntmps15
  go_upto_region 1 with (fail)
  refine at_world (Φ := KeyH w kc hc) (KeyH.box w kc hc) ?_
  rintro W hW
  have HW := Lib.hid hW
  clear hW
  refine wp_region_held_drew (S := KeyH w kc hc) (by kernel_rfl) (HW.out.drew) (fun hS => ?_)
  refine wpAnyH_take (i := 0) (v := .agg kc) rfl (by kernel_rfl) (by kernel_rfl) (by kernel_rfl) (fun _ _ _ h => h) (yieldsIf_load rfl 37 (.tmp 3) rfl _ _ rfl (fun W hW => load_key HKS.out hW.1)) hS ?_
  simp only [List.getElem_toArray, List.getElem_cons_zero, Act.put, List.setIfInBounds_toArray, List.set_cons_zero, List.set_cons_succ]
  refine wpAnyH_take (i := 1) (v := .agg hc) rfl (by kernel_rfl) (by kernel_rfl) (by kernel_rfl) (fun _ _ _ h => h) (yieldsIf_load rfl 23 (.tmp 4) rfl _ _ rfl (fun W hW => load_head HHS.out hW.2.1)) hS ?_
  simp only [List.getElem_toArray, List.getElem_cons_zero, List.getElem_cons_succ, Act.put, List.setIfInBounds_toArray, List.set_cons_zero, List.set_cons_succ]
  refine wpAnyH_take (i := 3) (v := .int .i64 (n : Int)) rfl (by kernel_rfl) (by kernel_rfl) (by kernel_rfl) (fun _ _ _ h => h) (Or.inl ⟨by simp [Region.wanted], fun W _ => by go_simp⟩) hS ?_
  simp only [List.getElem_toArray, List.getElem_cons_zero, List.getElem_cons_succ, Act.put, List.setIfInBounds_toArray, List.set_cons_zero, List.set_cons_succ]
  refine wpAnyH_ready (rs := [2]) (by kernel_rfl) (by simp) ?_
  refine AllReadyH.cons rfl (fun K1 hK1 => ?_) AllReadyH.nil
  refine wanted_go rfl ?_
  simp only [List.getElem_toArray, List.getElem_cons_zero, List.getElem_cons_succ]
  go_wp2_with (go_at_call 17; refine (HP.out _).mono ?_; rintro e w1 ⟨rfl, hb1⟩; have HB1 := Lib.hid hb1; clear hb1)
  refine hK1.out _ _ (hS.below HB1.out) (fun hS1 => ?_)
  refine wpAnyH_ready (rs := [4]) (by kernel_rfl) (by simp) ?_
  refine AllReadyH.cons rfl (fun K2 hK2 => ?_) AllReadyH.nil
  refine wanted_go rfl ?_
  simp only [List.getElem_toArray, List.getElem_cons_zero, List.getElem_cons_succ]
  go_wp2_with (go_at_call 16; refine (HC.out _).mono ?_; rintro e w2 ⟨rfl, hb2⟩; have HB2 := Lib.hid hb2; clear hb2)
  refine hK2.out _ _ (hS1.below HB2.out) (fun hS2 => ?_)
  refine wpAnyH_take (i := 5) (v := .string D) rfl (by kernel_rfl) (by kernel_rfl) (by kernel_rfl) (fun _ _ _ h => h) (Or.inl ⟨by simp [Region.wanted], fun W _ => by go_simp⟩) hS2 ?_
  simp only [List.getElem_toArray, List.getElem_cons_zero, List.getElem_cons_succ, Act.put, List.setIfInBounds_toArray, List.set_cons_zero, List.set_cons_succ]
  refine wpAnyH_done (by kernel_rfl) ?_ _
  go_wp2
  go_ret
  exact ⟨rfl, hS2.2.2.1⟩
end Go.Proofs.YtipaicfmodgcoaaDoor

namespace Go.Proofs.YtipaicfmodgcoaaDoor
open Go.RowKit Base Base2

/-- A row of headers from an address on. -/
def HeadsAt (W : World) (a : Option Addr) (l : List HeadT) : Prop := l = [] ∨ ∃ b off, a = some ⟨b, off, none⟩ ∧ b < W.heap.size ∧ ∀ (i : Nat) (h : HeadT), l[i]? = some h → W.rangeAt b (off + i * 6) (hcells h).toList
theorem rangeAt_below {w W : World} {b o : Nat} {cs : List Value} (h : w.rangeAt b o cs) (hb : Below w.heap.size w W) (hlt : b < w.heap.size) : W.rangeAt b o cs := fun j v hv => (hb.cell (p := ⟨b, o + j, none⟩) hlt).trans (h j v hv)
theorem HeadsAt.below {W W' : World} {a : Option Addr} {l : List HeadT} (h : HeadsAt W a l) (hb : Below W.heap.size W W') : HeadsAt W' a l := by
  rcases h with h | ⟨b, off, rfl, h1, h2⟩
  · exact .inl h
  · exact .inr ⟨b, off, rfl, Nat.lt_of_lt_of_le h1 hb.size, fun i t hi => rangeAt_below (h2 i t hi) hb h1⟩
theorem HeadsAt.some {W : World} {a : Option Addr} {l : List HeadT} (h : HeadsAt W a l) (hl : 1 ≤ l.length) : ∃ b off, a = some ⟨b, off, none⟩ ∧ b < W.heap.size ∧ ∀ (i : Nat) (h : HeadT), l[i]? = some h → W.rangeAt b (off + i * 6) (hcells h).toList := by
  rcases h with rfl | h
  · simp at hl
  · exact h
theorem load_headAt {W : World} {b o : Nat} {h : HeadT} (hr : W.rangeAt b o (hcells h).toList) : (Instr.loadAt 23 (.pointer (Option.some ⟨b, o, none⟩))).run Tryd.prog W = .ok (.agg (hcells h)) W := by
  have := load_at (P := Tryd.prog) W b o 23 (hcells h).toList _ hr Tryd.underlying23 rfl (by rw [infoHd]; rfl)
  simpa using this
/-- The results of Chain. -/
def chainV (r : Option ByteArray) : Value := .tuple #[.string (r.getD ⟨#[]⟩), .bool r.isSome]
theorem chainG_end (n : Nat) (l : List HeadT) (i : Nat) (fi : Int) (pv : ByteArray) (h : l.length ≤ i) : chainG n (l.drop i) i fi pv = Option.some pv := by
  rw [List.drop_of_length_le h]; rfl
theorem chainG_no (n : Nat) (l : List HeadT) (i : Nat) (fi : Int) (pv : ByteArray) (h : HeadT) (hi : l[i]? = Option.some h) (hc : ¬ (mayH h n = true ∧ h.ix = (i : Int) ∧ h.fi = fi ∧ h.pv = pv)) : chainG n (l.drop i) i fi pv = none := by
  obtain ⟨hlt, ht⟩ := List.getElem?_eq_some_iff.1 hi
  rw [List.drop_eq_getElem_cons hlt, ht]
  unfold chainG
  rw [if_neg]
  simp only [Bool.and_eq_true, decide_eq_true_eq]
  rintro ⟨⟨⟨a, b⟩, c⟩, d⟩
  exact hc ⟨a, b, c, d⟩
theorem chainG_yes (n : Nat) (l : List HeadT) (i : Nat) (fi : Int) (pv : ByteArray) (h : HeadT) (hi : l[i]? = Option.some h) (hc : mayH h n = true ∧ h.ix = (i : Int) ∧ h.fi = fi ∧ h.pv = pv) : chainG n (l.drop i) i fi pv = chainG n (l.drop (i + 1)) (i + 1) (fi + h.co) (hashH n h) := by
  obtain ⟨hlt, ht⟩ := List.getElem?_eq_some_iff.1 hi
  rw [List.drop_eq_getElem_cons hlt, ht]
  conv => lhs; unfold chainG
  rw [if_pos]
  simp only [Bool.and_eq_true, decide_eq_true_eq]
  exact ⟨⟨⟨hc.1, hc.2.1⟩, hc.2.2.1⟩, hc.2.2.2⟩
theorem str_ne {a b : ByteArray} (h : a ≠ b) : (a.toList == b.toList) = false := by
  rw [beq_eq_false_iff_ne, ByteArray.toList_eq, ByteArray.toList_eq]
  intro h2; exact h (by apply ByteArray.ext; exact Array.toList_inj.1 h2)

set_option maxRecDepth 100000 in
set_option maxHeartbeats 8000000 in
theorem rchain20 (l : List HeadT) (a : Option Addr) (cap : Nat) (n : Nat) (w : World) (hn : n ≤ 32) (hr : HeadsAt w a l) (hl : l.length ≤ 4096) (hz : ∀ h ∈ l, h.pv.size ≤ 1000 ∧ h.rt.size ≤ 1000) :
    Calls Tryd.prog 20 #[.agg keyCells, .slice a l.length cap, .int .i64 (n : Int)] w fun e w' => e = .returned (chainV (chainH n l)) ∧ Below w.heap.size w w' := by
  have HC := Lib.hid (fun W => cut22 ⟨#[]⟩ n W hn (by decide))
  have HI := Lib.hid (show (Tryd.prog.info? 37).map (·.size) = Option.some keyCells.size by rw [key_size]; exact info33)
  obtain ⟨RES, hRES⟩ : ∃ R, chainH n l = R := ⟨_, rfl⟩
  have hR0 : chainG n (l.drop 0) 0 0 (cutH n ⟨#[]⟩) = RES := by rw [List.drop_zero]; exact hRES
  rw [hRES]
  generalize cutH n ⟨#[]⟩ = D at *
  have HKS := Lib.hid key_size
  have HH := Lib.hid (fun (h : HeadT) (W : World) (h1 : h.pv.size ≤ 1000 ∧ h.rt.size ≤ 1000) => rhash15 h n W hn h1.1 h1.2)
  have HR0 := Lib.hid hR0
  clear hRES hR0
  generalize keyCells = kc at *
  go_enter Tryd.func20, Tryd.ntmps20
  go_upto_region 1 with (fail)
  refine at_world (Φ := KeyS w kc) (KeyS.box w kc) ?_
  rintro W hW
  have HW := Lib.hid hW
  clear hW
  go_wp2_with (first
    | (refine wpList_load_row rfl 37 (.tmp 3) rfl w.heap.size rfl 37 kc (0, 0) _ HW.out.1 Tryd.underlying37 rfl HI.out ?_)
    | (go_at_call 16; refine (HC.out _).mono ?_; rintro e w1 ⟨rfl, hb1⟩; have HW1 := Lib.hid (HW.out.below hb1); clear hb1))
  go_loopw [8, 9, 10] (fun vp vf vi W => ∃ (i : Nat) (fi : Int) (pv : ByteArray), i ≤ l.length ∧ vp = .string pv ∧ vf = .int .i64 fi ∧ vi = .int .i64 (i : Int) ∧ chainG n (l.drop i) i fi pv = RES ∧ KeyS w kc W ∧ 0 ≤ fi ∧ fi ≤ 64 * i) (fun _ _ vi _ => l.length - (intOf vi).toNat)
  case atStart => exact ⟨0, 0, D, by omega, rfl, rfl, rfl, HR0.out, HW1.out, by omega, by omega⟩
  case round =>
    clear HR0 HW1 HW HC HI
    obtain ⟨i, fi, pv, hi, rfl, rfl, rfl, hres, hk, hf1, hf2⟩ := hrel
    by_cases hlt : i < l.length
    · obtain ⟨b, off, rfl, hbw, hcells⟩ := hr.some (by omega)
      obtain ⟨h, hh⟩ : ∃ h, l[i]? = Option.some h := ⟨l[i], by simp [hlt]⟩
      have hr0 := hcells i h hh
      have hzh := hz h (List.mem_of_getElem? hh)
      have HL := Lib.hid (fun (W : World) (hb : Below w.heap.size w W) => load_headAt (rangeAt_below hr0 hb hbw))
      have HM := Lib.hid (fun W => rmay14 h n W)
      have hno := chainG_no n l i fi pv h hh
      have hyes := chainG_yes n l i fi pv h hh
      have HK := Lib.hid hk
      have HHH := Lib.hid (fun W => HH.out h W hzh)
      have hm0 := mayH_iff h n
      have hcell : ∀ (W : World), Below w.heap.size w W → W.cell? ⟨b, off + i * 6, none⟩ = Option.some (.int .i64 h.ix) ∧ W.cell? ⟨b, off + i * 6 + 1, none⟩ = Option.some (.int .i64 h.fi) ∧ W.cell? ⟨b, off + i * 6 + 2, none⟩ = Option.some (.int .i64 h.co) ∧ W.cell? ⟨b, off + i * 6 + 3, none⟩ = Option.some (.int .i64 h.by') ∧ W.cell? ⟨b, off + i * 6 + 4, none⟩ = Option.some (.string h.pv) ∧ W.cell? ⟨b, off + i * 6 + 5, none⟩ = Option.some (.string h.rt) := fun W hb =>
        have h6 := rangeAt_below hr0 hb hbw
        ⟨h6 0 _ rfl, h6 1 _ rfl, h6 2 _ rfl, h6 3 _ rfl, h6 4 _ rfl, h6 5 _ rfl⟩
      obtain ⟨x0, hx0⟩ : ∃ x, hashH n h = x := ⟨_, rfl⟩
      rw [hx0] at HHH hyes
      obtain ⟨m0, hm⟩ : ∃ m, mayH h n = m := ⟨_, rfl⟩
      rw [hm] at HM hno hyes hm0
      obtain ⟨ix, hf, co, by', hp, rt⟩ := h
      dsimp only at hno hyes hcell hm0
      have HM2 : Hid (∀ W, Calls Tryd.prog 14 #[.agg #[.int .i64 ix, .int .i64 hf, .int .i64 co, .int .i64 by', .string hp, .string rt], .int .i64 (n : Int)] W fun e w' => e = .returned (.bool m0) ∧ Below W.heap.size W w') := HM
      have HCE := Lib.hid hcell
      obtain ⟨c0, c1, c2, c3, c4, c5⟩ := hcell _ HK.out.2.1
      clear hcell hr0 hcells hh hz hr hk HH hx0 hm HM
      cases m0 with
      | false =>
        rw [hno (by simp)] at hres
        subst hres
        clear hno hyes HHH HL
        go_wp2_with (go_at_call 14; refine (HM2.out _).mono ?_; rintro e w2 ⟨rfl, hb2⟩; have HK2 := Lib.hid (HK.out.below hb2); clear hb2)
        go_ret2
        exact ⟨rfl, HK2.out.2.1⟩
      | true =>
        by_cases k1 : ix = (i : Int)
        · by_cases k2 : hf = fi
          · by_cases k3 : hp = pv
            · rw [hyes ⟨rfl, k1, k2, k3⟩] at hres
              have b1 : (ix != (i : Int)) = false := by simpa using k1
              have b2 : (hf != fi) = false := by simpa using k2
              have b3 : (hp.toList == pv.toList) = true := by rw [k3]; simp
              have hm1 := hm0.1 rfl
              have hco : 1 ≤ co ∧ co ≤ 64 := hm1.2.2.1
              have HR1 := Lib.hid hres
              clear hno hyes k1 k2 k3 hm0 hm1 hres
              go_wp2_with (go_at_call 14; refine (HM2.out _).mono ?_; rintro e w2 ⟨rfl, hb2⟩; have HK2 := Lib.hid (HK.out.below hb2); obtain ⟨d0, d1, d2, d3, d4, d5⟩ := HCE.out _ HK2.out.2.1; clear hb2 c0 c1 c2 c3 c4 c5)
              refine wp_region_held_drew (S := KeyS w kc) (by kernel_rfl) (HK2.out.drew) (fun hS => ?_)
              refine wpAnyH_take (i := 0) (v := .agg kc) rfl (by kernel_rfl) (by kernel_rfl) (by kernel_rfl) (fun _ _ _ h => h) (yieldsIf_load rfl 37 (.tmp 3) rfl _ _ rfl (fun W hW => load_key HKS.out hW.1)) hS ?_
              simp only [List.getElem_toArray, List.getElem_cons_zero, Act.put, List.setIfInBounds_toArray, List.set_cons_zero, List.set_cons_succ]
              refine wpAnyH_take (i := 1) (v := .slice (Option.some ⟨b, off, none⟩) l.length cap) rfl (by kernel_rfl) (by kernel_rfl) (by kernel_rfl) (fun _ _ _ h => h) (Or.inl ⟨by simp [Region.wanted], fun W _ => by go_simp⟩) hS ?_
              simp only [List.getElem_toArray, List.getElem_cons_zero, List.getElem_cons_succ, Act.put, List.setIfInBounds_toArray, List.set_cons_zero, List.set_cons_succ]
              refine wpAnyH_take (i := 2) (v := .int .i64 (i : Int)) rfl (by kernel_rfl) (by kernel_rfl) (by kernel_rfl) (fun _ _ _ h => h) (Or.inl ⟨by simp [Region.wanted], fun W _ => by go_simp⟩) hS ?_
              simp only [List.getElem_toArray, List.getElem_cons_zero, List.getElem_cons_succ, Act.put, List.setIfInBounds_toArray, List.set_cons_zero, List.set_cons_succ]
              refine wpAnyH_take (i := 3) (v := .pointer (Option.some ⟨b, off + i * 6, none⟩)) rfl (by kernel_rfl) (by kernel_rfl) (by kernel_rfl) (fun _ _ _ h => h) (Or.inl ⟨by simp [Region.wanted], fun W _ => by go_simp⟩) hS ?_
              simp only [List.getElem_toArray, List.getElem_cons_zero, List.getElem_cons_succ, Act.put, List.setIfInBounds_toArray, List.set_cons_zero, List.set_cons_succ]
              refine wpAnyH_take (i := 4) (v := .agg (hcells ⟨ix, hf, co, by', hp, rt⟩)) rfl (by kernel_rfl) (by kernel_rfl) (by kernel_rfl) (fun _ _ _ h => h) (yieldsIf_load rfl 23 (.tmp 64) rfl _ _ rfl (fun W hW => HL.out W hW.2.1)) hS ?_
              simp only [List.getElem_toArray, List.getElem_cons_zero, List.getElem_cons_succ, Act.put, List.setIfInBounds_toArray, List.set_cons_zero, List.set_cons_succ]
              refine wpAnyH_take (i := 5) (v := .int .i64 (n : Int)) rfl (by kernel_rfl) (by kernel_rfl) (by kernel_rfl) (fun _ _ _ h => h) (Or.inl ⟨by simp [Region.wanted], fun W _ => by go_simp⟩) hS ?_
              simp only [List.getElem_toArray, List.getElem_cons_zero, List.getElem_cons_succ, Act.put, List.setIfInBounds_toArray, List.set_cons_zero, List.set_cons_succ]
              refine wpAnyH_ready (rs := [6]) (by kernel_rfl) (by simp) ?_
              refine AllReadyH.cons rfl (fun K1 hK1 => ?_) AllReadyH.nil
              refine wanted_go rfl ?_
              simp only [List.getElem_toArray, List.getElem_cons_zero, List.getElem_cons_succ]
              go_wp2_with (go_at_call 15; refine (HHH.out _).mono ?_; rintro e w3 ⟨rfl, hb3⟩; have HB3 := Lib.hid hb3; clear hb3)
              refine hK1.out _ _ (hS.below HB3.out) (fun hS1 => ?_)
              refine wpAnyH_take (i := 7) (v := .string x0) rfl (by kernel_rfl) (by kernel_rfl) (by kernel_rfl) (fun _ _ _ h => h) (Or.inl ⟨by simp [Region.wanted], fun W _ => by go_simp⟩) hS1 ?_
              simp only [List.getElem_toArray, List.getElem_cons_zero, List.getElem_cons_succ, Act.put, List.setIfInBounds_toArray, List.set_cons_zero, List.set_cons_succ]
              refine wpAnyH_done (by kernel_rfl) ?_ _
              go_wp2
              go_roundw
              case rel => exact ⟨i + 1, fi + co, x0, by omega, rfl, rfl, by go_num, HR1.out, hS1, by omega, by omega⟩
              case measure => simp [intOf]; omega
            · rw [hno (by simp only [not_and]; intros; first | exact k3 | (intros; simp_all))] at hres
              subst hres
              have b1 : (ix != (i : Int)) = false := by simpa using k1
              have b2 : (hf != fi) = false := by simpa using k2
              have b3 : (hp.toList == pv.toList) = false := str_ne k3
              clear hno hyes hm0 HHH HL k1 k2 k3
              go_wp2_with (go_at_call 14; refine (HM2.out _).mono ?_; rintro e w2 ⟨rfl, hb2⟩; have HK2 := Lib.hid (HK.out.below hb2); obtain ⟨d0, d1, d2, d3, d4, d5⟩ := HCE.out _ HK2.out.2.1; clear hb2 c0 c1 c2 c3 c4 c5)
              go_ret2
              exact ⟨rfl, HK2.out.2.1⟩
          · rw [hno (by simp only [not_and]; intros; first | exact k2 | (intros; simp_all))] at hres
            subst hres
            have b1 : (ix != (i : Int)) = false := by simpa using k1
            have b2 : (hf != fi) = true := by simpa using k2
            clear hno hyes hm0 HHH HL k1 k2
            go_wp2_with (go_at_call 14; refine (HM2.out _).mono ?_; rintro e w2 ⟨rfl, hb2⟩; have HK2 := Lib.hid (HK.out.below hb2); obtain ⟨d0, d1, d2, d3, d4, d5⟩ := HCE.out _ HK2.out.2.1; clear hb2 c0 c1 c2 c3 c4 c5)
            go_ret2
            exact ⟨rfl, HK2.out.2.1⟩
        · rw [hno (by simp only [not_and]; intros; first | exact k1 | (intros; simp_all))] at hres
          subst hres
          have b1 : (ix != (i : Int)) = true := by simpa using k1
          clear hno hyes hm0 HHH HL k1
          go_wp2_with (go_at_call 14; refine (HM2.out _).mono ?_; rintro e w2 ⟨rfl, hb2⟩; have HK2 := Lib.hid (HK.out.below hb2); obtain ⟨d0, d1, d2, d3, d4, d5⟩ := HCE.out _ HK2.out.2.1; clear hb2 c0 c1 c2 c3 c4 c5)
          go_ret2
          exact ⟨rfl, HK2.out.2.1⟩
    · have hie : i = l.length := by omega
      rw [chainG_end n l i fi pv (by omega)] at hres
      subst hres
      have HK := Lib.hid hk
      clear hk hr hz HH
      go_wp2
      go_ret2
      exact ⟨rfl, HK.out.2.1⟩
end Go.Proofs.YtipaicfmodgcoaaDoor

namespace Go.Proofs.YtipaicfmodgcoaaDoor
open Go.RowKit Base Base2

/-- While a header is read: the result's variable, the header's, the reader. -/
structure GetS (w : World) (q G : Nat) (S : ByteArray) (hc : Array Value) (st : StR) (W : World) : Prop where
  res : W.heap[w.heap.size]? = some (.cells (hcells zeroH) 23 (0, 0))
  hd : W.heap[G]? = some (.cells hc 23 (0, 0))
  rd : RdYs W q S st
  lo : Below w.heap.size w W
  q1 : w.heap.size < q
  g1 : w.heap.size < G
  ne : q ≠ G
theorem GetS.step {w W W' : World} {q G : Nat} {S : ByteArray} {hc : Array Value} {st st' : StR} (h : GetS w q G S hc st W) (hr : RdYs W' q S st') (hg : W.grownBy W' (some q)) : GetS w q G S hc st' W' := by
  have h1 := h.q1; have h2 := h.ne; have h3 := lt_of_blk h.res
  exact ⟨(hg.block _ h3 (by simp; omega)).trans h.res, (hg.block _ (lt_of_blk h.hd) (by simp; omega)).trans h.hd, hr, h.lo.grown hg (by omega) (fun k hk => by simp at hk; omega), h.q1, h.g1, h.ne⟩
theorem GetS.set {w W : World} {q G : Nat} {S : ByteArray} {hc : Array Value} {st : StR} (h : GetS w q G S hc st W) (i : Nat) (v : Value) : GetS w q G S (hc.setIfInBounds i v) st (W.setCell ⟨G, i, none⟩ v) := by
  have h1 := h.q1; have h2 := h.ne; have h3 := h.g1
  exact ⟨(heap_setCell_ne _ (by omega)).trans h.res, set_blkN h.hd i v, h.rd.grown (grown_set W G i v) (by simp; omega), h.lo.setCell (p := ⟨G, i, none⟩) (by simp; omega) _, h.q1, h.g1, h.ne⟩
theorem GetS.cell {w W : World} {q G : Nat} {S : ByteArray} {hc : Array Value} {st : StR} (h : GetS w q G S hc st W) (i : Nat) (v : Value) (hv : hc[i]? = some v) : W.cell? ⟨G, i, none⟩ = some v := by rw [cell_of_row W G i hc 23 (0, 0) h.hd]; exact hv
theorem GetS.free {w W : World} {q G : Nat} {S : ByteArray} {hc : Array Value} {st : StR} (h : GetS w q G S hc st W) (i : Nat) : W.frozen? ⟨G, i, none⟩ = false := free_of_blkN h.hd i
theorem GetS.drews {w W : World} {q G : Nat} {S : ByteArray} {hc : Array Value} {st : StR} (h : GetS w q G S hc st W) (m : Nat) : GetS w q G S hc st (W.drewN m) :=
  ⟨h.res, h.hd, h.rd.below (below_drews m) h.rd.lt, below_drewN' h.lo m, h.q1, h.g1, h.ne⟩
theorem GetS.drew1 {w W : World} {q G : Nat} {S : ByteArray} {hc : Array Value} {st : StR} (h : GetS w q G S hc st W) : GetS w q G S hc st W.drew := h.drews 1
theorem GetS.putZ {w W : World} {q G : Nat} {S : ByteArray} {hc : Array Value} {st : StR} (h : GetS w q G S hc st W) : GetS w q G S hc st (W.setRow w.heap.size (hcells zeroH)) := by
  have h1 := h.q1; have h2 := h.g1
  have hr := h.rd
  obtain ⟨P, p1, p2, p3⟩ := hr
  exact ⟨setRow_heap _ _ _ _ _ _ h.res, (setRow_ne _ (by omega)).trans h.hd, ⟨P, p1, (setRow_ne _ (by omega)).trans p2, p3⟩, below_row1 h.lo (Nat.le_refl _), h.q1, h.g1, h.ne⟩
theorem GetS.below {w W W' : World} {q G : Nat} {S : ByteArray} {hc : Array Value} {st : StR} (h : GetS w q G S hc st W) (hb : Below W.heap.size W W') : GetS w q G S hc st W' :=
  ⟨(hb.block _ (lt_of_blk h.res)).trans h.res, (hb.block _ (lt_of_blk h.hd)).trans h.hd, h.rd.below hb h.rd.lt, h.lo.trans (hb.mono (by have := lt_of_blk h.res; omega)), h.q1, h.g1, h.ne⟩

set_option maxRecDepth 100000 in
set_option maxHeartbeats 8000000 in
theorem rgetH18 (S : ByteArray) (n : Nat) (w : World) (hs : S.size ≤ 1000000) (hn : n ≤ 32) : Calls Tryd.prog 18 #[.string S, .int .i64 (n : Int)] w fun e w' => e = .returned (.tuple #[hv (getH S n).1, .int .i64 (getH S n).2]) ∧ Below w.heap.size w w' := by
  have hz0 := stepNum_size 1099511627776 (S, 0)
  have hl0 := stepNum_le 1099511627776 (by decide) (S, 0)
  have hread : readH S n = readH S n := rfl
  conv at hread => rhs; unfold readH
  simp only at hread
  have HN0 := Lib.hid (fun (G q : Nat) (hc : Array Value) (W : World) (h : GetS w q G S hc (S, 0) W) => numY q S (S, 0) 1099511627776 W hs h.rd)
  have hb0 := stepNum_le 1099511627776 (by decide) (S, 0)
  obtain ⟨⟨a0, t0⟩, hq0⟩ : ∃ z, stepNum 1099511627776 (S, 0) = z := ⟨_, rfl⟩
  rw [hq0] at HN0 hread hb0
  simp only at hread hb0
  have HN1 := Lib.hid (fun (G q : Nat) (hc : Array Value) (W : World) (h : GetS w q G S hc t0 W) => numY q S t0 1099511627776 W hs h.rd)
  have hb1 := stepNum_le 1099511627776 (by decide) t0
  obtain ⟨⟨a1, t1⟩, hq1⟩ : ∃ z, stepNum 1099511627776 t0 = z := ⟨_, rfl⟩
  rw [hq1] at HN1 hread hb1
  simp only at hread hb1
  have HN2 := Lib.hid (fun (G q : Nat) (hc : Array Value) (W : World) (h : GetS w q G S hc t1 W) => numY q S t1 64 W hs h.rd)
  have hb2 := stepNum_le 64 (by decide) t1
  obtain ⟨⟨a2, t2⟩, hq2⟩ : ∃ z, stepNum 64 t1 = z := ⟨_, rfl⟩
  rw [hq2] at HN2 hread hb2
  simp only at hread hb2
  have HN3 := Lib.hid (fun (G q : Nat) (hc : Array Value) (W : World) (h : GetS w q G S hc t2 W) => numY q S t2 1099511627776 W hs h.rd)
  have hb3 := stepNum_le 1099511627776 (by decide) t2
  obtain ⟨⟨a3, t3⟩, hq3⟩ : ∃ z, stepNum 1099511627776 t2 = z := ⟨_, rfl⟩
  rw [hq3] at HN3 hread hb3
  simp only at hread hb3
  have HN4 := Lib.hid (fun (G q : Nat) (hc : Array Value) (W : World) (h : GetS w q G S hc t3 W) => rowY q S t3 (n : Int) W hs (by omega) (by omega) h.rd)
  obtain ⟨⟨p4, t4⟩, hq4⟩ : ∃ z, stepRow (n : Int) t3 = z := ⟨_, rfl⟩
  rw [hq4] at HN4 hread
  simp only at hread
  have HN5 := Lib.hid (fun (G q : Nat) (hc : Array Value) (W : World) (h : GetS w q G S hc t4 W) => rowY q S t4 (n : Int) W hs (by omega) (by omega) h.rd)
  obtain ⟨⟨p5, t5⟩, hq5⟩ : ∃ z, stepRow (n : Int) t4 = z := ⟨_, rfl⟩
  rw [hq5] at HN5 hread
  simp only at hread
  obtain ⟨r, er⟩ := t5
  dsimp only at HN0 HN1 HN2 HN3 HN4 HN5
  have hO := of25 S (w.alloc (.cells (hcells zeroH) 23))
  rw [World.size_alloc] at hO
  have HO := Lib.hid hO
  have hw0 : IntKind.i64.wrap (a0 : Int) = a0 := IntWalk.i64_in _ (by omega)
  have hw1 : IntKind.i64.wrap (a1 : Int) = a1 := IntWalk.i64_in _ (by omega)
  have hw2 : IntKind.i64.wrap (a2 : Int) = a2 := IntWalk.i64_in _ (by omega)
  have hw3 : IntKind.i64.wrap (a3 : Int) = a3 := IntWalk.i64_in _ (by omega)
  obtain ⟨H, hH⟩ : ∃ H : HeadT, (⟨a0, a1, a2, a3, p4, p5⟩ : HeadT) = H := ⟨_, rfl⟩
  have HHC : Hid ((((((((hcells zeroH).setIfInBounds 0 (.int .i64 (a0 : Int))).setIfInBounds 1 (.int .i64 (a1 : Int))).setIfInBounds 2 (.int .i64 (a2 : Int))).setIfInBounds 3 (.int .i64 (a3 : Int))).setIfInBounds 4 (.string p4)).setIfInBounds 5 (.string p5)) = hcells H) := by rw [← hH]; rfl
  rw [hH] at hread
  have HLF := Lib.hid (fun (q G : Nat) (hc : Array Value) (W : World) (h : GetS w q G S hc (r, er) W) => leftY q S (r, er) W hs h.rd)
  have HM := Lib.hid (fun W => rmay14 H n W)
  have HF := Lib.hid (fun he => getH_fault (n := n) hread he)
  have HMO := Lib.hid (fun (he : er = 0) => getH_more (s := S) (n := n) (h := H) (r := r) (by rw [hread, he]))
  have HNO := Lib.hid (fun (he : er = 0) => getH_no (s := S) (n := n) (h := H) (r := r) (by rw [hread, he]))
  have HOK := Lib.hid (fun (he : er = 0) => getH_ok (s := S) (n := n) (h := H) (r := r) (by rw [hread, he]))
  have i6 : (Tryd.prog.info? 23).map (·.size) = some (hcells H).size := infoHd
  have HI6 := Lib.hid i6
  have o6 : (hcells H).all (·.oneCell') = true := by simp [hcells, Value.oneCell']
  have HO6 := Lib.hid o6
  have z6 : (hcells zeroH).size = (hcells H).size := rfl
  have HZ6 := Lib.hid z6
  obtain ⟨RES, hRES⟩ : ∃ R, getH S n = R := ⟨_, rfl⟩
  rw [hRES] at HF HMO HNO HOK ⊢
  clear hRES hz0 hl0 hq0 hq1 hq2 hq3 hq4 hq5 hb0 hb1 hb2 hb3 hO hread hH i6 o6 z6
  obtain ⟨q, hq⟩ : ∃ q, w.heap.size + 1 = q := ⟨_, rfl⟩
  rw [hq] at HO
  have hq1 : w.heap.size < q := by omega
  go_enter Tryd.func18, Tryd.ntmps18
  go_upto_region 9 with (first
    | (go_at_call 32; refine HO.out.mono ?_; rintro e w2 ⟨rfl, hr, hb⟩; have hS0 : GetS w q w2.heap.size S (hcells zeroH) (S, 0) (w2.alloc (.cells (hcells zeroH) 23)) := ⟨(Below.heap_alloc _ _ _ (by have := hr.lt; omega)).trans ((hb.block _ (by omega)).trans (heap_alloc_new w _)), heap_alloc_new w2 _, RdYs.start (hr.below ((Below.refl _ w2).alloc (Nat.le_refl _) _) hr.lt), (((Below.refl _ w).alloc (Nat.le_refl _) _).trans (hb.mono (by omega))).alloc (by have := hr.lt; omega) _, hq1, by have := hr.lt; omega, by have := hr.lt; omega⟩; have HT0 := Lib.hid hS0; clear hr hb hS0)
    | (go_at_call 33; refine (HN0.out _ _ _ _ HT0.out).mono ?_; rintro e w3 ⟨rfl, hr, hg⟩; clear HN0; have HS0 := Lib.hid (HT0.out.step hr hg); have c0 := HS0.out.cell 0 _ rfl; have f0 := HS0.out.free 0; have HT1 := Lib.hid (HS0.out.set 0 (.int .i64 (a0 : Int))); clear hr hg HT0 HS0)
    | (go_at_call 33; refine (HN1.out _ _ _ _ HT1.out).mono ?_; rintro e w4 ⟨rfl, hr, hg⟩; clear HN1; have HS1 := Lib.hid (HT1.out.step hr hg); have c1 := HS1.out.cell 1 _ rfl; have f1 := HS1.out.free 1; have HT2 := Lib.hid (HS1.out.set 1 (.int .i64 (a1 : Int))); clear hr hg HT1 HS1)
    | (go_at_call 33; refine (HN2.out _ _ _ _ HT2.out).mono ?_; rintro e w5 ⟨rfl, hr, hg⟩; clear HN2; have HS2 := Lib.hid (HT2.out.step hr hg); have c2 := HS2.out.cell 2 _ rfl; have f2 := HS2.out.free 2; have HT3 := Lib.hid (HS2.out.set 2 (.int .i64 (a2 : Int))); clear hr hg HT2 HS2)
    | (go_at_call 33; refine (HN3.out _ _ _ _ HT3.out).mono ?_; rintro e w6 ⟨rfl, hr, hg⟩; clear HN3; have HS3 := Lib.hid (HT3.out.step hr hg); have c3 := HS3.out.cell 3 _ rfl; have f3 := HS3.out.free 3; have HT4 := Lib.hid (HS3.out.set 3 (.int .i64 (a3 : Int))); clear hr hg HT3 HS3)
    | (go_at_call 34; refine (HN4.out _ _ _ _ HT4.out).mono ?_; rintro e w7 ⟨rfl, hr, hg⟩; clear HN4; have HS4 := Lib.hid (HT4.out.step hr hg); have c4 := HS4.out.cell 4 _ rfl; have f4 := HS4.out.free 4; have HT5 := Lib.hid (HS4.out.set 4 (.string p4)); clear hr hg HT4 HS4)
    | (go_at_call 34; refine (HN5.out _ _ _ _ HT5.out).mono ?_; rintro e w8 ⟨rfl, hr, hg⟩; clear HN5; have HS5 := Lib.hid (HT5.out.step hr hg); have c5 := HS5.out.cell 5 _ rfl; have f5 := HS5.out.free 5; have HT6 := Lib.hid (HS5.out.set 5 (.string p5)); have h6 := HT6.out; rw [HHC.out] at h6; have HH6 := Lib.hid h6; have e2 := HH6.out.rd.c2; clear h6 HT6; clear hr hg HT5 HS5))
  have HG := Lib.hid (HH6.out)
  obtain ⟨G, hG⟩ : ∃ G, w2.heap.size = G := ⟨_, rfl⟩
  rw [hG] at HH6 e2 ⊢
  obtain ⟨W9, hW9⟩ : ∃ W, w8.setCell ⟨G, 5, none⟩ (.string p5) = W := ⟨_, rfl⟩
  rw [hW9] at HH6 e2 ⊢
  clear HG hG hW9 c0 c1 c2 c3 c4 c5 f0 f1 f2 f3 f4 f5 HO HHC
  have i60 : (Tryd.prog.info? 23).map (·.size) = some (hcells zeroH).size := infoHd
  have o60 : (hcells zeroH).all (·.oneCell') = true := by simp [hcells, zeroH, Value.oneCell']
  by_cases he : er = 0
  · subst he
    by_cases hr0 : 0 < r.size
    · have hRR := HMO.out rfl hr0
      subst hRR
      clear HF HMO HNO HOK HM
      go_wp2_with (first
        | (go_at_call 35; refine (HLF.out _ _ _ _ HH6.out).mono ?_; rintro e w9 ⟨rfl, m9, rfl⟩; have HH9 := Lib.hid (HH6.out.drews m9); clear HH6)
        | ((with_reducible refine atStore (ty := 23) (x := .tmp 4) (y := .tmp 53) rfl ?_); refine wpList_store_row rfl 23 (.tmp 4) (.tmp 53) rfl w.heap.size (hcells zeroH) rfl rfl 23 _ HH9.out.res i60 rfl o60 ?_))
      refine ret_cell_tmp rfl rfl rfl rfl (setRow_heap _ _ _ _ _ _ HH9.out.res) Tryd.underlying23 rfl i60 ?_
      exact ⟨rfl, below_row1 HH9.out.lo (Nat.le_refl _)⟩
    · have hr1 : r.size = 0 := by omega
      have hno := HNO.out rfl hr0
      have hok := HOK.out rfl hr0
      obtain ⟨mb, hmb⟩ : ∃ z, mayH H n = z := ⟨_, rfl⟩
      rw [hmb] at HM hno hok
      unfold hv at HM
      have HM2 : Hid (∀ W, Calls Tryd.prog 14 #[.agg (hcells H), .int .i64 (n : Int)] W fun e w' => e = .returned (.bool mb) ∧ Below W.heap.size W w') := HM
      clear HF HMO HNO HOK hr0 HM hmb
      cases mb with
      | false =>
        have hRR := hno rfl
        subst hRR
        clear hno hok
        generalize hcells H = hc at *
        go_wp2_with (first
          | (go_at_call 35; refine (HLF.out _ _ _ _ HH6.out).mono ?_; rintro e w9 ⟨rfl, m9, rfl⟩; have HH9 := Lib.hid (HH6.out.drews m9); clear HH6)
          | ((with_reducible refine atLoad (ty := 23) (x := .tmp 7) rfl ?_); refine wpList_load_rowG (by rfl) 23 (.tmp 7) rfl G rfl 23 hc (0, 0) _ HH9.out.hd Tryd.underlying23 rfl HI6.out ?_)
          | (go_at_call 14; refine (HM2.out _).mono ?_; rintro e w10 ⟨rfl, hb10⟩; have HH10 := Lib.hid (HH9.out.below hb10); clear hb10)
          | ((with_reducible refine atStore (ty := 23) (x := .tmp 4) (y := .tmp 53) rfl ?_); refine wpList_store_row rfl 23 (.tmp 4) (.tmp 53) rfl w.heap.size (hcells zeroH) rfl rfl 23 _ HH10.out.res i60 rfl o60 ?_))
        refine ret_cell_tmp rfl rfl rfl rfl (setRow_heap _ _ _ _ _ _ HH10.out.res) Tryd.underlying23 rfl i60 ?_
        exact ⟨rfl, below_row1 HH10.out.lo (Nat.le_refl _)⟩
      | true =>
        have hRR := hok rfl
        subst hRR
        clear hno hok
        have HHV := Lib.hid (show hv H = .agg (hcells H) from rfl)
        generalize hcells H = hc at *
        go_wp2_with (first
          | (go_at_call 35; refine (HLF.out _ _ _ _ HH6.out).mono ?_; rintro e w9 ⟨rfl, m9, rfl⟩; have HH9 := Lib.hid (HH6.out.drews m9); clear HH6)
          | ((with_reducible refine atLoad (ty := 23) (x := .tmp 7) rfl ?_); refine wpList_load_rowG (by rfl) 23 (.tmp 7) rfl G rfl 23 hc (0, 0) _ HH9.out.hd Tryd.underlying23 rfl HI6.out ?_)
          | (go_at_call 14; refine (HM2.out _).mono ?_; rintro e w10 ⟨rfl, hb10⟩; have HH10 := Lib.hid (HH9.out.below hb10); clear hb10)
          | ((with_reducible refine atLoad (ty := 23) (x := .tmp 7) rfl ?_); refine wpList_load_rowG (by rfl) 23 (.tmp 7) rfl G rfl 23 hc (0, 0) _ HH10.out.hd Tryd.underlying23 rfl HI6.out ?_)
          | ((with_reducible refine atStore (ty := 23) (x := .tmp 4) (y := .tmp 54) rfl ?_); refine wpList_store_row rfl 23 (.tmp 4) (.tmp 54) rfl w.heap.size hc rfl rfl 23 _ HH10.out.res HI6.out HZ6.out HO6.out ?_))
        refine ret_cell_tmp rfl rfl rfl rfl (setRow_heap _ _ _ _ _ _ HH10.out.res) Tryd.underlying23 rfl HI6.out ?_
        exact ⟨by rw [HHV.out]; rfl, below_row1 HH10.out.lo (Nat.le_refl _)⟩
  · have hRR := HF.out he
    subst hRR
    have hb : (er != 0) = true := by simpa using he
    clear HF HMO HNO HOK HM he
    go_wp2
    refine wp_region_held_drew (S := fun W => GetS w q G S (hcells H) (r, er) W) (by kernel_rfl) (HH6.out.drew1) (fun hS => ?_)
    refine wpAnyH_take (i := 0) (v := .agg #[.int .i64 0, .int .i64 0, .int .i64 0, .int .i64 0, .string ⟨#[]⟩, .string ⟨#[]⟩]) rfl (by kernel_rfl) (by kernel_rfl) (by kernel_rfl) (fun _ _ _ h => h) (Or.inl ⟨by simp [Region.wanted], fun W _ => by go_simp⟩) hS ?_
    simp only [List.getElem_toArray, List.getElem_cons_zero, Act.put, List.setIfInBounds_toArray, List.set_cons_zero, List.set_cons_succ]
    refine wpAnyH_take (i := 1) (v := .pointer (some ⟨q, 0, none⟩)) rfl (by kernel_rfl) (by kernel_rfl) (by kernel_rfl) (fun _ _ _ h => h) (Or.inl ⟨by simp [Region.wanted], fun W _ => by go_simp⟩) hS ?_
    simp only [List.getElem_toArray, List.getElem_cons_zero, List.getElem_cons_succ, Act.put, List.setIfInBounds_toArray, List.set_cons_zero, List.set_cons_succ]
    refine wpAnyH_take (i := 2) (v := .pointer (some ⟨q, 0, none⟩)) rfl (by kernel_rfl) (by kernel_rfl) (by kernel_rfl) (fun _ _ _ h => h) (Or.inl ⟨by simp [Region.wanted], fun W _ => by go_simp⟩) hS ?_
    simp only [List.getElem_toArray, List.getElem_cons_zero, List.getElem_cons_succ, Act.put, List.setIfInBounds_toArray, List.set_cons_zero, List.set_cons_succ]
    refine wpAnyH_take (i := 3) (v := .pointer (some ⟨q, 2, none⟩)) rfl (by kernel_rfl) (by kernel_rfl) (by kernel_rfl) (fun _ _ _ h => h) (Or.inl ⟨by simp [Region.wanted], fun W _ => by go_simp⟩) hS ?_
    simp only [List.getElem_toArray, List.getElem_cons_zero, List.getElem_cons_succ, Act.put, List.setIfInBounds_toArray, List.set_cons_zero, List.set_cons_succ]
    refine wpAnyH_take (i := 4) (v := .int .i64 er) rfl (by kernel_rfl) (by kernel_rfl) (by kernel_rfl) (fun _ _ _ h => h) (Or.inl ⟨by simp [Region.wanted], fun W hW => by have h1 := hW.rd.c2; go_simp⟩) hS ?_
    simp only [List.getElem_toArray, List.getElem_cons_zero, List.getElem_cons_succ, Act.put, List.setIfInBounds_toArray, List.set_cons_zero, List.set_cons_succ]
    refine wpAnyH_ready (rs := [5]) (by kernel_rfl) (by simp) ?_
    refine AllReadyH.cons rfl (fun K1 hK1 => ?_) AllReadyH.nil
    refine wanted_go rfl ?_
    simp only [List.getElem_toArray, List.getElem_cons_zero, List.getElem_cons_succ]
    refine wp_store_row 23 (.tmp 4) (.tmp 39) rfl w.heap.size (hcells zeroH) rfl rfl 23 _ hS.res i60 rfl o60 ?_
    refine hK1.out _ _ (hS.putZ) (fun hS1 => ?_)
    refine wpAnyH_take (i := 6) (v := .int .i64 er) rfl (by kernel_rfl) (by kernel_rfl) (by kernel_rfl) (fun _ _ _ h => h) (Or.inl ⟨by simp [Region.wanted], fun W _ => by go_simp⟩) hS1 ?_
    simp only [List.getElem_toArray, List.getElem_cons_zero, List.getElem_cons_succ, Act.put, List.setIfInBounds_toArray, List.set_cons_zero, List.set_cons_succ]
    refine wpAnyH_done (by kernel_rfl) ?_ _
    go_wp2
    refine ret_cell_tmp rfl rfl rfl rfl hS1.res Tryd.underlying23 rfl i60 ?_
    exact ⟨rfl, hS1.lo⟩
end Go.Proofs.YtipaicfmodgcoaaDoor

namespace Go.Proofs.YtipaicfmodgcoaaDoor
open Go.RowKit Base Base2

/-- What the program's Chain answers. -/
def chainP (n : Int) (l : List HeadT) : ByteArray × Int := if 1 ≤ n ∧ n ≤ 32 then (match chainH n.toNat l with | Option.some s => (s, 0) | none => (⟨#[]⟩, 10)) else (⟨#[]⟩, 1)
/-- Are a header's texts short? -/
def shortH (h : HeadT) : Prop := h.pv.size ≤ 100 ∧ h.rt.size ≤ 100

set_option maxRecDepth 100000 in
set_option maxHeartbeats 8000000 in
theorem chains5 (a : Option Addr) (l : List HeadT) (cap : Nat) (n : Int) (w : World) (hr : HeadsAt w a l) (hin : ∀ h ∈ l, h.In) (hm : l.length ≤ maxLen) (hcap : l.length ≤ cap) (hK : KHeld w)
    (HAL : ∀ W, KHeld W → Calls Tryd.prog 6 #[] W fun e w' => e = .returned (.bool true) ∧ Below W.heap.size W w')
    (HCH : ∀ W, KHeld W → HeadsAt W a l → l.length ≤ 40 → (∀ h ∈ l, h.In ∧ shortH h) → l.length ≤ cap → Calls Tryd.prog 19 #[.slice a l.length cap, .int .i64 n] W fun e w' => e = .returned (.tuple #[.string (chainP n l).1, .int .i64 (chainP n l).2]) ∧ Below W.heap.size W w') :
    Calls Tryd.prog 5 #[.slice a l.length cap, .int .i64 n] w fun e w' => e = .returned (.bool true) ∧ Below w.heap.size w w' := by
  unfold maxLen at hm
  have HA := Lib.hid (HAL w hK)
  by_cases h40 : (40 : Int) < (l.length : Int)
  · clear hr
    go_enter Tryd.func5, Tryd.ntmps5
    go_wp2_with (go_at_call 6; refine HA.out.mono ?_; rintro e w1 ⟨rfl, hb⟩; have HB := Lib.hid hb; clear hb)
    go_ret
    exact ⟨rfl, HB.out⟩
  have HKW := Lib.hid (fun (W : World) (hb : Below w.heap.size w W) => KHeld_of hK hb)
  have HCH' := Lib.hid HCH
  have HIN := Lib.hid hin
  clear HAL HCH hK hin
  go_enter Tryd.func5, Tryd.ntmps5
  go_wp2_with (go_at_call 6; refine HA.out.mono ?_; rintro e w1 ⟨rfl, hb⟩; have HB := Lib.hid hb; clear hb)
  go_loopw [5] (fun vi W => ∃ i : Nat, i ≤ l.length ∧ vi = .int .i64 (i : Int) ∧ Below w.heap.size w W ∧ ∀ h ∈ l.take i, shortH h) (fun vi _ => l.length - (intOf vi).toNat)
  case atStart => exact ⟨0, by omega, rfl, HB.out, fun h hh => by simp at hh⟩
  case round =>
    clear HA HB
    obtain ⟨i, hi, rfl, hb, hsh⟩ := hrel
    by_cases hlt : i < l.length
    · obtain ⟨b, off, rfl, hbw, hcells⟩ := hr.some (by omega)
      obtain ⟨h, hh⟩ : ∃ h, l[i]? = Option.some h := ⟨l[i], by simp [hlt]⟩
      have h6 := rangeAt_below (hcells i h hh) hb hbw
      have hcell : wr.cell? ⟨b, off + i * 6, none⟩ = Option.some (.int .i64 h.ix) ∧ wr.cell? ⟨b, off + i * 6 + 1, none⟩ = Option.some (.int .i64 h.fi) ∧ wr.cell? ⟨b, off + i * 6 + 2, none⟩ = Option.some (.int .i64 h.co) ∧ wr.cell? ⟨b, off + i * 6 + 3, none⟩ = Option.some (.int .i64 h.by') ∧ wr.cell? ⟨b, off + i * 6 + 4, none⟩ = Option.some (.string h.pv) ∧ wr.cell? ⟨b, off + i * 6 + 5, none⟩ = Option.some (.string h.rt) :=
        ⟨h6 0 _ rfl, h6 1 _ rfl, h6 2 _ rfl, h6 3 _ rfl, h6 4 _ rfl, h6 5 _ rfl⟩
      have HG := Lib.hid (great7H h wr)
      have HBL := Lib.hid hb
      have HSH : Hid (shortH h → ∀ g ∈ l.take (i + 1), shortH g) := fun hs g hg => by
        rw [List.take_add_one, hh] at hg
        rcases List.mem_append.1 hg with h1 | h1
        · exact hsh g h1
        · simp at h1; subst h1; exact hs
      have hsd : shortH h ↔ h.pv.size ≤ 100 ∧ h.rt.size ≤ 100 := Iff.rfl
      obtain ⟨ix, hf, co, by', hp, rt⟩ := h
      dsimp only at hcell hsd
      obtain ⟨c0, c1, c2, c3, c4, c5⟩ := hcell
      obtain ⟨gb, hgb⟩ : ∃ z, (decide (100 < hp.size) || decide (100 < rt.size)) = z := ⟨_, rfl⟩
      have HG2 : Hid (Calls Tryd.prog 7 #[.agg #[.int .i64 ix, .int .i64 hf, .int .i64 co, .int .i64 by', .string hp, .string rt]] wr fun e w' => e = .returned (.bool gb) ∧ Below wr.heap.size wr w') := by rw [← hgb]; exact HG
      clear hb h6 hcells hh hsh hr HG HCH' HIN HKW
      cases gb with
      | true =>
        clear hgb hsd HSH
        go_wp2_with (go_at_call 7; refine HG2.out.mono ?_; rintro e w2 ⟨rfl, hb2⟩; have HB2 := Lib.hid (HBL.out.trans (hb2.mono HBL.out.size)); clear hb2)
        go_ret
        exact ⟨rfl, HB2.out⟩
      | false =>
        have hs2 : hp.size ≤ 100 ∧ rt.size ≤ 100 := by
          simp at hgb; omega
        have HSS := Lib.hid (HSH.out (hsd.2 hs2))
        clear hgb hsd HSH hs2
        go_wp2_with (go_at_call 7; refine HG2.out.mono ?_; rintro e w2 ⟨rfl, hb2⟩; have HB2 := Lib.hid (HBL.out.trans (hb2.mono HBL.out.size)); clear hb2)
        go_roundw
        case rel => exact ⟨i + 1, by omega, by go_num, HB2.out, HSS.out⟩
        case measure => simp [intOf]; omega
    · have hie : i = l.length := by omega
      subst hie
      rw [List.take_length] at hsh
      have HBL := Lib.hid hb
      have HC := Lib.hid (fun (W : World) (hbW : Below w.heap.size w W) => HCH'.out W (HKW.out W hbW) (hr.below hbW) (by omega) (fun h hh => ⟨HIN.out h hh, hsh h hh⟩) hcap)
      by_cases hn1 : n < 1
      · have hcp : chainP n l = (⟨#[]⟩, 1) := if_neg (by omega)
        rw [hcp] at HC
        clear hb hsh hr hcp HCH' HIN HKW
        go_wp2_with (go_at_call 19; refine (HC.out _ HBL.out).mono ?_; rintro e w2 ⟨rfl, hb2⟩; have HB2 := Lib.hid (HBL.out.trans (hb2.mono HBL.out.size)); clear hb2)
        go_ret
        exact ⟨rfl, HB2.out⟩
      · by_cases hn2 : 32 < n
        · have hcp : chainP n l = (⟨#[]⟩, 1) := if_neg (by omega)
          rw [hcp] at HC
          clear hb hsh hr hcp HCH' HIN HKW
          go_wp2_with (go_at_call 19; refine (HC.out _ HBL.out).mono ?_; rintro e w2 ⟨rfl, hb2⟩; have HB2 := Lib.hid (HBL.out.trans (hb2.mono HBL.out.size)); clear hb2)
          go_ret
          exact ⟨rfl, HB2.out⟩
        · obtain ⟨k, rfl⟩ := Int.eq_ofNat_of_zero_le (show 0 ≤ n by omega)
          have hcp : chainP (k : Int) l = (match chainH k l with | Option.some s => (s, 0) | none => (⟨#[]⟩, 10)) := by unfold chainP; rw [if_pos (by omega), Int.toNat_natCast]
          have HMK := Lib.hid (fun W => makeKey11 W)
          have HRC := Lib.hid (fun (W : World) (hbW : Below w.heap.size w W) => rchain20 l a cap k W (by omega) (hr.below hbW) (by omega) (fun h hh => ⟨by have := (hsh h hh).1; omega, by have := (hsh h hh).2; omega⟩))
          rw [hcp] at HC
          have hk1 : ¬ (k : Int) < 1 := hn1
          have hk2 : ¬ (32 : Int) < (k : Int) := hn2
          generalize keyCells = kc at *
          cases hch : chainH k l with
          | none =>
            rw [hch] at HC HRC
            have HC2 : Hid (∀ (W : World), Below w.heap.size w W → Calls Tryd.prog 19 #[.slice a l.length cap, .int .i64 (k : Int)] W fun e w' => e = .returned (.tuple #[.string ⟨#[]⟩, .int .i64 10]) ∧ Below W.heap.size W w') := HC
            have HR2 : Hid (∀ (W : World), Below w.heap.size w W → Calls Tryd.prog 20 #[.agg kc, .slice a l.length cap, .int .i64 (k : Int)] W fun e w' => e = .returned (.tuple #[.string ⟨#[]⟩, .bool false]) ∧ Below W.heap.size W w') := HRC
            clear hb hsh hr hcp HCH' HIN HKW hch HC HRC
            go_wp2_with (first
              | (go_at_call 19; refine (HC2.out _ HBL.out).mono ?_; rintro e w2 ⟨rfl, hb2⟩; have HB2 := Lib.hid (HBL.out.trans (hb2.mono HBL.out.size)); clear hb2)
              | (go_at_call 13; refine (HMK.out _).mono ?_; rintro e w3 ⟨rfl, hb3⟩; have HB3 := Lib.hid (HB2.out.trans (hb3.mono HB2.out.size)); clear hb3)
              | (go_at_call 20; refine (HR2.out _ HB3.out).mono ?_; rintro e w4 ⟨rfl, hb4⟩; have HB4 := Lib.hid (HB3.out.trans (hb4.mono HB3.out.size)); clear hb4))
            go_ret
            exact ⟨rfl, HB4.out⟩
          | some s =>
            rw [hch] at HC HRC
            have HC2 : Hid (∀ (W : World), Below w.heap.size w W → Calls Tryd.prog 19 #[.slice a l.length cap, .int .i64 (k : Int)] W fun e w' => e = .returned (.tuple #[.string s, .int .i64 0]) ∧ Below W.heap.size W w') := HC
            have HR2 : Hid (∀ (W : World), Below w.heap.size w W → Calls Tryd.prog 20 #[.agg kc, .slice a l.length cap, .int .i64 (k : Int)] W fun e w' => e = .returned (.tuple #[.string s, .bool true]) ∧ Below W.heap.size W w') := HRC
            clear hb hsh hr hcp HCH' HIN HKW hch HC HRC
            go_wp2_with (first
              | (go_at_call 19; refine (HC2.out _ HBL.out).mono ?_; rintro e w2 ⟨rfl, hb2⟩; have HB2 := Lib.hid (HBL.out.trans (hb2.mono HBL.out.size)); clear hb2)
              | (go_at_call 13; refine (HMK.out _).mono ?_; rintro e w3 ⟨rfl, hb3⟩; have HB3 := Lib.hid (HB2.out.trans (hb3.mono HB2.out.size)); clear hb3)
              | (go_at_call 20; refine (HR2.out _ HB3.out).mono ?_; rintro e w4 ⟨rfl, hb4⟩; have HB4 := Lib.hid (HB3.out.trans (hb4.mono HB3.out.size)); clear hb4))
            go_ret
            exact ⟨rfl, HB4.out⟩
end Go.Proofs.YtipaicfmodgcoaaDoor

namespace Go.Proofs.YtipaicfmodgcoaaDoor
open Go.RowKit Base Base2

theorem eqH (h : HeadT) (W : World) : (binOp .eql 23 (.agg (hcells h)) (.agg (hcells h))).run Tryd.prog W = .ok (.bool true) W := by
  simp only [hcells]
  go_simp
theorem headOne (h : HeadT) : (hcells h).all (·.oneCell') = true := by simp [hcells, Value.oneCell']
theorem headSize (h : HeadT) : (Tryd.prog.info? 23).map (·.size) = some (hcells h).size := infoHd
/-- What the program's Get, May answer for any length of a digest. -/
def getP (S : ByteArray) (n : Int) : HeadT × Int := if 1 ≤ n ∧ n ≤ 32 then getH S n.toNat else (zeroH, 1)
def mayP (h : HeadT) (n : Int) : Bool := decide (1 ≤ n) && decide (n ≤ 32) && mayH h n.toNat
theorem getP_no {S : ByteArray} {n : Int} (h : ¬ (1 ≤ n ∧ n ≤ 32)) : getP S n = (zeroH, 1) := if_neg h
theorem getP_in (S : ByteArray) (k : Nat) (h1 : 1 ≤ k) (h2 : k ≤ 32) : getP S (k : Int) = getH S k := by unfold getP; rw [if_pos (by omega), Int.toNat_natCast]
theorem mayP_no {h : HeadT} {n : Int} (hn : ¬ (1 ≤ n ∧ n ≤ 32)) : mayP h n = false := by
  unfold mayP
  by_cases h1 : 1 ≤ n
  · rw [decide_eq_true h1, decide_eq_false (show ¬ n ≤ 32 by omega)]; rfl
  · rw [decide_eq_false h1]; rfl
theorem mayP_in (h : HeadT) (k : Nat) (h1 : 1 ≤ k) (h2 : k ≤ 32) : mayP h (k : Int) = mayH h k := by
  unfold mayP; rw [decide_eq_true (show (1 : Int) ≤ (k : Int) by omega), decide_eq_true (show (k : Int) ≤ 32 by omega), Int.toNat_natCast]; rfl
theorem mayH_in {h : HeadT} {k : Nat} (hm : mayH h k = true) (h2 : k ≤ 32) : h.In ∧ h.pv.size ≤ 32 ∧ h.rt.size ≤ 32 := by
  obtain ⟨⟨a1, a2⟩, ⟨b1, b2⟩, ⟨c1, c2⟩, ⟨d1, d2⟩, hp, hr⟩ := (mayH_iff h k).1 hm
  refine ⟨⟨⟨by omega, by omega⟩, ⟨by omega, by omega⟩, ⟨by omega, by omega⟩, ⟨by omega, by omega⟩⟩, by omega, by omega⟩

set_option maxRecDepth 100000 in
set_option maxHeartbeats 8000000 in
theorem gets4H (S : ByteArray) (n : Int) (w : World)
    (HAL : Calls Tryd.prog 6 #[] w fun e w' => e = .returned (.bool true) ∧ Below w.heap.size w w')
    (HGT : ∀ W, S.size ≤ 500 → Calls Tryd.prog 9 #[.string S, .int .i64 n] W fun e w' => e = .returned (.tuple #[hv (getP S n).1, .int .i64 (getP S n).2]) ∧ Below W.heap.size W w')
    (HPT : ∀ (h : HeadT) W, h.In → h.pv.size ≤ 100 → h.rt.size ≤ 100 → Calls Tryd.prog 8 #[hv h] W fun e w' => e = .returned (.string (putH h)) ∧ Below W.heap.size W w')
    (HMY : ∀ (h : HeadT) W, h.In → Calls Tryd.prog 10 #[hv h, .int .i64 n] W fun e w' => e = .returned (.bool (mayP h n)) ∧ Below W.heap.size W w') :
    Calls Tryd.prog 4 #[.string S, .int .i64 n] w fun e w' => e = .returned (.bool true) ∧ Below w.heap.size w w' := by
  have HA := Lib.hid HAL
  clear HAL
  by_cases h5 : (500 : Int) < (S.size : Int)
  · clear HGT HPT HMY
    go_enter Tryd.func4, Tryd.ntmps4
    go_wp2_with (go_at_call 6; refine HA.out.mono ?_; rintro e w1 ⟨rfl, hb⟩; have HB := Lib.hid hb; clear hb)
    go_ret
    exact ⟨rfl, HB.out⟩
  have hG := fun W => HGT W (by omega)
  have hz0 : (hcells zeroH).size = 6 := rfl
  by_cases hn : ¬ (1 ≤ n ∧ n ≤ 32)
  · rw [getP_no hn] at hG
    have HG : Hid (∀ W, Calls Tryd.prog 9 #[.string S, .int .i64 n] W fun e w' => e = .returned (.tuple #[.agg (hcells zeroH), .int .i64 1]) ∧ Below W.heap.size W w') := hG
    have HO6 := Lib.hid (headOne zeroH)
    have HI6 := Lib.hid (headSize zeroH)
    have HE := Lib.hid (eqH zeroH)
    clear hG HGT HPT HMY
    have key : ∀ (b : Bool) (_ : decide (n < 1) = b) (_ : b = false → (32 : Int) < n), Calls Tryd.prog 4 #[.string S, .int .i64 n] w fun e w' => e = .returned (.bool true) ∧ Below w.heap.size w w' := by
      intro b hb1 hb2
      have eqz : ∀ W, (binOp .eql 23 (.agg (hcells zeroH)) (.agg #[.int .i64 0, .int .i64 0, .int .i64 0, .int .i64 0, .string ⟨#[]⟩, .string ⟨#[]⟩])).run Tryd.prog W = .ok (.bool true) W := HE.out
      obtain ⟨Z, hZ⟩ : ∃ Z, hcells zeroH = Z := ⟨_, rfl⟩
      rw [hZ] at HG HO6 HI6 eqz
      have HZS : Hid (Z.size = 6) := by rw [← hZ]; exact hz0
      have HZZ : Hid ((#[.int .i64 0, .int .i64 0, .int .i64 0, .int .i64 0, .string ⟨#[]⟩, .string ⟨#[]⟩] : Array Value).size = Z.size) := by rw [← hZ]; rfl
      clear hZ HE hz0
      cases b with
      | true =>
        have h1 : n < 1 := of_decide_eq_true hb1
        clear hb1 hb2 hn
        go_enter Tryd.func4, Tryd.ntmps4
        go_wp2_with (first
          | (go_at_call 6; refine HA.out.mono ?_; rintro e w1 ⟨rfl, hb⟩; have HB := Lib.hid hb; clear hb)
          | (go_at_call 9; refine (HG.out _).mono ?_; rintro e w2 ⟨rfl, hb2⟩; have HB2 := Lib.hid (HB.out.trans (hb2.mono HB.out.size)); clear hb2)
          | ((with_reducible refine atStore (ty := 23) (x := .tmp 5) (y := .tmp 18) rfl ?_); refine wpList_store_row rfl 23 (.tmp 5) (.tmp 18) rfl w2.heap.size Z rfl rfl 23 _ (heap_alloc_new w2 _) HI6.out HZZ.out HO6.out ?_)
          | ((with_reducible refine atLoad (ty := 23) (x := .tmp 5) rfl ?_); refine wpList_load_rowG (by rfl) 23 (.tmp 5) rfl w2.heap.size rfl 23 Z (0, 0) _ (setRow_heap _ _ _ _ _ _ (heap_alloc_new w2 _)) Tryd.underlying23 rfl HI6.out ?_))
        go_ret
        exact ⟨rfl, below_row1 (HB2.out.alloc HB2.out.size _) HB2.out.size⟩
      | false =>
        have h1 : ¬ n < 1 := of_decide_eq_false hb1
        have h2 := hb2 rfl
        clear hb1 hb2 hn
        go_enter Tryd.func4, Tryd.ntmps4
        go_wp2_with (first
          | (go_at_call 6; refine HA.out.mono ?_; rintro e w1 ⟨rfl, hb⟩; have HB := Lib.hid hb; clear hb)
          | (go_at_call 9; refine (HG.out _).mono ?_; rintro e w2 ⟨rfl, hb2⟩; have HB2 := Lib.hid (HB.out.trans (hb2.mono HB.out.size)); clear hb2)
          | ((with_reducible refine atStore (ty := 23) (x := .tmp 5) (y := .tmp 18) rfl ?_); refine wpList_store_row rfl 23 (.tmp 5) (.tmp 18) rfl w2.heap.size Z rfl rfl 23 _ (heap_alloc_new w2 _) HI6.out HZZ.out HO6.out ?_)
          | ((with_reducible refine atLoad (ty := 23) (x := .tmp 5) rfl ?_); refine wpList_load_rowG (by rfl) 23 (.tmp 5) rfl w2.heap.size rfl 23 Z (0, 0) _ (setRow_heap _ _ _ _ _ _ (heap_alloc_new w2 _)) Tryd.underlying23 rfl HI6.out ?_))
        go_ret
        exact ⟨rfl, below_row1 (HB2.out.alloc HB2.out.size _) HB2.out.size⟩
    exact key _ rfl (fun hf => by have := of_decide_eq_false hf; omega)
  have hn' : 1 ≤ n ∧ n ≤ 32 := by omega
  obtain ⟨k, rfl⟩ := Int.eq_ofNat_of_zero_le (show 0 ≤ n by omega)
  have hRG := fun W => rgetH18 S k W (by omega) (by omega)
  rw [getP_in S k (by omega) (by omega)] at hG
  have hby := getH_bytes S k
  obtain ⟨⟨H, er⟩, hq⟩ : ∃ q, getH S k = q := ⟨_, rfl⟩
  rw [hq] at hG hRG hby
  have HG : Hid (∀ W, Calls Tryd.prog 9 #[.string S, .int .i64 (k : Int)] W fun e w' => e = .returned (.tuple #[.agg (hcells H), .int .i64 er]) ∧ Below W.heap.size W w') := hG
  have HRG : Hid (∀ W, Calls Tryd.prog 18 #[.string S, .int .i64 (k : Int)] W fun e w' => e = .returned (.tuple #[.agg (hcells H), .int .i64 er]) ∧ Below W.heap.size W w') := hRG
  have HO6 := Lib.hid (headOne H)
  have HI6 := Lib.hid (headSize H)
  have heq := eqH H
  have HZZ : Hid ((#[.int .i64 0, .int .i64 0, .int .i64 0, .int .i64 0, .string ⟨#[]⟩, .string ⟨#[]⟩] : Array Value).size = (hcells H).size) := rfl
  have h1 : ¬ (k : Int) < 1 := by omega
  have h2 : ¬ (32 : Int) < (k : Int) := by omega
  have HBX := Lib.hid (fun (V w4 : World) (g : Nat) (hc : Array Value) (h : V.heap[g]? = some (.cells hc 23 (0, 0))) (hb : Below V.heap.size V w4) => show w4.heap[g]? = some (.cells hc 23 (0, 0)) from (hb.block _ (lt_of_blk h)).trans h)
  have HBY := Lib.hid (fun (w4 : World) (g : Nat) (hc ks : Array Value) (o : Obj) (h : w4.heap[g]? = some (.cells hc 23 (0, 0))) => show ((w4.alloc o).setRow w4.heap.size ks).heap[g]? = some (.cells hc 23 (0, 0)) from (setRow_ne _ (by have := lt_of_blk h; omega)).trans ((Below.heap_alloc _ _ _ (lt_of_blk h)).trans h))
  have HBZ := Lib.hid (fun (w2 : World) (hc old : Array Value) => show ((w2.alloc (.cells old 23)).setRow w2.heap.size hc).heap[w2.heap.size]? = some (.cells hc 23 (0, 0)) from setRow_heap _ _ _ _ _ _ (heap_alloc_new w2 _))
  by_cases he : er = 0
  · subst he
    obtain ⟨hp, hm⟩ := hby rfl
    obtain ⟨hi, hs1, hs2⟩ := mayH_in hm (by omega)
    dsimp only at hi hs1 hs2
    have hP := fun W => HPT H W hi (by omega) (by omega)
    rw [hp] at hP
    have hM := fun W => HMY H W hi
    rw [mayP_in H k (by omega) (by omega), hm] at hM
    have HP : Hid (∀ W, Calls Tryd.prog 8 #[.agg (hcells H)] W fun e w' => e = .returned (.string S) ∧ Below W.heap.size W w') := hP
    have HM : Hid (∀ W, Calls Tryd.prog 10 #[.agg (hcells H), .int .i64 (k : Int)] W fun e w' => e = .returned (.bool true) ∧ Below W.heap.size W w') := hM
    clear hG hRG HGT HPT HMY hP hM hp hm hi hs1 hs2 hq hby hn hn' hz0
    generalize hcells H = hc at *
    go_enter Tryd.func4, Tryd.ntmps4
    go_wp2_with (first
      | (go_at_call 6; refine HA.out.mono ?_; rintro e w1 ⟨rfl, hb⟩; have HB := Lib.hid hb; clear hb)
      | (go_at_call 9; refine (HG.out _).mono ?_; rintro e w2 ⟨rfl, hb2⟩; have HB2 := Lib.hid (HB.out.trans (hb2.mono HB.out.size)); clear hb2)
      | ((with_reducible refine atStore (ty := 23) (x := .tmp 5) (y := .tmp 18) rfl ?_); refine wpList_store_row rfl 23 (.tmp 5) (.tmp 18) rfl w2.heap.size hc rfl rfl 23 _ (heap_alloc_new w2 _) HI6.out HZZ.out HO6.out ?_; have HQ2 := Lib.hid (HBZ.out w2 hc #[.int .i64 0, .int .i64 0, .int .i64 0, .int .i64 0, .string ⟨#[]⟩, .string ⟨#[]⟩]))
      | (go_at_call 18; refine (HRG.out _).mono ?_; rintro e w4 ⟨rfl, hb4⟩; have HX4 := Lib.hid (HBX.out _ _ _ _ HQ2.out hb4); have HB4 := Lib.hid ((below_row1 (HB2.out.alloc HB2.out.size (.cells #[.int .i64 0, .int .i64 0, .int .i64 0, .int .i64 0, .string ⟨#[]⟩, .string ⟨#[]⟩] 23)) HB2.out.size).trans (hb4.mono (by have := HB2.out.size; simp; omega))); clear hb4)
      | ((with_reducible refine atStore (ty := 23) (x := .tmp 7) (y := .tmp 37) rfl ?_); refine wpList_store_row rfl 23 (.tmp 7) (.tmp 37) rfl w4.heap.size hc rfl rfl 23 _ (heap_alloc_new w4 _) HI6.out HZZ.out HO6.out ?_; have HY := Lib.hid (HBY.out w4 w2.heap.size hc hc (.cells #[.int .i64 0, .int .i64 0, .int .i64 0, .int .i64 0, .string ⟨#[]⟩, .string ⟨#[]⟩] 23) HX4.out); have HZ7 := Lib.hid (HBZ.out w4 hc #[.int .i64 0, .int .i64 0, .int .i64 0, .int .i64 0, .string ⟨#[]⟩, .string ⟨#[]⟩]))
      | ((with_reducible refine atLoad (ty := 23) (x := .tmp 5) rfl ?_); refine wpList_load_rowG (by rfl) 23 (.tmp 5) rfl w2.heap.size rfl 23 hc (0, 0) _ HY.out Tryd.underlying23 rfl HI6.out ?_)
      | ((with_reducible refine atLoad (ty := 23) (x := .tmp 7) rfl ?_); refine wpList_load_rowG (by rfl) 23 (.tmp 7) rfl w4.heap.size rfl 23 hc (0, 0) _ HZ7.out Tryd.underlying23 rfl HI6.out ?_)
      | (go_at_call 8; refine (HP.out _).mono ?_; rintro e w5 ⟨rfl, hb5⟩; have HY5 := Lib.hid (HBX.out _ _ _ _ HY.out hb5); have HB5 := Lib.hid ((below_row1 (HB4.out.alloc HB4.out.size (.cells #[.int .i64 0, .int .i64 0, .int .i64 0, .int .i64 0, .string ⟨#[]⟩, .string ⟨#[]⟩] 23)) HB4.out.size).trans (hb5.mono (by have := HB4.out.size; simp; omega))); clear hb5)
      | ((with_reducible refine atLoad (ty := 23) (x := .tmp 5) rfl ?_); refine wpList_load_rowG (by rfl) 23 (.tmp 5) rfl w2.heap.size rfl 23 hc (0, 0) _ HY5.out Tryd.underlying23 rfl HI6.out ?_)
      | (go_at_call 10; refine (HM.out _).mono ?_; rintro e w6 ⟨rfl, hb6⟩; have HB6 := Lib.hid (HB5.out.trans (hb6.mono HB5.out.size)); clear hb6))
    go_ret
    exact ⟨rfl, HB6.out⟩
  · have he1 : (er != 0) = true := by simpa using he
    clear hG hRG HGT HPT HMY hq hby hn hn' hz0 he
    generalize hcells H = hc at *
    go_enter Tryd.func4, Tryd.ntmps4
    go_wp2_with (first
      | (go_at_call 6; refine HA.out.mono ?_; rintro e w1 ⟨rfl, hb⟩; have HB := Lib.hid hb; clear hb)
      | (go_at_call 9; refine (HG.out _).mono ?_; rintro e w2 ⟨rfl, hb2⟩; have HB2 := Lib.hid (HB.out.trans (hb2.mono HB.out.size)); clear hb2)
      | ((with_reducible refine atStore (ty := 23) (x := .tmp 5) (y := .tmp 18) rfl ?_); refine wpList_store_row rfl 23 (.tmp 5) (.tmp 18) rfl w2.heap.size hc rfl rfl 23 _ (heap_alloc_new w2 _) HI6.out HZZ.out HO6.out ?_; have HQ2 := Lib.hid (HBZ.out w2 hc #[.int .i64 0, .int .i64 0, .int .i64 0, .int .i64 0, .string ⟨#[]⟩, .string ⟨#[]⟩]))
      | (go_at_call 18; refine (HRG.out _).mono ?_; rintro e w4 ⟨rfl, hb4⟩; have HX4 := Lib.hid (HBX.out _ _ _ _ HQ2.out hb4); have HB4 := Lib.hid ((below_row1 (HB2.out.alloc HB2.out.size (.cells #[.int .i64 0, .int .i64 0, .int .i64 0, .int .i64 0, .string ⟨#[]⟩, .string ⟨#[]⟩] 23)) HB2.out.size).trans (hb4.mono (by have := HB2.out.size; simp; omega))); clear hb4)
      | ((with_reducible refine atStore (ty := 23) (x := .tmp 7) (y := .tmp 37) rfl ?_); refine wpList_store_row rfl 23 (.tmp 7) (.tmp 37) rfl w4.heap.size hc rfl rfl 23 _ (heap_alloc_new w4 _) HI6.out HZZ.out HO6.out ?_; have HY := Lib.hid (HBY.out w4 w2.heap.size hc hc (.cells #[.int .i64 0, .int .i64 0, .int .i64 0, .int .i64 0, .string ⟨#[]⟩, .string ⟨#[]⟩] 23) HX4.out); have HZ7 := Lib.hid (HBZ.out w4 hc #[.int .i64 0, .int .i64 0, .int .i64 0, .int .i64 0, .string ⟨#[]⟩, .string ⟨#[]⟩]))
      | ((with_reducible refine atLoad (ty := 23) (x := .tmp 5) rfl ?_); refine wpList_load_rowG (by rfl) 23 (.tmp 5) rfl w2.heap.size rfl 23 hc (0, 0) _ HY.out Tryd.underlying23 rfl HI6.out ?_; clear HY)
      | ((with_reducible refine atLoad (ty := 23) (x := .tmp 7) rfl ?_); refine wpList_load_rowG (by rfl) 23 (.tmp 7) rfl w4.heap.size rfl 23 hc (0, 0) _ HZ7.out Tryd.underlying23 rfl HI6.out ?_; go_wp2))
    go_ret
    exact ⟨rfl, below_row1 (HB4.out.alloc HB4.out.size _) HB4.out.size⟩
end Go.Proofs.YtipaicfmodgcoaaDoor

namespace Go.Proofs.YtipaicfmodgcoaaDoor
open Go.RowKit Base Base2

/-- Variables that lie each in a box of their own. -/
def BoxesAt (w : World) (L : List (Nat × Array Value × TypeId)) (W : World) : Prop := (∀ x ∈ L, W.heap[x.1]? = some (.cells x.2.1 x.2.2 (0, 0))) ∧ Below w.heap.size w W
theorem BoxesAt.below {w W W' : World} {L : List (Nat × Array Value × TypeId)} (h : BoxesAt w L W) (hb : Below W.heap.size W W') : BoxesAt w L W' :=
  ⟨fun x hx => (hb.block _ (lt_of_blk (h.1 x hx))).trans (h.1 x hx), h.2.trans (hb.mono h.2.size)⟩
theorem BoxesAt.push {w W : World} {L : List (Nat × Array Value × TypeId)} (h : BoxesAt w L W) (T : TypeId) (Z ks : Array Value) : BoxesAt w ((W.heap.size, ks, T) :: L) ((W.alloc (.cells Z T)).setRow W.heap.size ks) := by
  refine ⟨fun x hx => ?_, below_row1 (h.2.alloc h.2.size _) h.2.size⟩
  rcases List.mem_cons.1 hx with rfl | hx
  · exact setRow_heap _ _ _ _ _ _ (heap_alloc_new W _)
  · have hl := lt_of_blk (h.1 x hx)
    exact (setRow_ne _ (by omega)).trans ((Below.heap_alloc _ _ _ hl).trans (h.1 x hx))
theorem BoxesAt.drew {w W : World} {L : List (Nat × Array Value × TypeId)} (h : BoxesAt w L W) : BoxesAt w L W.drew := ⟨h.1, h.2.drew⟩
theorem BoxesAt.box (w : World) (ks : Array Value) (T : TypeId) : BoxesAt w [(w.heap.size, ks, T)] (w.alloc (.cells ks T)) :=
  ⟨fun x hx => by simp at hx; subst hx; exact heap_alloc_new w _, (Below.refl _ w).alloc (Nat.le_refl _) _⟩
theorem yieldsIf_loadH {P : Program} {ops : Array Oper} {S : World → Prop} {op : Oper} {a : Act} (hw : Region.wanted op (yielded ops a.tmps) = true) (ty : TypeId) (x : Operand) (ho : op.op = .load ty x)
    (p v : Value) (hx : a.eval x = p) (hS : ∀ w, S w → (Instr.loadAt ty p).run P w = .ok v w) : YieldsIf P ops S op v a :=
  .inl ⟨hw, fun w hw' => by
    unfold execOp
    simp only [ho, hx, Sem.run_bind, Sem.run_pure, hS w hw', Result.andThen_ok]⟩
/-- What the program's Hash, First answer for any length of a digest. -/
def hashP (n : Int) (h : HeadT) : ByteArray := if 1 ≤ n ∧ n ≤ 32 then hashH n.toNat h else ⟨#[]⟩
def firstP (n : Int) : ByteArray := if 1 ≤ n ∧ n ≤ 32 then cutH n.toNat ⟨#[]⟩ else ⟨#[]⟩

set_option maxRecDepth 100000 in
set_option maxHeartbeats 8000000 in
theorem puts3 (h : HeadT) (n : Int) (w : World) (hK : KHeld w)
    (HAL : ∀ W, KHeld W → Calls Tryd.prog 6 #[] W fun e w' => e = .returned (.bool true) ∧ Below W.heap.size W w')
    (HPT : shortH h → ∀ W, Calls Tryd.prog 8 #[hv h] W fun e w' => e = .returned (.string (putH h)) ∧ Below W.heap.size W w')
    (HGT : shortH h → ∀ W, Calls Tryd.prog 9 #[.string (putH h), .int .i64 n] W fun e w' => e = .returned (.tuple #[hv (getP (putH h) n).1, .int .i64 (getP (putH h) n).2]) ∧ Below W.heap.size W w')
    (HMY : ∀ W, Calls Tryd.prog 10 #[hv h, .int .i64 n] W fun e w' => e = .returned (.bool (mayP h n)) ∧ Below W.heap.size W w')
    (HHS : shortH h → ∀ W, KHeld W → Calls Tryd.prog 11 #[hv h, .int .i64 n] W fun e w' => e = .returned (.string (hashP n h)) ∧ Below W.heap.size W w')
    (HFS : ∀ W, KHeld W → Calls Tryd.prog 12 #[.int .i64 n] W fun e w' => e = .returned (.string (firstP n)) ∧ Below W.heap.size W w') :
    Calls Tryd.prog 3 #[hv h, .int .i64 n] w fun e w' => e = .returned (.bool true) ∧ Below w.heap.size w w' := by
  have HKW := Lib.hid (fun (W : World) (hb : Below w.heap.size w W) => KHeld_of hK hb)
  have HA := Lib.hid (fun (W : World) (hb : Below w.heap.size w W) => HAL W (KHeld_of hK hb))
  have HG7 := Lib.hid (fun W => great7H h W)
  have HO6 := Lib.hid (headOne h)
  have HI6 := Lib.hid (headSize h)
  have HS6 : Hid ((hcells h).size = 6) := rfl
  have B0 := Lib.hid (BoxesAt.box w (hcells h) 23)
  obtain ⟨gb, hgb⟩ : ∃ z, (decide (100 < h.pv.size) || decide (100 < h.rt.size)) = z := ⟨_, rfl⟩
  rw [hgb] at HG7
  have HG2 : Hid (∀ W, Calls Tryd.prog 7 #[.agg (hcells h)] W fun e w' => e = .returned (.bool gb) ∧ Below W.heap.size W w') := HG7
  cases gb with
  | true =>
    clear HAL HPT HGT HMY HHS HFS HG7 hgb hK HS6
    unfold hv
    generalize hcells h = hc at *
    go_enter Tryd.func3, Tryd.ntmps3
    go_wp2_with (first
      | (go_at_call 6; refine (HA.out _ B0.out.2).mono ?_; rintro e w1 ⟨rfl, hb⟩; have B1 := Lib.hid (B0.out.below hb); clear hb)
      | ((with_reducible refine atLoad (ty := 23) (x := .tmp 2) rfl ?_); refine wpList_load_row rfl 23 (.tmp 2) rfl w.heap.size rfl 23 hc (0, 0) _ (B1.out.1 (_, hc, 23) (by simp)) Tryd.underlying23 rfl HI6.out ?_)
      | (go_at_call 7; refine (HG2.out _).mono ?_; rintro e w2 ⟨rfl, hb⟩; have B2 := Lib.hid (B1.out.below hb); clear hb))
    go_ret
    exact ⟨rfl, B2.out.2⟩
  | false =>
    have hsh : shortH h := by
      simp at hgb; exact ⟨by omega, by omega⟩
    have hP := HPT hsh
    have hG := HGT hsh
    have hH := HHS hsh
    have hF := HFS
    clear HAL HPT HGT HHS HFS HG7 hgb
    by_cases hn : ¬ (1 ≤ n ∧ n ≤ 32)
    · rw [getP_no hn] at hG
      rw [mayP_no hn] at HMY
      rw [show hashP n h = ⟨#[]⟩ from if_neg hn] at hH
      rw [show firstP n = ⟨#[]⟩ from if_neg hn] at hF
      have HP : Hid (∀ W, Calls Tryd.prog 8 #[.agg (hcells h)] W fun e w' => e = .returned (.string (putH h)) ∧ Below W.heap.size W w') := hP
      have HGq : Hid (∀ W, Calls Tryd.prog 9 #[.string (putH h), .int .i64 n] W fun e w' => e = .returned (.tuple #[.agg (hcells zeroH), .int .i64 1]) ∧ Below W.heap.size W w') := hG
      have HM : Hid (∀ W, Calls Tryd.prog 10 #[.agg (hcells h), .int .i64 n] W fun e w' => e = .returned (.bool false) ∧ Below W.heap.size W w') := HMY
      have HHq : Hid (∀ W, Below w.heap.size w W → Calls Tryd.prog 11 #[.agg (hcells h), .int .i64 n] W fun e w' => e = .returned (.string ⟨#[]⟩) ∧ Below W.heap.size W w') := fun W hb => hH W (KHeld_of hK hb)
      have HFq : Hid (∀ W, Below w.heap.size w W → Calls Tryd.prog 12 #[.int .i64 n] W fun e w' => e = .returned (.string ⟨#[]⟩) ∧ Below W.heap.size W w') := fun W hb => hF W (KHeld_of hK hb)
      have HOX := Lib.hid (headOne zeroH)
      have HIX := Lib.hid (headSize zeroH)
      have hz0 : (hcells zeroH).size = 6 := rfl
      have HE := Lib.hid (eqH zeroH)
      have key : ∀ (b : Bool) (_ : decide (n < 1) = b) (_ : b = false → (32 : Int) < n), Calls Tryd.prog 3 #[hv h, .int .i64 n] w fun e w' => e = .returned (.bool true) ∧ Below w.heap.size w w' := by
        intro b hb1 hb2
        have eqz : ∀ W, (binOp .eql 23 (.agg (hcells zeroH)) (.agg #[.int .i64 0, .int .i64 0, .int .i64 0, .int .i64 0, .string ⟨#[]⟩, .string ⟨#[]⟩])).run Tryd.prog W = .ok (.bool true) W := HE.out
        obtain ⟨Z, hZ⟩ : ∃ Z, hcells zeroH = Z := ⟨_, rfl⟩
        rw [hZ] at HGq HOX HIX eqz
        have HZX : Hid ((#[.int .i64 0, .int .i64 0, .int .i64 0, .int .i64 0, .string ⟨#[]⟩, .string ⟨#[]⟩] : Array Value).size = Z.size) := by rw [← hZ]; rfl
        clear hZ HE hz0 hP hG HMY hH hF HS6 hsh hK
        unfold hv
        generalize hcells h = hc at *
        generalize putH h = S at *
        cases b with
        | true =>
          have h1 : n < 1 := of_decide_eq_true hb1
          clear hb1 hb2 hn
          go_enter Tryd.func3, Tryd.ntmps3
          go_wp2_with (first
            | (go_at_call 6; refine (HA.out _ B0.out.2).mono ?_; rintro e w1 ⟨rfl, hb⟩; have B1 := Lib.hid (B0.out.below hb); clear hb)
            | ((with_reducible refine atLoad (ty := 23) (x := .tmp 2) rfl ?_); refine wpList_load_row rfl 23 (.tmp 2) rfl w.heap.size rfl 23 hc (0, 0) _ (B1.out.1 (_, hc, 23) (by simp)) Tryd.underlying23 rfl HI6.out ?_)
            | (go_at_call 7; refine (HG2.out _).mono ?_; rintro e w2 ⟨rfl, hb⟩; have B2 := Lib.hid (B1.out.below hb); clear hb B1)
            | ((with_reducible refine atLoad (ty := 23) (x := .tmp 2) rfl ?_); refine wpList_load_row rfl 23 (.tmp 2) rfl w.heap.size rfl 23 hc (0, 0) _ (B2.out.1 (_, hc, 23) (by simp)) Tryd.underlying23 rfl HI6.out ?_)
            | (go_at_call 8; refine (HP.out _).mono ?_; rintro e w3 ⟨rfl, hb⟩; have B3 := Lib.hid (B2.out.below hb); clear hb B2)
            | (go_at_call 9; refine (HGq.out _).mono ?_; rintro e w4 ⟨rfl, hb⟩; have B4 := Lib.hid (B3.out.below hb); clear hb B3)
            | ((with_reducible refine atStore (ty := 23) (x := .tmp 6) (y := .tmp 19) rfl ?_); refine wpList_store_row rfl 23 (.tmp 6) (.tmp 19) rfl w4.heap.size Z rfl rfl 23 _ (heap_alloc_new w4 _) HIX.out HZX.out HOX.out ?_; have B5 := Lib.hid (B4.out.push 23 #[.int .i64 0, .int .i64 0, .int .i64 0, .int .i64 0, .string ⟨#[]⟩, .string ⟨#[]⟩] Z); clear B4)
            | ((with_reducible refine atLoad (ty := 23) (x := .tmp 2) rfl ?_); refine wpList_load_row rfl 23 (.tmp 2) rfl w.heap.size rfl 23 hc (0, 0) _ (B5.out.1 (_, hc, 23) (by simp)) Tryd.underlying23 rfl HI6.out ?_)
            | (go_at_call 10; refine (HM.out _).mono ?_; rintro e w6 ⟨rfl, hb⟩; have B6 := Lib.hid (B5.out.below hb); clear hb B5)
            | ((with_reducible refine atLoad (ty := 23) (x := .tmp 2) rfl ?_); refine wpList_load_rowG (by rfl) 23 (.tmp 2) rfl w.heap.size rfl 23 hc (0, 0) _ (B6.out.1 (_, hc, 23) (by simp)) Tryd.underlying23 rfl HI6.out ?_)
            | (go_at_call 11; refine (HHq.out _ B6.out.2).mono ?_; rintro e w7 ⟨rfl, hb⟩; have B7 := Lib.hid (B6.out.below hb); clear hb B6)
            | (go_at_call 12; refine (HFq.out _ B7.out.2).mono ?_; rintro e w8 ⟨rfl, hb⟩; have B8 := Lib.hid (B7.out.below hb); clear hb B7)
            | ((with_reducible refine atLoad (ty := 23) (x := .tmp 6) rfl ?_); refine wpList_load_rowG (by rfl) 23 (.tmp 6) rfl w4.heap.size rfl 23 Z (0, 0) _ (B8.out.1 (_, Z, 23) (by simp)) Tryd.underlying23 rfl HIX.out ?_))
          go_ret
          exact ⟨rfl, B8.out.2⟩
        | false =>
          have h1 : ¬ n < 1 := of_decide_eq_false hb1
          have h2 := hb2 rfl
          clear hb1 hb2 hn
          go_enter Tryd.func3, Tryd.ntmps3
          go_wp2_with (first
            | (go_at_call 6; refine (HA.out _ B0.out.2).mono ?_; rintro e w1 ⟨rfl, hb⟩; have B1 := Lib.hid (B0.out.below hb); clear hb)
            | ((with_reducible refine atLoad (ty := 23) (x := .tmp 2) rfl ?_); refine wpList_load_row rfl 23 (.tmp 2) rfl w.heap.size rfl 23 hc (0, 0) _ (B1.out.1 (_, hc, 23) (by simp)) Tryd.underlying23 rfl HI6.out ?_)
            | (go_at_call 7; refine (HG2.out _).mono ?_; rintro e w2 ⟨rfl, hb⟩; have B2 := Lib.hid (B1.out.below hb); clear hb B1)
            | ((with_reducible refine atLoad (ty := 23) (x := .tmp 2) rfl ?_); refine wpList_load_row rfl 23 (.tmp 2) rfl w.heap.size rfl 23 hc (0, 0) _ (B2.out.1 (_, hc, 23) (by simp)) Tryd.underlying23 rfl HI6.out ?_)
            | (go_at_call 8; refine (HP.out _).mono ?_; rintro e w3 ⟨rfl, hb⟩; have B3 := Lib.hid (B2.out.below hb); clear hb B2)
            | (go_at_call 9; refine (HGq.out _).mono ?_; rintro e w4 ⟨rfl, hb⟩; have B4 := Lib.hid (B3.out.below hb); clear hb B3)
            | ((with_reducible refine atStore (ty := 23) (x := .tmp 6) (y := .tmp 19) rfl ?_); refine wpList_store_row rfl 23 (.tmp 6) (.tmp 19) rfl w4.heap.size Z rfl rfl 23 _ (heap_alloc_new w4 _) HIX.out HZX.out HOX.out ?_; have B5 := Lib.hid (B4.out.push 23 #[.int .i64 0, .int .i64 0, .int .i64 0, .int .i64 0, .string ⟨#[]⟩, .string ⟨#[]⟩] Z); clear B4)
            | ((with_reducible refine atLoad (ty := 23) (x := .tmp 2) rfl ?_); refine wpList_load_row rfl 23 (.tmp 2) rfl w.heap.size rfl 23 hc (0, 0) _ (B5.out.1 (_, hc, 23) (by simp)) Tryd.underlying23 rfl HI6.out ?_)
            | (go_at_call 10; refine (HM.out _).mono ?_; rintro e w6 ⟨rfl, hb⟩; have B6 := Lib.hid (B5.out.below hb); clear hb B5)
            | ((with_reducible refine atLoad (ty := 23) (x := .tmp 2) rfl ?_); refine wpList_load_rowG (by rfl) 23 (.tmp 2) rfl w.heap.size rfl 23 hc (0, 0) _ (B6.out.1 (_, hc, 23) (by simp)) Tryd.underlying23 rfl HI6.out ?_)
            | (go_at_call 11; refine (HHq.out _ B6.out.2).mono ?_; rintro e w7 ⟨rfl, hb⟩; have B7 := Lib.hid (B6.out.below hb); clear hb B6)
            | (go_at_call 12; refine (HFq.out _ B7.out.2).mono ?_; rintro e w8 ⟨rfl, hb⟩; have B8 := Lib.hid (B7.out.below hb); clear hb B7)
            | ((with_reducible refine atLoad (ty := 23) (x := .tmp 6) rfl ?_); refine wpList_load_rowG (by rfl) 23 (.tmp 6) rfl w4.heap.size rfl 23 Z (0, 0) _ (B8.out.1 (_, Z, 23) (by simp)) Tryd.underlying23 rfl HIX.out ?_))
          go_ret
          exact ⟨rfl, B8.out.2⟩
      exact key _ rfl (fun hf => by have := of_decide_eq_false hf; omega)
    have hn' : 1 ≤ n ∧ n ≤ 32 := by omega
    obtain ⟨k, rfl⟩ := Int.eq_ofNat_of_zero_le (show 0 ≤ n by omega)
    rw [getP_in _ k (by omega) (by omega)] at hG
    rw [mayP_in h k (by omega) (by omega)] at HMY
    rw [show hashP (k : Int) h = hashH k h from by unfold hashP; rw [if_pos hn', Int.toNat_natCast]] at hH
    rw [show firstP (k : Int) = cutH k ⟨#[]⟩ from by unfold firstP; rw [if_pos hn', Int.toNat_natCast]] at hF
    have hgp := getH_put h k (by omega)
    have hRH := fun W => rhash15 h k W (by omega) (by have := hsh.1; omega) (by have := hsh.2; omega)
    have hRC := fun W => cut22 ⟨#[]⟩ k W (by omega) (by decide)
    have hRM := fun W => rmay14 h k W
    have hRP := fun W => rput17 h W (by have := hsh.1; omega) (by have := hsh.2; omega)
    have HMK := Lib.hid (fun W => makeKey11 W)
    have hz : ∃ Z : Array Value, Z.size = 72 ∧ ∀ W, (zeroValue 37).run Tryd.prog W = .ok (.agg Z) W := ⟨_, by rw [Array.size_replicate], zero33⟩
    obtain ⟨Z, hZs, hZ⟩ := hz
    have HI := Lib.hid (show (Tryd.prog.info? 37).map (·.size) = some keyCells.size by rw [key_size]; exact info33)
    have HZS := Lib.hid (show keyCells.size = Z.size by rw [key_size, hZs])
    have HKS := Lib.hid key_size
    have h1c := key_one
    obtain ⟨⟨X, er⟩, hq⟩ : ∃ q, getH (putH h) k = q := ⟨_, rfl⟩
    rw [hq] at hG hgp
    obtain ⟨mb, hmb⟩ : ∃ z, mayH h k = z := ⟨_, rfl⟩
    rw [hmb] at HMY hgp hRM
    have HGP := Lib.hid hgp
    generalize hashH k h = D1 at *
    generalize cutH k ⟨#[]⟩ = D0 at *
    generalize putH h = S at *
    have HP : Hid (∀ W, Calls Tryd.prog 8 #[.agg (hcells h)] W fun e w' => e = .returned (.string S) ∧ Below W.heap.size W w') := hP
    have HGq : Hid (∀ W, Calls Tryd.prog 9 #[.string S, .int .i64 (k : Int)] W fun e w' => e = .returned (.tuple #[.agg (hcells X), .int .i64 er]) ∧ Below W.heap.size W w') := hG
    have HM : Hid (∀ W, Calls Tryd.prog 10 #[.agg (hcells h), .int .i64 (k : Int)] W fun e w' => e = .returned (.bool mb) ∧ Below W.heap.size W w') := HMY
    have HRM : Hid (∀ W, Calls Tryd.prog 14 #[.agg (hcells h), .int .i64 (k : Int)] W fun e w' => e = .returned (.bool mb) ∧ Below W.heap.size W w') := hRM
    have HHq : Hid (∀ W, Below w.heap.size w W → Calls Tryd.prog 11 #[.agg (hcells h), .int .i64 (k : Int)] W fun e w' => e = .returned (.string D1) ∧ Below W.heap.size W w') := fun W hb => hH W (KHeld_of hK hb)
    have HFq : Hid (∀ W, Below w.heap.size w W → Calls Tryd.prog 12 #[.int .i64 (k : Int)] W fun e w' => e = .returned (.string D0) ∧ Below W.heap.size W w') := fun W hb => hF W (KHeld_of hK hb)
    have HRH : Hid (∀ W, Calls Tryd.prog 15 #[.agg keyCells, .agg (hcells h), .int .i64 (k : Int)] W fun e w' => e = .returned (.string D1) ∧ Below W.heap.size W w') := hRH
    have HRC : Hid (∀ W, Calls Tryd.prog 16 #[.agg keyCells, .string ⟨#[]⟩, .int .i64 (k : Int)] W fun e w' => e = .returned (.string D0) ∧ Below W.heap.size W w') := hRC
    have HRP : Hid (∀ W, Calls Tryd.prog 17 #[.agg (hcells h)] W fun e w' => e = .returned (.string S) ∧ Below W.heap.size W w') := hRP
    have HOX := Lib.hid (headOne X)
    have HIX := Lib.hid (headSize X)
    have HEQ := Lib.hid (eqH h)
    have HXH : Hid (mb = true → hcells X = hcells h ∧ er = 0) := fun hm => by
      have h5 := HGP.out hm
      simp only [Prod.mk.injEq] at h5
      exact ⟨by rw [h5.1], h5.2⟩
    have HCI : Hid ((hcells h)[0]? = some (.int .i64 h.ix) ∧ (hcells h)[1]? = some (.int .i64 h.fi) ∧ (hcells h)[2]? = some (.int .i64 h.co) ∧ (hcells h)[3]? = some (.int .i64 h.by')) := ⟨rfl, rfl, rfl, rfl⟩
    have HZX : Hid ((#[.int .i64 0, .int .i64 0, .int .i64 0, .int .i64 0, .string ⟨#[]⟩, .string ⟨#[]⟩] : Array Value).size = (hcells X).size) := rfl
    have h1 : ¬ (k : Int) < 1 := by omega
    have h2 : ¬ (32 : Int) < (k : Int) := by omega
    clear hP hG HMY hH hF hsh hK hgp hRH hRC hRM hRP hZs hq hmb hn hn' HGP
    unfold hv
    generalize hcells h = hc at *
    generalize hcells X = xc at *
    generalize keyCells = kc at *
    generalize h.ix = ix at *
    generalize h.fi = fi at *
    generalize h.co = co at *
    generalize h.by' = by' at *
    go_enter Tryd.func3, Tryd.ntmps3
    go_upto_region 10 with (first
      | (go_at_call 6; refine (HA.out _ B0.out.2).mono ?_; rintro e w1 ⟨rfl, hb⟩; have B1 := Lib.hid (B0.out.below hb); clear hb)
      | ((with_reducible refine atLoad (ty := 23) (x := .tmp 2) rfl ?_); refine wpList_load_row rfl 23 (.tmp 2) rfl w.heap.size rfl 23 hc (0, 0) _ (B1.out.1 (_, hc, 23) (by simp)) Tryd.underlying23 rfl HI6.out ?_)
      | (go_at_call 7; refine (HG2.out _).mono ?_; rintro e w2 ⟨rfl, hb⟩; have B2 := Lib.hid (B1.out.below hb); clear hb B1)
      | ((with_reducible refine atLoad (ty := 23) (x := .tmp 2) rfl ?_); refine wpList_load_row rfl 23 (.tmp 2) rfl w.heap.size rfl 23 hc (0, 0) _ (B2.out.1 (_, hc, 23) (by simp)) Tryd.underlying23 rfl HI6.out ?_)
      | (go_at_call 8; refine (HP.out _).mono ?_; rintro e w3 ⟨rfl, hb⟩; have B3 := Lib.hid (B2.out.below hb); clear hb B2)
      | (go_at_call 9; refine (HGq.out _).mono ?_; rintro e w4 ⟨rfl, hb⟩; have B4 := Lib.hid (B3.out.below hb); clear hb B3)
      | ((with_reducible refine atStore (ty := 23) (x := .tmp 6) (y := .tmp 19) rfl ?_); refine wpList_store_row rfl 23 (.tmp 6) (.tmp 19) rfl w4.heap.size xc rfl rfl 23 _ (heap_alloc_new w4 _) HIX.out HZX.out HOX.out ?_; have B5 := Lib.hid (B4.out.push 23 #[.int .i64 0, .int .i64 0, .int .i64 0, .int .i64 0, .string ⟨#[]⟩, .string ⟨#[]⟩] xc); clear B4)
      | (go_at_call 13; refine (HMK.out _).mono ?_; rintro e w6 ⟨rfl, hb⟩; have B6 := Lib.hid (B5.out.below hb); clear hb B5)
      | ((with_reducible refine atStore (ty := 37) (x := .tmp 8) (y := .tmp 51) rfl ?_); refine wpList_store_row rfl 37 (.tmp 8) (.tmp 51) rfl w6.heap.size kc rfl rfl 37 Z (heap_alloc_new w6 _) HI.out HZS.out.symm h1c ?_; have B7 := Lib.hid (B6.out.push 37 Z kc); clear B6))
    obtain ⟨g8, hg8⟩ : ∃ g, w6.heap.size = g := ⟨_, rfl⟩
    obtain ⟨g6, hg6⟩ : ∃ g, w4.heap.size = g := ⟨_, rfl⟩
    rw [hg8, hg6] at B7 ⊢
    refine at_world (Φ := BoxesAt w [(g8, kc, 37), (g6, xc, 23), (w.heap.size, hc, 23)]) B7.out ?_
    rintro W9 hW9
    have B9 := Lib.hid hW9
    clear hW9 B7 hg8 hg6
    refine wp_region_held_drew (S := BoxesAt w [(g8, kc, 37), (g6, xc, 23), (w.heap.size, hc, 23)]) (by kernel_rfl) (B9.out.drew) (fun hS => ?_)
    refine wpAnyH_take (i := 0) (v := .agg hc) rfl (by kernel_rfl) (by kernel_rfl) (by kernel_rfl) (fun _ _ _ h => h) (yieldsIf_load rfl 23 (.tmp 2) rfl _ _ rfl (fun W hW => load_head HS6.out (hW.1 (_, hc, 23) (by simp)))) hS ?_
    simp only [List.getElem_toArray, List.getElem_cons_zero, Act.put, List.setIfInBounds_toArray, List.set_cons_zero, List.set_cons_succ]
    refine wpAnyH_take (i := 1) (v := .int .i64 (k : Int)) rfl (by kernel_rfl) (by kernel_rfl) (by kernel_rfl) (fun _ _ _ h => h) (Or.inl ⟨by simp [Region.wanted], fun W _ => by go_simp⟩) hS ?_
    simp only [List.getElem_toArray, List.getElem_cons_zero, List.getElem_cons_succ, Act.put, List.setIfInBounds_toArray, List.set_cons_zero, List.set_cons_succ]
    refine wpAnyH_take (i := 3) (v := .agg hc) rfl (by kernel_rfl) (by kernel_rfl) (by kernel_rfl) (fun _ _ _ h => h) (yieldsIf_load rfl 23 (.tmp 2) rfl _ _ rfl (fun W hW => load_head HS6.out (hW.1 (_, hc, 23) (by simp)))) hS ?_
    simp only [List.getElem_toArray, List.getElem_cons_zero, List.getElem_cons_succ, Act.put, List.setIfInBounds_toArray, List.set_cons_zero, List.set_cons_succ]
    refine wpAnyH_take (i := 4) (v := .int .i64 (k : Int)) rfl (by kernel_rfl) (by kernel_rfl) (by kernel_rfl) (fun _ _ _ h => h) (Or.inl ⟨by simp [Region.wanted], fun W _ => by go_simp⟩) hS ?_
    simp only [List.getElem_toArray, List.getElem_cons_zero, List.getElem_cons_succ, Act.put, List.setIfInBounds_toArray, List.set_cons_zero, List.set_cons_succ]
    refine wpAnyH_ready (rs := [2]) (by kernel_rfl) (by simp) ?_
    refine AllReadyH.cons rfl (fun K1 hK1 => ?_) AllReadyH.nil
    refine wanted_go rfl ?_
    simp only [List.getElem_toArray, List.getElem_cons_zero, List.getElem_cons_succ]
    go_wp2_with (go_at_call 10; refine (HM.out _).mono ?_; rintro e v1 ⟨rfl, hb1⟩; have HB1 := Lib.hid hb1; clear hb1)
    refine hK1.out _ _ (hS.below HB1.out) (fun hS1 => ?_)
    refine wpAnyH_ready (rs := [5]) (by kernel_rfl) (by simp) ?_
    refine AllReadyH.cons rfl (fun K2 hK2 => ?_) AllReadyH.nil
    refine wanted_go rfl ?_
    simp only [List.getElem_toArray, List.getElem_cons_zero, List.getElem_cons_succ]
    go_wp2_with (go_at_call 14; refine (HRM.out _).mono ?_; rintro e v2 ⟨rfl, hb2⟩; have HB2 := Lib.hid hb2; clear hb2)
    refine hK2.out _ _ (hS1.below HB2.out) (fun hS2 => ?_)
    refine wpAnyH_take (i := 6) (v := .bool false) rfl (by kernel_rfl) (by kernel_rfl) (by kernel_rfl) (fun _ _ _ h => h) (Or.inl ⟨by simp [Region.wanted], fun W _ => by go_simp⟩) hS2 ?_
    simp only [List.getElem_toArray, List.getElem_cons_zero, List.getElem_cons_succ, Act.put, List.setIfInBounds_toArray, List.set_cons_zero, List.set_cons_succ]
    refine wpAnyH_take (i := 7) (v := .bool false) rfl (by kernel_rfl) (by kernel_rfl) (by kernel_rfl) (fun _ _ _ h => h) (Or.inl ⟨by simp [Region.wanted], fun W _ => by go_simp⟩) hS2 ?_
    simp only [List.getElem_toArray, List.getElem_cons_zero, List.getElem_cons_succ, Act.put, List.setIfInBounds_toArray, List.set_cons_zero, List.set_cons_succ]
    refine wpAnyH_take (i := 8) (v := .agg hc) rfl (by kernel_rfl) (by kernel_rfl) (by kernel_rfl) (fun _ _ _ h => h) (yieldsIf_loadH (by rfl) 23 (.tmp 2) rfl _ _ rfl (fun W hW => load_head HS6.out (hW.1 (_, hc, 23) (by simp)))) hS2 ?_
    simp only [List.getElem_toArray, List.getElem_cons_zero, List.getElem_cons_succ, Act.put, List.setIfInBounds_toArray, List.set_cons_zero, List.set_cons_succ]
    refine wpAnyH_take (i := 9) (v := .int .i64 (k : Int)) rfl (by kernel_rfl) (by kernel_rfl) (by kernel_rfl) (fun _ _ _ h => h) (Or.inl ⟨by rfl, fun W _ => by go_simp⟩) hS2 ?_
    simp only [List.getElem_toArray, List.getElem_cons_zero, List.getElem_cons_succ, Act.put, List.setIfInBounds_toArray, List.set_cons_zero, List.set_cons_succ]
    refine wpAnyH_take (i := 11) (v := .agg kc) rfl (by kernel_rfl) (by kernel_rfl) (by kernel_rfl) (fun _ _ _ h => h) (yieldsIf_loadH (by rfl) 37 (.tmp 8) rfl _ _ rfl (fun W hW => load_key HKS.out (hW.1 (_, kc, 37) (by simp)))) hS2 ?_
    simp only [List.getElem_toArray, List.getElem_cons_zero, List.getElem_cons_succ, Act.put, List.setIfInBounds_toArray, List.set_cons_zero, List.set_cons_succ]
    refine wpAnyH_take (i := 12) (v := .agg hc) rfl (by kernel_rfl) (by kernel_rfl) (by kernel_rfl) (fun _ _ _ h => h) (yieldsIf_loadH (by rfl) 23 (.tmp 2) rfl _ _ rfl (fun W hW => load_head HS6.out (hW.1 (_, hc, 23) (by simp)))) hS2 ?_
    simp only [List.getElem_toArray, List.getElem_cons_zero, List.getElem_cons_succ, Act.put, List.setIfInBounds_toArray, List.set_cons_zero, List.set_cons_succ]
    refine wpAnyH_take (i := 13) (v := .int .i64 (k : Int)) rfl (by kernel_rfl) (by kernel_rfl) (by kernel_rfl) (fun _ _ _ h => h) (Or.inl ⟨by rfl, fun W _ => by go_simp⟩) hS2 ?_
    simp only [List.getElem_toArray, List.getElem_cons_zero, List.getElem_cons_succ, Act.put, List.setIfInBounds_toArray, List.set_cons_zero, List.set_cons_succ]
    refine wpAnyH_ready (rs := [10]) (by kernel_rfl) (by simp) ?_
    refine AllReadyH.cons rfl (fun K3 hK3 => ?_) AllReadyH.nil
    rw [if_pos (by rfl)]
    simp only [List.getElem_toArray, List.getElem_cons_zero, List.getElem_cons_succ]
    go_wp2_with (go_at_call 11; refine (HHq.out _ hS2.2).mono ?_; rintro e v3 ⟨rfl, hb3⟩; have HB3 := Lib.hid hb3; clear hb3)
    refine hK3.out _ _ (hS2.below HB3.out) (fun hS3 => ?_)
    refine wpAnyH_ready (rs := [14]) (by kernel_rfl) (by simp) ?_
    refine AllReadyH.cons rfl (fun K4 hK4 => ?_) AllReadyH.nil
    rw [if_pos (by rfl)]
    simp only [List.getElem_toArray, List.getElem_cons_zero, List.getElem_cons_succ]
    go_wp2_with (go_at_call 15; refine (HRH.out _).mono ?_; rintro e v4 ⟨rfl, hb4⟩; have HB4 := Lib.hid hb4; clear hb4)
    refine hK4.out _ _ (hS3.below HB4.out) (fun hS4 => ?_)
    refine wpAnyH_take (i := 15) (v := .bool false) rfl (by kernel_rfl) (by kernel_rfl) (by kernel_rfl) (fun _ _ _ h => h) (Or.inl ⟨by rfl, fun W _ => by go_simp⟩) hS4 ?_
    simp only [List.getElem_toArray, List.getElem_cons_zero, List.getElem_cons_succ, Act.put, List.setIfInBounds_toArray, List.set_cons_zero, List.set_cons_succ]
    refine wpAnyH_take (i := 16) (v := .bool false) rfl (by kernel_rfl) (by kernel_rfl) (by kernel_rfl) (fun _ _ _ h => h) (Or.inl ⟨by simp [Region.wanted], fun W _ => by go_simp⟩) hS4 ?_
    simp only [List.getElem_toArray, List.getElem_cons_zero, List.getElem_cons_succ, Act.put, List.setIfInBounds_toArray, List.set_cons_zero, List.set_cons_succ]
    refine wpAnyH_take (i := 17) (v := .bool false) rfl (by kernel_rfl) (by kernel_rfl) (by kernel_rfl) (fun _ _ _ h => h) (Or.inl ⟨by simp [Region.wanted], fun W _ => by go_simp⟩) hS4 ?_
    simp only [List.getElem_toArray, List.getElem_cons_zero, List.getElem_cons_succ, Act.put, List.setIfInBounds_toArray, List.set_cons_zero, List.set_cons_succ]
    refine wpAnyH_take (i := 18) (v := .int .i64 (k : Int)) rfl (by kernel_rfl) (by kernel_rfl) (by kernel_rfl) (fun _ _ _ h => h) (Or.inl ⟨by rfl, fun W _ => by go_simp⟩) hS4 ?_
    simp only [List.getElem_toArray, List.getElem_cons_zero, List.getElem_cons_succ, Act.put, List.setIfInBounds_toArray, List.set_cons_zero, List.set_cons_succ]
    refine wpAnyH_take (i := 20) (v := .agg kc) rfl (by kernel_rfl) (by kernel_rfl) (by kernel_rfl) (fun _ _ _ h => h) (yieldsIf_loadH (by rfl) 37 (.tmp 8) rfl _ _ rfl (fun W hW => load_key HKS.out (hW.1 (_, kc, 37) (by simp)))) hS4 ?_
    simp only [List.getElem_toArray, List.getElem_cons_zero, List.getElem_cons_succ, Act.put, List.setIfInBounds_toArray, List.set_cons_zero, List.set_cons_succ]
    refine wpAnyH_take (i := 21) (v := .int .i64 (k : Int)) rfl (by kernel_rfl) (by kernel_rfl) (by kernel_rfl) (fun _ _ _ h => h) (Or.inl ⟨by rfl, fun W _ => by go_simp⟩) hS4 ?_
    simp only [List.getElem_toArray, List.getElem_cons_zero, List.getElem_cons_succ, Act.put, List.setIfInBounds_toArray, List.set_cons_zero, List.set_cons_succ]
    refine wpAnyH_ready (rs := [19]) (by kernel_rfl) (by simp) ?_
    refine AllReadyH.cons rfl (fun K5 hK5 => ?_) AllReadyH.nil
    rw [if_pos (by rfl)]
    simp only [List.getElem_toArray, List.getElem_cons_zero, List.getElem_cons_succ]
    go_wp2_with (go_at_call 12; refine (HFq.out _ hS4.2).mono ?_; rintro e v5 ⟨rfl, hb5⟩; have HB5 := Lib.hid hb5; clear hb5)
    refine hK5.out _ _ (hS4.below HB5.out) (fun hS5 => ?_)
    refine wpAnyH_ready (rs := [22]) (by kernel_rfl) (by simp) ?_
    refine AllReadyH.cons rfl (fun K6 hK6 => ?_) AllReadyH.nil
    rw [if_pos (by rfl)]
    simp only [List.getElem_toArray, List.getElem_cons_zero, List.getElem_cons_succ]
    go_wp2_with (go_at_call 16; refine (HRC.out _).mono ?_; rintro e v6 ⟨rfl, hb6⟩; have HB6 := Lib.hid hb6; clear hb6)
    refine hK6.out _ _ (hS5.below HB6.out) (fun hS6 => ?_)
    refine wpAnyH_take (i := 23) (v := .bool false) rfl (by kernel_rfl) (by kernel_rfl) (by kernel_rfl) (fun _ _ _ h => h) (Or.inl ⟨by rfl, fun W _ => by go_simp⟩) hS6 ?_
    simp only [List.getElem_toArray, List.getElem_cons_zero, List.getElem_cons_succ, Act.put, List.setIfInBounds_toArray, List.set_cons_zero, List.set_cons_succ]
    refine wpAnyH_take (i := 24) (v := .bool false) rfl (by kernel_rfl) (by kernel_rfl) (by kernel_rfl) (fun _ _ _ h => h) (Or.inl ⟨by simp [Region.wanted], fun W _ => by go_simp⟩) hS6 ?_
    simp only [List.getElem_toArray, List.getElem_cons_zero, List.getElem_cons_succ, Act.put, List.setIfInBounds_toArray, List.set_cons_zero, List.set_cons_succ]
    refine wpAnyH_done (by kernel_rfl) ?_ _
    have B10 := Lib.hid hS6
    clear hS hS1 hS2 hS3 hS4 hS5 hS6 hK1 hK2 hK3 hK4 hK5 hK6 HB1 HB2 HB3 HB4 HB5 HB6 HHq HFq HRH HRC HM HP HGq HG2 HA HKW HMK h1c hZ B9 HKS HI HZS B0
    have c0 : v6.cell? ⟨w.heap.size, 0, none⟩ = some (.int .i64 ix) := by rw [cell_of_row v6 w.heap.size 0 hc 23 (0, 0) (B10.out.1 (_, hc, 23) (by simp))]; exact HCI.out.1
    have c1 : v6.cell? ⟨w.heap.size, 1, none⟩ = some (.int .i64 fi) := by rw [cell_of_row v6 w.heap.size 1 hc 23 (0, 0) (B10.out.1 (_, hc, 23) (by simp))]; exact HCI.out.2.1
    have c2 : v6.cell? ⟨w.heap.size, 2, none⟩ = some (.int .i64 co) := by rw [cell_of_row v6 w.heap.size 2 hc 23 (0, 0) (B10.out.1 (_, hc, 23) (by simp))]; exact HCI.out.2.2.1
    have c3 : v6.cell? ⟨w.heap.size, 3, none⟩ = some (.int .i64 by') := by rw [cell_of_row v6 w.heap.size 3 hc 23 (0, 0) (B10.out.1 (_, hc, 23) (by simp))]; exact HCI.out.2.2.2
    by_cases k0 : ix < 0
    · cases mb with
      | false =>
        go_wp2_with (first
            | ((with_reducible refine atLoad (ty := 23) (x := .tmp 2) rfl ?_); refine wpList_load_row rfl 23 (.tmp 2) rfl w.heap.size rfl 23 hc (0, 0) _ (B10.out.1 (_, hc, 23) (by simp)) Tryd.underlying23 rfl HI6.out ?_)
            | (go_at_call 14; refine (HRM.out _).mono ?_; rintro e v8 ⟨rfl, hb⟩; have B12 := Lib.hid (B10.out.below hb); clear hb B10; go_wp2))
        go_ret
        exact ⟨rfl, B12.out.2⟩
      | true =>
        obtain ⟨hxc, her⟩ := HXH.out rfl
        have hxd := hxc.symm
        clear hxc
        subst hxd her
        have heq := HEQ.out
        go_wp2_with (first
            | ((with_reducible refine atLoad (ty := 23) (x := .tmp 2) rfl ?_); refine wpList_load_row rfl 23 (.tmp 2) rfl w.heap.size rfl 23 hc (0, 0) _ (B10.out.1 (_, hc, 23) (by simp)) Tryd.underlying23 rfl HI6.out ?_)
            | (go_at_call 14; refine (HRM.out _).mono ?_; rintro e v8 ⟨rfl, hb⟩; have B12 := Lib.hid (B10.out.below hb); clear hb B10)
            | ((with_reducible refine atLoad (ty := 23) (x := .tmp 6) rfl ?_); refine wpList_load_rowG (by rfl) 23 (.tmp 6) rfl g6 rfl 23 hc (0, 0) _ (B12.out.1 (g6, hc, 23) (by simp)) Tryd.underlying23 rfl HI6.out ?_)
            | ((with_reducible refine atLoad (ty := 23) (x := .tmp 2) rfl ?_); refine wpList_load_rowG (by rfl) 23 (.tmp 2) rfl w.heap.size rfl 23 hc (0, 0) _ (B12.out.1 (w.heap.size, hc, 23) (by simp)) Tryd.underlying23 rfl HI6.out ?_))
        go_ret
        exact ⟨rfl, B12.out.2⟩
    by_cases k1 : fi < 0
    · cases mb with
      | false =>
        go_wp2_with (first
            | ((with_reducible refine atLoad (ty := 23) (x := .tmp 2) rfl ?_); refine wpList_load_row rfl 23 (.tmp 2) rfl w.heap.size rfl 23 hc (0, 0) _ (B10.out.1 (_, hc, 23) (by simp)) Tryd.underlying23 rfl HI6.out ?_)
            | (go_at_call 14; refine (HRM.out _).mono ?_; rintro e v8 ⟨rfl, hb⟩; have B12 := Lib.hid (B10.out.below hb); clear hb B10; go_wp2))
        go_ret
        exact ⟨rfl, B12.out.2⟩
      | true =>
        obtain ⟨hxc, her⟩ := HXH.out rfl
        have hxd := hxc.symm
        clear hxc
        subst hxd her
        have heq := HEQ.out
        go_wp2_with (first
            | ((with_reducible refine atLoad (ty := 23) (x := .tmp 2) rfl ?_); refine wpList_load_row rfl 23 (.tmp 2) rfl w.heap.size rfl 23 hc (0, 0) _ (B10.out.1 (_, hc, 23) (by simp)) Tryd.underlying23 rfl HI6.out ?_)
            | (go_at_call 14; refine (HRM.out _).mono ?_; rintro e v8 ⟨rfl, hb⟩; have B12 := Lib.hid (B10.out.below hb); clear hb B10)
            | ((with_reducible refine atLoad (ty := 23) (x := .tmp 6) rfl ?_); refine wpList_load_rowG (by rfl) 23 (.tmp 6) rfl g6 rfl 23 hc (0, 0) _ (B12.out.1 (g6, hc, 23) (by simp)) Tryd.underlying23 rfl HI6.out ?_)
            | ((with_reducible refine atLoad (ty := 23) (x := .tmp 2) rfl ?_); refine wpList_load_rowG (by rfl) 23 (.tmp 2) rfl w.heap.size rfl 23 hc (0, 0) _ (B12.out.1 (w.heap.size, hc, 23) (by simp)) Tryd.underlying23 rfl HI6.out ?_))
        go_ret
        exact ⟨rfl, B12.out.2⟩
    by_cases k2 : co < 0
    · cases mb with
      | false =>
        go_wp2_with (first
            | ((with_reducible refine atLoad (ty := 23) (x := .tmp 2) rfl ?_); refine wpList_load_row rfl 23 (.tmp 2) rfl w.heap.size rfl 23 hc (0, 0) _ (B10.out.1 (_, hc, 23) (by simp)) Tryd.underlying23 rfl HI6.out ?_)
            | (go_at_call 14; refine (HRM.out _).mono ?_; rintro e v8 ⟨rfl, hb⟩; have B12 := Lib.hid (B10.out.below hb); clear hb B10; go_wp2))
        go_ret
        exact ⟨rfl, B12.out.2⟩
      | true =>
        obtain ⟨hxc, her⟩ := HXH.out rfl
        have hxd := hxc.symm
        clear hxc
        subst hxd her
        have heq := HEQ.out
        go_wp2_with (first
            | ((with_reducible refine atLoad (ty := 23) (x := .tmp 2) rfl ?_); refine wpList_load_row rfl 23 (.tmp 2) rfl w.heap.size rfl 23 hc (0, 0) _ (B10.out.1 (_, hc, 23) (by simp)) Tryd.underlying23 rfl HI6.out ?_)
            | (go_at_call 14; refine (HRM.out _).mono ?_; rintro e v8 ⟨rfl, hb⟩; have B12 := Lib.hid (B10.out.below hb); clear hb B10)
            | ((with_reducible refine atLoad (ty := 23) (x := .tmp 6) rfl ?_); refine wpList_load_rowG (by rfl) 23 (.tmp 6) rfl g6 rfl 23 hc (0, 0) _ (B12.out.1 (g6, hc, 23) (by simp)) Tryd.underlying23 rfl HI6.out ?_)
            | ((with_reducible refine atLoad (ty := 23) (x := .tmp 2) rfl ?_); refine wpList_load_rowG (by rfl) 23 (.tmp 2) rfl w.heap.size rfl 23 hc (0, 0) _ (B12.out.1 (w.heap.size, hc, 23) (by simp)) Tryd.underlying23 rfl HI6.out ?_))
        go_ret
        exact ⟨rfl, B12.out.2⟩
    by_cases k3 : by' < 0
    · cases mb with
      | false =>
        go_wp2_with (first
            | ((with_reducible refine atLoad (ty := 23) (x := .tmp 2) rfl ?_); refine wpList_load_row rfl 23 (.tmp 2) rfl w.heap.size rfl 23 hc (0, 0) _ (B10.out.1 (_, hc, 23) (by simp)) Tryd.underlying23 rfl HI6.out ?_)
            | (go_at_call 14; refine (HRM.out _).mono ?_; rintro e v8 ⟨rfl, hb⟩; have B12 := Lib.hid (B10.out.below hb); clear hb B10; go_wp2))
        go_ret
        exact ⟨rfl, B12.out.2⟩
      | true =>
        obtain ⟨hxc, her⟩ := HXH.out rfl
        have hxd := hxc.symm
        clear hxc
        subst hxd her
        have heq := HEQ.out
        go_wp2_with (first
            | ((with_reducible refine atLoad (ty := 23) (x := .tmp 2) rfl ?_); refine wpList_load_row rfl 23 (.tmp 2) rfl w.heap.size rfl 23 hc (0, 0) _ (B10.out.1 (_, hc, 23) (by simp)) Tryd.underlying23 rfl HI6.out ?_)
            | (go_at_call 14; refine (HRM.out _).mono ?_; rintro e v8 ⟨rfl, hb⟩; have B12 := Lib.hid (B10.out.below hb); clear hb B10)
            | ((with_reducible refine atLoad (ty := 23) (x := .tmp 6) rfl ?_); refine wpList_load_rowG (by rfl) 23 (.tmp 6) rfl g6 rfl 23 hc (0, 0) _ (B12.out.1 (g6, hc, 23) (by simp)) Tryd.underlying23 rfl HI6.out ?_)
            | ((with_reducible refine atLoad (ty := 23) (x := .tmp 2) rfl ?_); refine wpList_load_rowG (by rfl) 23 (.tmp 2) rfl w.heap.size rfl 23 hc (0, 0) _ (B12.out.1 (w.heap.size, hc, 23) (by simp)) Tryd.underlying23 rfl HI6.out ?_))
        go_ret
        exact ⟨rfl, B12.out.2⟩
    cases mb with
    | false =>
      go_wp2_with (first
          | ((with_reducible refine atLoad (ty := 23) (x := .tmp 2) rfl ?_); refine wpList_load_rowG (by rfl) 23 (.tmp 2) rfl w.heap.size rfl 23 hc (0, 0) _ (B10.out.1 (_, hc, 23) (by simp)) Tryd.underlying23 rfl HI6.out ?_)
          | (go_at_call 17; refine (HRP.out _).mono ?_; rintro e v7 ⟨rfl, hb⟩; have B11 := Lib.hid (B10.out.below hb); clear hb B10)
          | ((with_reducible refine atLoad (ty := 23) (x := .tmp 2) rfl ?_); refine wpList_load_row rfl 23 (.tmp 2) rfl w.heap.size rfl 23 hc (0, 0) _ (B11.out.1 (_, hc, 23) (by simp)) Tryd.underlying23 rfl HI6.out ?_)
          | (go_at_call 14; refine (HRM.out _).mono ?_; rintro e v8 ⟨rfl, hb⟩; have B12 := Lib.hid (B11.out.below hb); clear hb B11; go_wp2))
      go_ret
      exact ⟨rfl, B12.out.2⟩
    | true =>
      obtain ⟨hxc, her⟩ := HXH.out rfl
      have hxd := hxc.symm
      clear hxc
      subst hxd her
      have heq := HEQ.out
      go_wp2_with (first
          | ((with_reducible refine atLoad (ty := 23) (x := .tmp 2) rfl ?_); refine wpList_load_rowG (by rfl) 23 (.tmp 2) rfl w.heap.size rfl 23 hc (0, 0) _ (B10.out.1 (_, hc, 23) (by simp)) Tryd.underlying23 rfl HI6.out ?_)
          | (go_at_call 17; refine (HRP.out _).mono ?_; rintro e v7 ⟨rfl, hb⟩; have B11 := Lib.hid (B10.out.below hb); clear hb B10)
          | ((with_reducible refine atLoad (ty := 23) (x := .tmp 2) rfl ?_); refine wpList_load_row rfl 23 (.tmp 2) rfl w.heap.size rfl 23 hc (0, 0) _ (B11.out.1 (_, hc, 23) (by simp)) Tryd.underlying23 rfl HI6.out ?_)
          | (go_at_call 14; refine (HRM.out _).mono ?_; rintro e v8 ⟨rfl, hb⟩; have B12 := Lib.hid (B11.out.below hb); clear hb B11)
          | ((with_reducible refine atLoad (ty := 23) (x := .tmp 6) rfl ?_); refine wpList_load_rowG (by rfl) 23 (.tmp 6) rfl g6 rfl 23 hc (0, 0) _ (B12.out.1 (g6, hc, 23) (by simp)) Tryd.underlying23 rfl HI6.out ?_)
          | ((with_reducible refine atLoad (ty := 23) (x := .tmp 2) rfl ?_); refine wpList_load_rowG (by rfl) 23 (.tmp 2) rfl w.heap.size rfl 23 hc (0, 0) _ (B12.out.1 (w.heap.size, hc, 23) (by simp)) Tryd.underlying23 rfl HI6.out ?_))
      go_ret
      exact ⟨rfl, B12.out.2⟩
end Go.Proofs.YtipaicfmodgcoaaDoor

namespace Go.Proofs.YtipaicfmodgcoaaDoor
open Go.RowKit Base

set_option maxRecDepth 100000 in
theorem dig_none : digB [] = [227, 176, 196, 66, 152, 252, 28, 20, 154, 251, 244, 200, 153, 111, 185, 36, 39, 174, 65, 228, 100, 155, 147, 76, 164, 149, 153, 27, 120, 82, 184, 85] := by decide +kernel
def noneB : ByteArray := ⟨#[227, 176, 196, 66, 152, 252, 28, 20, 154, 251, 244, 200, 153, 111, 185, 36, 39, 174, 65, 228, 100, 155, 147, 76, 164, 149, 153, 27, 120, 82, 184, 85]⟩
theorem cut_none : cutH 32 ⟨#[]⟩ = noneB := by
  unfold cutH
  have h := digS_size ⟨#[]⟩
  have e : (digS ⟨#[]⟩).extract 0 32 = digS ⟨#[]⟩ := by
    apply ByteArray.ext
    rw [ByteArray.data_extract, ← h]
    exact Array.extract_size ..
  rw [e]
  have h2 : digS ⟨#[]⟩ = ⟨(digB []).toArray⟩ := rfl
  rw [h2, dig_none]
  rfl

set_option maxRecDepth 100000 in
set_option maxHeartbeats 2000000 in
theorem aliveH6 (w : World) (hK : KHeld w)
    (HCH : ∀ W, KHeld W → Calls Tryd.prog 19 #[.slice none 0 0, .int .i64 32] W fun e w' => e = .returned (.tuple #[.string (chainP 32 []).1, .int .i64 (chainP 32 []).2]) ∧ Below W.heap.size W w')
    (HFS : ∀ W, KHeld W → Calls Tryd.prog 12 #[.int .i64 32] W fun e w' => e = .returned (.string (firstP 32)) ∧ Below W.heap.size W w') :
    Calls Tryd.prog 6 #[] w fun e w' => e = .returned (.bool true) ∧ Below w.heap.size w w' := by
  have e1 : chainP 32 [] = (noneB, 0) := by
    have : chainP 32 [] = (cutH 32 ⟨#[]⟩, 0) := rfl
    rw [this, cut_none]
  have e2 : firstP 32 = noneB := by
    have : firstP 32 = cutH 32 ⟨#[]⟩ := rfl
    rw [this, cut_none]
  rw [e1] at HCH
  rw [e2] at HFS
  have H1 := Lib.hid (HCH w hK)
  have H2 := Lib.hid (fun (W : World) (hb : Below w.heap.size w W) => HFS W (KHeld_of hK hb))
  clear HCH HFS e1 e2 hK
  unfold noneB at H1 H2
  go_enter Tryd.func6, Tryd.ntmps6
  go_wp2_with (first
    | (go_at_call 19; refine H1.out.mono ?_; rintro e w1 ⟨rfl, hb⟩; have HB := Lib.hid hb; clear hb)
    | (go_at_call 12; refine (H2.out _ HB.out).mono ?_; rintro e w2 ⟨rfl, hb2⟩; have HB2 := Lib.hid (HB.out.trans (hb2.mono HB.out.size)); clear hb2))
  go_ret
  exact ⟨rfl, HB2.out⟩
end Go.Proofs.YtipaicfmodgcoaaDoor

namespace Go.Proofs.YtipaicfmodgcoaaDoor
open Go.ChangeShapes Go.WideShapes Go.ChangeAt Go.RowKit Go.Lib

theorem cellsI3 : Tryd.prog.cellsOf 3 = 1 := by kernel_rfl
theorem cellsS9 : Tryd.prog.cellsOf 9 = 1 := by kernel_rfl
theorem cellsHd : Tryd.prog.cellsOf 23 = 6 := by kernel_rfl
/-- What a header reads as. -/
def headData {H : Type} (h : HeadT) : DataW H := .agg [.lit (.int .i64 h.ix), .lit (.int .i64 h.fi), .lit (.int .i64 h.co), .lit (.int .i64 h.by'), .lit (.string h.pv.data.toList), .lit (.string h.rt.data.toList)]
/-- The parts of a header are of their kinds. -/
def HeadT.Wf (h : HeadT) : Prop := ((Lit.int .i64 h.ix).wf = true ∧ (Lit.int .i64 h.fi).wf = true ∧ (Lit.int .i64 h.co).wf = true ∧ (Lit.int .i64 h.by').wf = true) ∧ h.pv.size ≤ maxLen ∧ h.rt.size ≤ maxLen
theorem HeadT.Wf.toIn {h : HeadT} (hw : h.Wf) : h.In := by
  obtain ⟨⟨a, b, c, d⟩, _⟩ := hw
  simp [Lit.wf, IntKind.min, IntKind.max, IntKind.signed, IntKind.bits] at a b c d
  exact ⟨⟨by omega, by omega⟩, ⟨by omega, by omega⟩, ⟨by omega, by omega⟩, ⟨by omega, by omega⟩⟩

set_option maxRecDepth 100000 in
theorem trod_head {H : Type} {enc : TypeId × Value → H} {w : World} {base : Nat} {sp : Nat → Bool} {held : Bool} {fuel : Nat} {cs : List Value} {x : DataW H × List MemPlace}
    (h : DataW.trod enc Tryd.prog w base sp held fuel 23 cs = some x) : ∃ g : HeadT, cs = (hcells g).toList ∧ x = (headData g, []) ∧ g.Wf := by
  obtain ⟨xs, m, rfl, rfl, hl, hxl, hi⟩ := DataW.trod_struct Tryd.underlying23 h
  obtain ⟨y0, y1, y2, y3, y4, y5, rfl⟩ : ∃ y0 y1 y2 y3 y4 y5, xs = [y0, y1, y2, y3, y4, y5] := by
    match xs, hxl with
    | [y0, y1, y2, y3, y4, y5], _ => exact ⟨_, _, _, _, _, _, rfl⟩
  rw [cellsHd] at hl
  obtain ⟨v0, v1, v2, v3, v4, v5, rfl⟩ : ∃ v0 v1 v2 v3 v4 v5, cs = [v0, v1, v2, v3, v4, v5] := by
    match cs, hl with
    | [v0, v1, v2, v3, v4, v5], _ => exact ⟨_, _, _, _, _, _, rfl⟩
  have e0 : DataW.trod enc Tryd.prog w base sp held m 3 (([v0, v1, v2, v3, v4, v5].drop 0).take (Tryd.prog.cellsOf 3)) = some y0 := hi 0 _ rfl
  rw [cellsI3] at e0
  obtain ⟨z0, hz0, rfl, w0⟩ := DataW.trod_int Tryd.underlying3 e0
  obtain rfl : v0 = .int .i64 z0 := by simpa using hz0
  have e1 : DataW.trod enc Tryd.prog w base sp held m 3 (([.int .i64 z0, v1, v2, v3, v4, v5].drop 1).take (Tryd.prog.cellsOf 3)) = some y1 := hi 1 _ rfl
  rw [cellsI3] at e1
  obtain ⟨z1, hz1, rfl, w1⟩ := DataW.trod_int Tryd.underlying3 e1
  obtain rfl : v1 = .int .i64 z1 := by simpa using hz1
  have e2 : DataW.trod enc Tryd.prog w base sp held m 3 (([.int .i64 z0, .int .i64 z1, v2, v3, v4, v5].drop 2).take (Tryd.prog.cellsOf 3)) = some y2 := hi 2 _ rfl
  rw [cellsI3] at e2
  obtain ⟨z2, hz2, rfl, w2⟩ := DataW.trod_int Tryd.underlying3 e2
  obtain rfl : v2 = .int .i64 z2 := by simpa using hz2
  have e3 : DataW.trod enc Tryd.prog w base sp held m 3 (([.int .i64 z0, .int .i64 z1, .int .i64 z2, v3, v4, v5].drop 3).take (Tryd.prog.cellsOf 3)) = some y3 := hi 3 _ rfl
  rw [cellsI3] at e3
  obtain ⟨z3, hz3, rfl, w3⟩ := DataW.trod_int Tryd.underlying3 e3
  obtain rfl : v3 = .int .i64 z3 := by simpa using hz3
  have e4 : DataW.trod enc Tryd.prog w base sp held m 9 (([.int .i64 z0, .int .i64 z1, .int .i64 z2, .int .i64 z3, v4, v5].drop 4).take (Tryd.prog.cellsOf 9)) = some y4 := hi 4 _ rfl
  rw [cellsS9] at e4
  obtain ⟨z4, hz4, rfl, w4⟩ := DataW.trod_string Tryd.underlying9 e4
  obtain rfl : v4 = .string z4 := by simpa using hz4
  have e5 : DataW.trod enc Tryd.prog w base sp held m 9 (([.int .i64 z0, .int .i64 z1, .int .i64 z2, .int .i64 z3, .string z4, v5].drop 5).take (Tryd.prog.cellsOf 9)) = some y5 := hi 5 _ rfl
  rw [cellsS9] at e5
  obtain ⟨z5, hz5, rfl, w5⟩ := DataW.trod_string Tryd.underlying9 e5
  obtain rfl : v5 = .string z5 := by simpa using hz5
  exact ⟨⟨z0, z1, z2, z3, z4, z5⟩, rfl, rfl, ⟨w0, w1, w2, w3⟩, w4, w5⟩

set_option maxRecDepth 100000 in
theorem open_head {H : Type} {enc : TypeId × Value → H} {w : World} {base : Nat} {sp : Nat → Bool} {held : Bool} {r : Reach} {b0 : Nat} {v : Value} {d : DataW H} {p : List MemPlace}
    (hv' : Value.okWide Tryd.prog w r b0 23 v) (h : DataW.Trod enc Tryd.prog w base sp held 23 v d p) : ∃ g : HeadT, v = hv g ∧ d = headData g ∧ p = [] ∧ g.Wf := by
  obtain ⟨cs, rfl, _⟩ := okWide_struct Tryd.underlying23 hv'
  obtain ⟨fuel, hf⟩ := h
  obtain ⟨g, hc, hx, hw⟩ := trod_head hf
  simp only [Prod.mk.injEq] at hx
  refine ⟨g, ?_, hx.1, hx.2, hw⟩
  have : cs.toList = (hcells g).toList := hc
  rw [Array.toList_inj.1 this]; rfl
set_option maxRecDepth 100000 in
theorem shut_head {H : Type} {enc : TypeId × Value → H} {w : World} {base : Nat} {sp : Nat → Bool} {held : Bool} (g : HeadT) (hw : g.Wf) : DataW.Trod enc Tryd.prog w base sp held 23 (hv g) (headData g) [] := by
  obtain ⟨ix, fi, co, by', pv, rt⟩ := g
  obtain ⟨⟨w0, w1, w2, w3⟩, w4, w5⟩ := hw
  dsimp only at w0 w1 w2 w3 w4 w5
  refine ⟨2, ?_⟩
  simp [DataW.trod, Value.cells, hv, hcells, headData, Tryd.underlying23, Tryd.underlying3, Tryd.underlying9, cellsHd, cellsI3, cellsS9, w0, w1, w2, w3, w4, w5]

set_option maxRecDepth 100000 in
theorem open_heads {H : Type} {enc : TypeId × Value → H} {W : World} {base : Nat} {spare : Nat → Bool} {held : Bool} {a : Option Addr} {len cap : Nat} {d : DataW H} {ps : List MemPlace}
    (h : DataW.Trod enc Tryd.prog W base spare held 42 (.slice a len cap) d ps) : ∃ l : List HeadT, l.length = len ∧ (HeadsAt W a l ∧ ∀ h ∈ l, h.In) ∧ len ≤ maxLen ∧ len ≤ cap := by
  obtain ⟨fuel, hf⟩ := h
  rcases Go.Deep.open_slice Tryd.underlying42 hf with ⟨hcs, _⟩ | ⟨x, l, c, m, n, D, Pl, hcs, _, hl, hm, hmm, _, hcells⟩
  · simp [Value.cells] at hcs
    obtain ⟨rfl, rfl, rfl⟩ := hcs
    exact ⟨[], rfl, ⟨.inl rfl, by simp⟩, by unfold maxLen; omega, Nat.le_refl _⟩
  · simp [Value.cells] at hcs
    obtain ⟨rfl, rfl, rfl⟩ := hcs
    have hlm : len ≤ m := by rw [hmm]; split <;> omega
    rw [cellsHd] at hcells
    have hv1 : ∀ i, i < len → ∃ g : HeadT, g.Wf ∧ ∀ j, j < 6 → W.cell? (x.add (i * 6 + j)) = (Go.Proofs.YtipaicfmodgcoaaDoor.hcells g).toList[j]? := fun i hi => by
      obtain ⟨cs, h1, h2⟩ := hcells i (by omega)
      obtain ⟨g, rfl, _, hw⟩ := trod_head h2
      obtain ⟨_, _, h3⟩ := World.cells?_some h1
      exact ⟨g, hw, fun j hj => by rw [← h3 j hj, Addr.add_add]⟩
    obtain ⟨f, hf2⟩ : ∃ f : Nat → HeadT, ∀ i, i < len → (f i).Wf ∧ ∀ j, j < 6 → W.cell? (x.add (i * 6 + j)) = (Go.Proofs.YtipaicfmodgcoaaDoor.hcells (f i)).toList[j]? := by
      refine ⟨fun i => if h : i < len then (hv1 i h).choose else zeroH, fun i hi => ?_⟩
      simp only [dif_pos hi]
      exact (hv1 i hi).choose_spec
    refine ⟨(List.range len).map f, by simp, ⟨?_, fun g hg => ?_⟩, by omega, hl⟩
    · by_cases h00 : len = 0
      · subst h00; exact .inl rfl
      · obtain ⟨b, off, spot⟩ := x
        have hc0 : W.cell? ((⟨b, off, spot⟩ : Addr).add (0 * 6 + 0)) = some (.int .i64 (f 0).ix) := (hf2 0 (by omega)).2 0 (by omega)
        have hspot : spot = none := by
          have h := World.cell?_spot hc0
          simpa [Addr.add] using h
        subst hspot
        refine .inr ⟨b, off, rfl, ?_, fun i g hi => ?_⟩
        · rw [Addr.add_mid] at hc0
          exact World.block_lt_of_cell? W _ hc0
        · have hin : i < len := by simpa using (List.getElem?_eq_some_iff.1 hi).1
          simp [hin] at hi
          subst hi
          intro j v hj
          have hj6 : j < 6 := by
            have := (List.getElem?_eq_some_iff.1 hj).1
            simpa [Go.Proofs.YtipaicfmodgcoaaDoor.hcells] using this
          have h := (hf2 i hin).2 j hj6
          rw [Addr.add_mid, hj] at h
          rw [show off + i * 6 + j = off + (i * 6 + j) by omega]
          exact h
    · obtain ⟨i, hi, rfl⟩ := List.mem_map.1 hg
      exact ((hf2 i (by simpa using hi)).1).toIn
end Go.Proofs.YtipaicfmodgcoaaDoor
