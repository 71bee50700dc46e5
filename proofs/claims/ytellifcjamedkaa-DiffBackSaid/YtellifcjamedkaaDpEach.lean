/- A list's things as rows, told at a yield: the program's contracts. -/
import Derived.Test.YtellifcjamedkaaDpCmp
namespace Go.Proofs.Ytellifcjamedkaa
open Go.RowKit Go.Shelf Base Base2
attribute [local go_sem] Oper.semAt_some

/-- What a loop's rounds promise an iterator of rows. -/
theorem vals_at (v : List Int) (i : Nat) (z : Int) (h : v[i]? = some z) : ((v.map (Value.int .i64)).toArray)[i]? = some (.int .i64 z) := by simp [h]
theorem pre_next {pre ys : List RowV} {L : List Item} {rw_ : Item → RowT} {FULL : List RowT} {i : Nat} {x : Item} (hp : ∃ s, pre.map RowV.r ++ L.map rw_ ++ s = FULL) (hy : ys.map RowV.r = (L.take i).map rw_) (ht : L.take (i + 1) = L.take i ++ [x]) (z : RowV) (hz : z.r = rw_ x) : (∃ s, (pre ++ ys ++ [z]).map RowV.r ++ s = FULL) ∧ (ys ++ [z]).map RowV.r = (L.take (i + 1)).map rw_ := by
  have e : (ys ++ [z]).map RowV.r = (L.take (i + 1)).map rw_ := by rw [List.map_append, hy, ht, List.map_append, List.map_singleton, List.map_singleton, hz]
  obtain ⟨s, hs⟩ := hp
  refine ⟨⟨(L.drop (i + 1)).map rw_ ++ s, ?_⟩, e⟩
  rw [List.append_assoc, List.map_append, e, ← hs]
  have h2 : L.map rw_ = (L.take (i + 1)).map rw_ ++ (L.drop (i + 1)).map rw_ := by rw [← List.map_append, List.take_append_drop]
  rw [h2]
  simp only [List.append_assoc]
def YieldRow (l : Nat) (R : Nat → Obj → Prop) (FULL : List RowT) (J Jx : List RowV → World → Prop) : Prop :=
  ∀ pre x W, J pre W → (∃ s, (pre ++ [x]).map RowV.r ++ s = FULL) → ValAt W x.a x.r.v → YieldAt Fence.wide 0 Try.prog l #[.agg x.cells.toArray] W fun e W' =>
    ((e = .returned (.bool true) ∧ J (pre ++ [x]) W') ∨ (e = .returned (.bool false) ∧ Jx (pre ++ [x]) W')) ∧ TurnsK (TLR l R) W W'
theorem infoRow : (Try.prog.info? 54).map (·.size) = some 4 := by kernel_rfl
theorem lo_round {V W W' : World} {l : Nat} {R : Nat → Obj → Prop} (hV : Below V.heap.size V W) (hl : V.heap.size ≤ l) (hR : ∀ k o, R k o → V.heap.size ≤ k) (h : TurnsK (TLR l R) W W') : Below V.heap.size V W' :=
  hV.trans (h.lo hV.size (fun k o hk a => by rcases a with ⟨a, _⟩ | a; omega; have := hR k o a; omega))
set_option maxRecDepth 100000 in
set_option maxHeartbeats 8000000 in
theorem asHolder (p q r s : Int) (w : World) :
    Calls Try.prog 44 #[.agg #[.int .i64 p, .int .i64 q, .int .i64 r, .int .i64 s]] w fun e w' => (∃ A c, e = .returned (.agg #[.int .i64 1, .int .i64 p, .int .i64 0, .slice A 3 c]) ∧ ValAt w' A [q, r, s]) ∧ Below w.heap.size w w' := by
  go_enter Try.func44, Try.ntmps44
  go_wp2
  refine ret_cell (cs := #[.int .i64 1, .int .i64 p, .int .i64 0, .slice (some ⟨w.heap.size + 1 + 1, 0, none⟩) 3 3]) rfl rfl rfl three_alloc.2.1 Try.underlying54 rfl infoRow ?_
  refine ⟨⟨_, _, rfl, .inr ⟨_, 0, _, rfl, three_alloc.2.2.1, fun i z hz => ?_⟩⟩, three_alloc.2.2.2⟩
  rw [Nat.zero_add]
  exact vals_at [q, r, s] i z hz
set_option maxRecDepth 100000 in
set_option maxHeartbeats 8000000 in
theorem eachHolder (l : Nat) (R : Nat → Obj → Prop) (FULL : List RowT) (J Jx : List RowV → World → Prop) (HJ : BearsK (fun _ _ => False) J) (HJx : BearsK (fun _ _ => False) Jx) (HY : YieldRow l R FULL J Jx)
    (V : World) (a : Option Addr) (c : Nat) (L : List Item) (hr : RowsOf 4 V a L) (hk : ItemsOk 4 2000 L) (pre : List RowV) (hpre : ∃ s, pre.map RowV.r ++ L.map rwH ++ s = FULL) (hl : V.heap.size ≤ l) (hR : ∀ k o, R k o → V.heap.size ≤ k)
    (W : World) (hV : Below V.heap.size V W) (h0 : J pre W) :
    Calls Try.prog 43 #[.slice a L.length c, .func (.yield l) #[] #[], .func (.func 44) #[] #[]] W fun e W' => TurnsK (TLR l R) W W' ∧ ((e = .returned (.bool true) ∧ ∃ ys, ys.map RowV.r = L.map rwH ∧ J (pre ++ ys) W') ∨ (e = .returned (.bool false) ∧ ∃ ys, Jx (pre ++ ys) W')) := by
  refine (callsIn_wide (n := 10)).1 ?_
  have HROW := Lib.hid hr
  have hkl := hk.1
  have HK := Lib.hid hk.2
  have HP := Lib.hid hpre
  have H0 := Lib.hid h0
  have HYY := Lib.hid HY
  have HJJ := Lib.hid HJ
  have HJX := Lib.hid HJx
  have HL := Lib.hid hl
  have HRR := Lib.hid hR
  have HV := Lib.hid hV
  clear hr hk hpre h0 HY HJ HJx hl hR hV
  refine callsIn_of_wp Try.func43 rfl trivial ?_ rfl
  simp only [Try.ntmps43, List.size_toArray, List.length_cons, List.length_nil, Nat.reduceAdd, Nat.reduceSub, Array.replicate_succ, Array.replicate_zero, List.push_toArray, List.append_toArray, List.nil_append, List.cons_append]
  gi_wp2
  gi_loopw [11] (fun vi W' => ∃ (i : Nat) (ys : List RowV), vi = .int .i64 (i : Int) ∧ i ≤ L.length ∧ ys.map RowV.r = (L.take i).map rwH ∧ J (pre ++ ys) W' ∧ TurnsK (TLR l R) W W') (fun vi _ => L.length - (intOf vi).toNat)
  case atStart => exact ⟨0, [], rfl, Nat.zero_le _, rfl, by rw [List.append_nil]; exact H0.out, TurnsK.refl _ _⟩
  case round =>
    obtain ⟨i, ys, rfl, hi, hys, hj, hb⟩ := hrel
    have HTR := Lib.hid hb
    have HLO := Lib.hid (lo_round HV.out HL.out HRR.out hb)
    have HYS := Lib.hid hys
    have HJ0 := Lib.hid hj
    clear hb hys hj
    by_cases hlt : i < L.length
    · obtain ⟨x, hx⟩ : ∃ x, L[i]? = some x := ⟨L[i], by simp [hlt]⟩
      obtain ⟨b0, off, rfl, hb0, hcs⟩ := HROW.out.at hx
      obtain ⟨p, q, r, s, rfl⟩ := item4 (HK.out _ (List.mem_of_getElem? hx)).1
      have HCS := Lib.hid hcs
      have HTK := Lib.hid (take_one hx)
      clear hcs hx
      have k0 := HCS.out wr HLO.out 0 p rfl
      have k1 := HCS.out wr HLO.out 1 q rfl
      have k2 := HCS.out wr HLO.out 2 r rfl
      have k3 := HCS.out wr HLO.out 3 s rfl
      rw [Nat.add_zero] at k0
      have HPX := Lib.hid (pre_next HP.out HYS.out HTK.out)
      gi_wp2_with (refine ⟨trivial, ?_⟩; gi_at_call 44; refine (callsIn_wide.2 (asHolder _ _ _ _ _)).mono ?_; rintro e w1 ⟨⟨A, C, rfl, hv1⟩, hb1⟩; have HTR1 := Lib.hid (HTR.out.trans (.below (((Below.refl _ wr).alloc (Nat.le_refl _) (.cells #[.int .i64 p, .int .i64 q, .int .i64 r, .int .i64 s] 64)).trans (hb1.mono (by simp))))); have HLO1 := Lib.hid (HLO.out.trans ((((Below.refl _ wr).alloc (Nat.le_refl _) (.cells #[.int .i64 p, .int .i64 q, .int .i64 r, .int .i64 s] 64)).trans (hb1.mono (by simp))).mono HLO.out.size)); have HJ1 := Lib.hid (HJJ.out.below HJ0.out (((Below.refl _ wr).alloc (Nat.le_refl _) (.cells #[.int .i64 p, .int .i64 q, .int .i64 r, .int .i64 s] 64)).trans (hb1.mono (by simp)))); have HPZ := Lib.hid (HPX.out ⟨rwH [p, q, r, s], A, C⟩ rfl); obtain ⟨fn, tmps, assign, body, hy, hRd⟩ := HYY.out _ ⟨rwH [p, q, r, s], A, C⟩ w1 HJ1.out HPZ.out.1 hv1; replace hy : (Instr.yield l #[.agg #[.int .i64 1, .int .i64 p, .int .i64 0, .slice A 3 C]]).run Try.prog w1 = .ok (.round l fn tmps assign body) w1 := hy; clear hb1 hv1)
      refine (roundIn_wide hRd).mono ?_
      rintro e W3 ⟨⟨rfl, hJ3⟩ | ⟨rfl, hJx3⟩, ht3⟩
      · have HTR3 := Lib.hid (HTR1.out.trans ht3)
        have HJ3 := Lib.hid (show J (pre ++ (ys ++ [⟨rwH [p, q, r, s], A, C⟩])) W3 by rw [← List.append_assoc]; exact hJ3)
        clear hJ3 ht3 hy hRd
        gi_wp2
        go_roundw
        case rel => exact ⟨i + 1, _, by go_num, hlt, HPZ.out.2, HJ3.out, HTR3.out⟩
        case measure => simp [intOf]; omega
      · have HTR3 := Lib.hid (HTR1.out.trans ht3)
        have HJ3 := Lib.hid (show Jx (pre ++ (ys ++ [⟨rwH [p, q, r, s], A, C⟩])) W3 by rw [← List.append_assoc]; exact hJx3)
        clear hJx3 ht3 hy hRd
        gi_wp2
        go_ret
        exact ⟨HTR3.out, .inr ⟨rfl, _, HJ3.out⟩⟩
    · have HYE := Lib.hid (show ys.map RowV.r = L.map rwH by rw [HYS.out, List.take_of_length_le (by omega)])
      gi_wp2
      go_ret
      exact ⟨HTR.out, .inl ⟨rfl, ys, HYE.out, HJ0.out⟩⟩
set_option maxRecDepth 100000 in
set_option maxHeartbeats 8000000 in
theorem asStake (p q r : Int) (w : World) :
    Calls Try.prog 46 #[.agg #[.int .i64 p, .int .i64 q, .int .i64 r]] w fun e w' => (∃ A c, e = .returned (.agg #[.int .i64 2, .int .i64 p, .int .i64 q, .slice A 1 c]) ∧ ValAt w' A [r]) ∧ Below w.heap.size w w' := by
  go_enter Try.func46, Try.ntmps46
  go_wp2
  refine ret_cell (cs := #[.int .i64 2, .int .i64 p, .int .i64 q, .slice (some ⟨w.heap.size + 1 + 1, 0, none⟩) 1 1]) rfl rfl rfl three_alloc.2.1 Try.underlying54 rfl infoRow ?_
  refine ⟨⟨_, _, rfl, .inr ⟨_, 0, _, rfl, three_alloc.2.2.1, fun i z hz => ?_⟩⟩, three_alloc.2.2.2⟩
  rw [Nat.zero_add]
  exact vals_at [r] i z hz
set_option maxRecDepth 100000 in
set_option maxHeartbeats 8000000 in
theorem eachStake (l : Nat) (R : Nat → Obj → Prop) (FULL : List RowT) (J Jx : List RowV → World → Prop) (HJ : BearsK (fun _ _ => False) J) (HJx : BearsK (fun _ _ => False) Jx) (HY : YieldRow l R FULL J Jx)
    (V : World) (a : Option Addr) (c : Nat) (L : List Item) (hr : RowsOf 3 V a L) (hk : ItemsOk 3 2000 L) (pre : List RowV) (hpre : ∃ s, pre.map RowV.r ++ L.map rwS ++ s = FULL) (hl : V.heap.size ≤ l) (hR : ∀ k o, R k o → V.heap.size ≤ k)
    (W : World) (hV : Below V.heap.size V W) (h0 : J pre W) :
    Calls Try.prog 45 #[.slice a L.length c, .func (.yield l) #[] #[], .func (.func 46) #[] #[]] W fun e W' => TurnsK (TLR l R) W W' ∧ ((e = .returned (.bool true) ∧ ∃ ys, ys.map RowV.r = L.map rwS ∧ J (pre ++ ys) W') ∨ (e = .returned (.bool false) ∧ ∃ ys, Jx (pre ++ ys) W')) := by
  refine (callsIn_wide (n := 10)).1 ?_
  have HROW := Lib.hid hr
  have hkl := hk.1
  have HK := Lib.hid hk.2
  have HP := Lib.hid hpre
  have H0 := Lib.hid h0
  have HYY := Lib.hid HY
  have HJJ := Lib.hid HJ
  have HJX := Lib.hid HJx
  have HL := Lib.hid hl
  have HRR := Lib.hid hR
  have HV := Lib.hid hV
  clear hr hk hpre h0 HY HJ HJx hl hR hV
  refine callsIn_of_wp Try.func45 rfl trivial ?_ rfl
  simp only [Try.ntmps45, List.size_toArray, List.length_cons, List.length_nil, Nat.reduceAdd, Nat.reduceSub, Array.replicate_succ, Array.replicate_zero, List.push_toArray, List.append_toArray, List.nil_append, List.cons_append]
  gi_wp2
  gi_loopw [11] (fun vi W' => ∃ (i : Nat) (ys : List RowV), vi = .int .i64 (i : Int) ∧ i ≤ L.length ∧ ys.map RowV.r = (L.take i).map rwS ∧ J (pre ++ ys) W' ∧ TurnsK (TLR l R) W W') (fun vi _ => L.length - (intOf vi).toNat)
  case atStart => exact ⟨0, [], rfl, Nat.zero_le _, rfl, by rw [List.append_nil]; exact H0.out, TurnsK.refl _ _⟩
  case round =>
    obtain ⟨i, ys, rfl, hi, hys, hj, hb⟩ := hrel
    have HTR := Lib.hid hb
    have HLO := Lib.hid (lo_round HV.out HL.out HRR.out hb)
    have HYS := Lib.hid hys
    have HJ0 := Lib.hid hj
    clear hb hys hj
    by_cases hlt : i < L.length
    · obtain ⟨x, hx⟩ : ∃ x, L[i]? = some x := ⟨L[i], by simp [hlt]⟩
      obtain ⟨b0, off, rfl, hb0, hcs⟩ := HROW.out.at hx
      obtain ⟨p, q, r, rfl⟩ := item3 (HK.out _ (List.mem_of_getElem? hx)).1
      have HCS := Lib.hid hcs
      have HTK := Lib.hid (take_one hx)
      clear hcs hx
      have k0 := HCS.out wr HLO.out 0 p rfl
      have k1 := HCS.out wr HLO.out 1 q rfl
      have k2 := HCS.out wr HLO.out 2 r rfl
      rw [Nat.add_zero] at k0
      have HPX := Lib.hid (pre_next HP.out HYS.out HTK.out)
      gi_wp2_with (refine ⟨trivial, ?_⟩; gi_at_call 46; refine (callsIn_wide.2 (asStake _ _ _ _)).mono ?_; rintro e w1 ⟨⟨A, C, rfl, hv1⟩, hb1⟩; have HTR1 := Lib.hid (HTR.out.trans (.below (((Below.refl _ wr).alloc (Nat.le_refl _) (.cells #[.int .i64 p, .int .i64 q, .int .i64 r] 66)).trans (hb1.mono (by simp))))); have HLO1 := Lib.hid (HLO.out.trans ((((Below.refl _ wr).alloc (Nat.le_refl _) (.cells #[.int .i64 p, .int .i64 q, .int .i64 r] 66)).trans (hb1.mono (by simp))).mono HLO.out.size)); have HJ1 := Lib.hid (HJJ.out.below HJ0.out (((Below.refl _ wr).alloc (Nat.le_refl _) (.cells #[.int .i64 p, .int .i64 q, .int .i64 r] 66)).trans (hb1.mono (by simp)))); have HPZ := Lib.hid (HPX.out ⟨rwS [p, q, r], A, C⟩ rfl); obtain ⟨fn, tmps, assign, body, hy, hRd⟩ := HYY.out _ ⟨rwS [p, q, r], A, C⟩ w1 HJ1.out HPZ.out.1 hv1; replace hy : (Instr.yield l #[.agg #[.int .i64 2, .int .i64 p, .int .i64 q, .slice A 1 C]]).run Try.prog w1 = .ok (.round l fn tmps assign body) w1 := hy; clear hb1 hv1)
      refine (roundIn_wide hRd).mono ?_
      rintro e W3 ⟨⟨rfl, hJ3⟩ | ⟨rfl, hJx3⟩, ht3⟩
      · have HTR3 := Lib.hid (HTR1.out.trans ht3)
        have HJ3 := Lib.hid (show J (pre ++ (ys ++ [⟨rwS [p, q, r], A, C⟩])) W3 by rw [← List.append_assoc]; exact hJ3)
        clear hJ3 ht3 hy hRd
        gi_wp2
        go_roundw
        case rel => exact ⟨i + 1, _, by go_num, hlt, HPZ.out.2, HJ3.out, HTR3.out⟩
        case measure => simp [intOf]; omega
      · have HTR3 := Lib.hid (HTR1.out.trans ht3)
        have HJ3 := Lib.hid (show Jx (pre ++ (ys ++ [⟨rwS [p, q, r], A, C⟩])) W3 by rw [← List.append_assoc]; exact hJx3)
        clear hJx3 ht3 hy hRd
        gi_wp2
        go_ret
        exact ⟨HTR3.out, .inr ⟨rfl, _, HJ3.out⟩⟩
    · have HYE := Lib.hid (show ys.map RowV.r = L.map rwS by rw [HYS.out, List.take_of_length_le (by omega)])
      gi_wp2
      go_ret
      exact ⟨HTR.out, .inl ⟨rfl, ys, HYE.out, HJ0.out⟩⟩
set_option maxRecDepth 100000 in
set_option maxHeartbeats 8000000 in
theorem asOpen (p q r s t u : Int) (w : World) :
    Calls Try.prog 48 #[.agg #[.int .i64 p, .int .i64 q, .int .i64 r, .int .i64 s, .int .i64 t, .int .i64 u]] w fun e w' => (∃ A c, e = .returned (.agg #[.int .i64 3, .int .i64 p, .int .i64 0, .slice A 5 c]) ∧ ValAt w' A [q, r, s, t, u]) ∧ Below w.heap.size w w' := by
  go_enter Try.func48, Try.ntmps48
  go_wp2
  refine ret_cell (cs := #[.int .i64 3, .int .i64 p, .int .i64 0, .slice (some ⟨w.heap.size + 1 + 1, 0, none⟩) 5 5]) rfl rfl rfl three_alloc.2.1 Try.underlying54 rfl infoRow ?_
  refine ⟨⟨_, _, rfl, .inr ⟨_, 0, _, rfl, three_alloc.2.2.1, fun i z hz => ?_⟩⟩, three_alloc.2.2.2⟩
  rw [Nat.zero_add]
  exact vals_at [q, r, s, t, u] i z hz
set_option maxRecDepth 100000 in
set_option maxHeartbeats 8000000 in
theorem eachOpen (l : Nat) (R : Nat → Obj → Prop) (FULL : List RowT) (J Jx : List RowV → World → Prop) (HJ : BearsK (fun _ _ => False) J) (HJx : BearsK (fun _ _ => False) Jx) (HY : YieldRow l R FULL J Jx)
    (V : World) (a : Option Addr) (c : Nat) (L : List Item) (hr : RowsOf 6 V a L) (hk : ItemsOk 6 2000 L) (pre : List RowV) (hpre : ∃ s, pre.map RowV.r ++ L.map rwO ++ s = FULL) (hl : V.heap.size ≤ l) (hR : ∀ k o, R k o → V.heap.size ≤ k)
    (W : World) (hV : Below V.heap.size V W) (h0 : J pre W) :
    Calls Try.prog 47 #[.slice a L.length c, .func (.yield l) #[] #[], .func (.func 48) #[] #[]] W fun e W' => TurnsK (TLR l R) W W' ∧ ((e = .returned (.bool true) ∧ ∃ ys, ys.map RowV.r = L.map rwO ∧ J (pre ++ ys) W') ∨ (e = .returned (.bool false) ∧ ∃ ys, Jx (pre ++ ys) W')) := by
  refine (callsIn_wide (n := 10)).1 ?_
  have HROW := Lib.hid hr
  have hkl := hk.1
  have HK := Lib.hid hk.2
  have HP := Lib.hid hpre
  have H0 := Lib.hid h0
  have HYY := Lib.hid HY
  have HJJ := Lib.hid HJ
  have HJX := Lib.hid HJx
  have HL := Lib.hid hl
  have HRR := Lib.hid hR
  have HV := Lib.hid hV
  clear hr hk hpre h0 HY HJ HJx hl hR hV
  refine callsIn_of_wp Try.func47 rfl trivial ?_ rfl
  simp only [Try.ntmps47, List.size_toArray, List.length_cons, List.length_nil, Nat.reduceAdd, Nat.reduceSub, Array.replicate_succ, Array.replicate_zero, List.push_toArray, List.append_toArray, List.nil_append, List.cons_append]
  gi_wp2
  gi_loopw [11] (fun vi W' => ∃ (i : Nat) (ys : List RowV), vi = .int .i64 (i : Int) ∧ i ≤ L.length ∧ ys.map RowV.r = (L.take i).map rwO ∧ J (pre ++ ys) W' ∧ TurnsK (TLR l R) W W') (fun vi _ => L.length - (intOf vi).toNat)
  case atStart => exact ⟨0, [], rfl, Nat.zero_le _, rfl, by rw [List.append_nil]; exact H0.out, TurnsK.refl _ _⟩
  case round =>
    obtain ⟨i, ys, rfl, hi, hys, hj, hb⟩ := hrel
    have HTR := Lib.hid hb
    have HLO := Lib.hid (lo_round HV.out HL.out HRR.out hb)
    have HYS := Lib.hid hys
    have HJ0 := Lib.hid hj
    clear hb hys hj
    by_cases hlt : i < L.length
    · obtain ⟨x, hx⟩ : ∃ x, L[i]? = some x := ⟨L[i], by simp [hlt]⟩
      obtain ⟨b0, off, rfl, hb0, hcs⟩ := HROW.out.at hx
      obtain ⟨p, q, r, s, t, u, rfl⟩ := item6 (HK.out _ (List.mem_of_getElem? hx)).1
      have HCS := Lib.hid hcs
      have HTK := Lib.hid (take_one hx)
      clear hcs hx
      have k0 := HCS.out wr HLO.out 0 p rfl
      have k1 := HCS.out wr HLO.out 1 q rfl
      have k2 := HCS.out wr HLO.out 2 r rfl
      have k3 := HCS.out wr HLO.out 3 s rfl
      have k4 := HCS.out wr HLO.out 4 t rfl
      have k5 := HCS.out wr HLO.out 5 u rfl
      rw [Nat.add_zero] at k0
      have HPX := Lib.hid (pre_next HP.out HYS.out HTK.out)
      gi_wp2_with (refine ⟨trivial, ?_⟩; gi_at_call 48; refine (callsIn_wide.2 (asOpen _ _ _ _ _ _ _)).mono ?_; rintro e w1 ⟨⟨A, C, rfl, hv1⟩, hb1⟩; have HTR1 := Lib.hid (HTR.out.trans (.below (((Below.refl _ wr).alloc (Nat.le_refl _) (.cells #[.int .i64 p, .int .i64 q, .int .i64 r, .int .i64 s, .int .i64 t, .int .i64 u] 69)).trans (hb1.mono (by simp))))); have HLO1 := Lib.hid (HLO.out.trans ((((Below.refl _ wr).alloc (Nat.le_refl _) (.cells #[.int .i64 p, .int .i64 q, .int .i64 r, .int .i64 s, .int .i64 t, .int .i64 u] 69)).trans (hb1.mono (by simp))).mono HLO.out.size)); have HJ1 := Lib.hid (HJJ.out.below HJ0.out (((Below.refl _ wr).alloc (Nat.le_refl _) (.cells #[.int .i64 p, .int .i64 q, .int .i64 r, .int .i64 s, .int .i64 t, .int .i64 u] 69)).trans (hb1.mono (by simp)))); have HPZ := Lib.hid (HPX.out ⟨rwO [p, q, r, s, t, u], A, C⟩ rfl); obtain ⟨fn, tmps, assign, body, hy, hRd⟩ := HYY.out _ ⟨rwO [p, q, r, s, t, u], A, C⟩ w1 HJ1.out HPZ.out.1 hv1; replace hy : (Instr.yield l #[.agg #[.int .i64 3, .int .i64 p, .int .i64 0, .slice A 5 C]]).run Try.prog w1 = .ok (.round l fn tmps assign body) w1 := hy; clear hb1 hv1)
      refine (roundIn_wide hRd).mono ?_
      rintro e W3 ⟨⟨rfl, hJ3⟩ | ⟨rfl, hJx3⟩, ht3⟩
      · have HTR3 := Lib.hid (HTR1.out.trans ht3)
        have HJ3 := Lib.hid (show J (pre ++ (ys ++ [⟨rwO [p, q, r, s, t, u], A, C⟩])) W3 by rw [← List.append_assoc]; exact hJ3)
        clear hJ3 ht3 hy hRd
        gi_wp2
        go_roundw
        case rel => exact ⟨i + 1, _, by go_num, hlt, HPZ.out.2, HJ3.out, HTR3.out⟩
        case measure => simp [intOf]; omega
      · have HTR3 := Lib.hid (HTR1.out.trans ht3)
        have HJ3 := Lib.hid (show Jx (pre ++ (ys ++ [⟨rwO [p, q, r, s, t, u], A, C⟩])) W3 by rw [← List.append_assoc]; exact hJx3)
        clear hJx3 ht3 hy hRd
        gi_wp2
        go_ret
        exact ⟨HTR3.out, .inr ⟨rfl, _, HJ3.out⟩⟩
    · have HYE := Lib.hid (show ys.map RowV.r = L.map rwO by rw [HYS.out, List.take_of_length_le (by omega)])
      gi_wp2
      go_ret
      exact ⟨HTR.out, .inl ⟨rfl, ys, HYE.out, HJ0.out⟩⟩
set_option maxRecDepth 100000 in
set_option maxHeartbeats 8000000 in
theorem asRate (p q : Int) (w : World) :
    Calls Try.prog 50 #[.agg #[.int .i64 p, .int .i64 q]] w fun e w' => (∃ A c, e = .returned (.agg #[.int .i64 4, .int .i64 p, .int .i64 0, .slice A 1 c]) ∧ ValAt w' A [q]) ∧ Below w.heap.size w w' := by
  go_enter Try.func50, Try.ntmps50
  go_wp2
  refine ret_cell (cs := #[.int .i64 4, .int .i64 p, .int .i64 0, .slice (some ⟨w.heap.size + 1 + 1, 0, none⟩) 1 1]) rfl rfl rfl three_alloc.2.1 Try.underlying54 rfl infoRow ?_
  refine ⟨⟨_, _, rfl, .inr ⟨_, 0, _, rfl, three_alloc.2.2.1, fun i z hz => ?_⟩⟩, three_alloc.2.2.2⟩
  rw [Nat.zero_add]
  exact vals_at [q] i z hz
set_option maxRecDepth 100000 in
set_option maxHeartbeats 8000000 in
theorem eachRate (l : Nat) (R : Nat → Obj → Prop) (FULL : List RowT) (J Jx : List RowV → World → Prop) (HJ : BearsK (fun _ _ => False) J) (HJx : BearsK (fun _ _ => False) Jx) (HY : YieldRow l R FULL J Jx)
    (V : World) (a : Option Addr) (c : Nat) (L : List Item) (hr : RowsOf 2 V a L) (hk : ItemsOk 2 2000 L) (pre : List RowV) (hpre : ∃ s, pre.map RowV.r ++ L.map rwR ++ s = FULL) (hl : V.heap.size ≤ l) (hR : ∀ k o, R k o → V.heap.size ≤ k)
    (W : World) (hV : Below V.heap.size V W) (h0 : J pre W) :
    Calls Try.prog 49 #[.slice a L.length c, .func (.yield l) #[] #[], .func (.func 50) #[] #[]] W fun e W' => TurnsK (TLR l R) W W' ∧ ((e = .returned (.bool true) ∧ ∃ ys, ys.map RowV.r = L.map rwR ∧ J (pre ++ ys) W') ∨ (e = .returned (.bool false) ∧ ∃ ys, Jx (pre ++ ys) W')) := by
  refine (callsIn_wide (n := 10)).1 ?_
  have HROW := Lib.hid hr
  have hkl := hk.1
  have HK := Lib.hid hk.2
  have HP := Lib.hid hpre
  have H0 := Lib.hid h0
  have HYY := Lib.hid HY
  have HJJ := Lib.hid HJ
  have HJX := Lib.hid HJx
  have HL := Lib.hid hl
  have HRR := Lib.hid hR
  have HV := Lib.hid hV
  clear hr hk hpre h0 HY HJ HJx hl hR hV
  refine callsIn_of_wp Try.func49 rfl trivial ?_ rfl
  simp only [Try.ntmps49, List.size_toArray, List.length_cons, List.length_nil, Nat.reduceAdd, Nat.reduceSub, Array.replicate_succ, Array.replicate_zero, List.push_toArray, List.append_toArray, List.nil_append, List.cons_append]
  gi_wp2
  gi_loopw [11] (fun vi W' => ∃ (i : Nat) (ys : List RowV), vi = .int .i64 (i : Int) ∧ i ≤ L.length ∧ ys.map RowV.r = (L.take i).map rwR ∧ J (pre ++ ys) W' ∧ TurnsK (TLR l R) W W') (fun vi _ => L.length - (intOf vi).toNat)
  case atStart => exact ⟨0, [], rfl, Nat.zero_le _, rfl, by rw [List.append_nil]; exact H0.out, TurnsK.refl _ _⟩
  case round =>
    obtain ⟨i, ys, rfl, hi, hys, hj, hb⟩ := hrel
    have HTR := Lib.hid hb
    have HLO := Lib.hid (lo_round HV.out HL.out HRR.out hb)
    have HYS := Lib.hid hys
    have HJ0 := Lib.hid hj
    clear hb hys hj
    by_cases hlt : i < L.length
    · obtain ⟨x, hx⟩ : ∃ x, L[i]? = some x := ⟨L[i], by simp [hlt]⟩
      obtain ⟨b0, off, rfl, hb0, hcs⟩ := HROW.out.at hx
      obtain ⟨p, q, rfl⟩ := item2 (HK.out _ (List.mem_of_getElem? hx)).1
      have HCS := Lib.hid hcs
      have HTK := Lib.hid (take_one hx)
      clear hcs hx
      have k0 := HCS.out wr HLO.out 0 p rfl
      have k1 := HCS.out wr HLO.out 1 q rfl
      rw [Nat.add_zero] at k0
      have HPX := Lib.hid (pre_next HP.out HYS.out HTK.out)
      gi_wp2_with (refine ⟨trivial, ?_⟩; gi_at_call 50; refine (callsIn_wide.2 (asRate _ _ _)).mono ?_; rintro e w1 ⟨⟨A, C, rfl, hv1⟩, hb1⟩; have HTR1 := Lib.hid (HTR.out.trans (.below (((Below.refl _ wr).alloc (Nat.le_refl _) (.cells #[.int .i64 p, .int .i64 q] 44)).trans (hb1.mono (by simp))))); have HLO1 := Lib.hid (HLO.out.trans ((((Below.refl _ wr).alloc (Nat.le_refl _) (.cells #[.int .i64 p, .int .i64 q] 44)).trans (hb1.mono (by simp))).mono HLO.out.size)); have HJ1 := Lib.hid (HJJ.out.below HJ0.out (((Below.refl _ wr).alloc (Nat.le_refl _) (.cells #[.int .i64 p, .int .i64 q] 44)).trans (hb1.mono (by simp)))); have HPZ := Lib.hid (HPX.out ⟨rwR [p, q], A, C⟩ rfl); obtain ⟨fn, tmps, assign, body, hy, hRd⟩ := HYY.out _ ⟨rwR [p, q], A, C⟩ w1 HJ1.out HPZ.out.1 hv1; replace hy : (Instr.yield l #[.agg #[.int .i64 4, .int .i64 p, .int .i64 0, .slice A 1 C]]).run Try.prog w1 = .ok (.round l fn tmps assign body) w1 := hy; clear hb1 hv1)
      refine (roundIn_wide hRd).mono ?_
      rintro e W3 ⟨⟨rfl, hJ3⟩ | ⟨rfl, hJx3⟩, ht3⟩
      · have HTR3 := Lib.hid (HTR1.out.trans ht3)
        have HJ3 := Lib.hid (show J (pre ++ (ys ++ [⟨rwR [p, q], A, C⟩])) W3 by rw [← List.append_assoc]; exact hJ3)
        clear hJ3 ht3 hy hRd
        gi_wp2
        go_roundw
        case rel => exact ⟨i + 1, _, by go_num, hlt, HPZ.out.2, HJ3.out, HTR3.out⟩
        case measure => simp [intOf]; omega
      · have HTR3 := Lib.hid (HTR1.out.trans ht3)
        have HJ3 := Lib.hid (show Jx (pre ++ (ys ++ [⟨rwR [p, q], A, C⟩])) W3 by rw [← List.append_assoc]; exact hJx3)
        clear hJx3 ht3 hy hRd
        gi_wp2
        go_ret
        exact ⟨HTR3.out, .inr ⟨rfl, _, HJ3.out⟩⟩
    · have HYE := Lib.hid (show ys.map RowV.r = L.map rwR by rw [HYS.out, List.take_of_length_le (by omega)])
      gi_wp2
      go_ret
      exact ⟨HTR.out, .inl ⟨rfl, ys, HYE.out, HJ0.out⟩⟩
end Go.Proofs.Ytellifcjamedkaa
