/- Keys that are compared: the program's contracts. A list's things as rows, told at a yield: the program's contracts. A book's things as rows, told by an iterator: the program's contract. Rows and changes that are being made, as the program has them. -/
import Derived.Test.YtellifcjamedkaaGreatMQa
import Derived.Test.YtellifcjamedkaaGreatMRa
import Derived.Test.YtellifcjamedkaaGreatKRange
import Derived.Test.YtellifcjamedkaaGreatMRd
namespace Go.Proofs.YtellifcjamedkaaGreat
open Go.RowKit Base Base2
theorem infoKey : (Tryz.prog.info? 56).map (·.size) = some (#[Value.int .i64 0, .int .i64 0, .int .i64 0] : Array Value).size := by kernel_rfl
/-- By three numbers. -/
def cmpK (l a b m c d : Int) : Int := if cmpI l m = 0 then (if cmpI a c = 0 then cmpI b d else cmpI a c) else cmpI l m
theorem cmpK_1 {l a b m c d Z : Int} (h : cmpI l m = Z) (hz : Z ≠ 0) : cmpK l a b m c d = Z := by unfold cmpK; rw [h, if_neg hz]
theorem cmpK_2 {l a b m c d Z : Int} (h1 : cmpI l m = 0) (h : cmpI a c = Z) (hz : Z ≠ 0) : cmpK l a b m c d = Z := by unfold cmpK; rw [if_pos h1, h, if_neg hz]
theorem cmpK_3 {l a b m c d Z : Int} (h1 : cmpI l m = 0) (h2 : cmpI a c = 0) (h : cmpI b d = Z) : cmpK l a b m c d = Z := by unfold cmpK; rw [if_pos h1, if_pos h2, h]
theorem cmpK_neg {l a b m c d : Int} : cmpK l a b m c d < 0 ↔ lessD l a b m c d = true := by
  rw [lessD_iff]
  unfold cmpK
  split
  · rename_i h1
    rw [cmpI_zero] at h1
    split
    · rename_i h2
      rw [cmpI_zero] at h2
      rw [cmpI_neg]; omega
    · rename_i h2
      rw [cmpI_zero] at h2
      rw [cmpI_neg]; omega
  · rename_i h1
    rw [cmpI_zero] at h1
    rw [cmpI_neg]; omega
theorem cmpK_zero {l a b m c d : Int} : cmpK l a b m c d = 0 ↔ l = m ∧ a = c ∧ b = d := by
  unfold cmpK
  split
  · rename_i h1
    rw [cmpI_zero] at h1
    split
    · rename_i h2
      rw [cmpI_zero] at h2
      rw [cmpI_zero]; omega
    · rename_i h2
      have h3 := h2
      rw [cmpI_zero] at h3
      omega
  · rename_i h1
    have h3 := h1
    rw [cmpI_zero] at h3
    omega
set_option maxRecDepth 100000 in
set_option maxHeartbeats 4000000 in
theorem compareS (g h : Nat) (l a b m c d : Int) (w : World) (g0 : w.cell? ⟨g, 0, none⟩ = some (.int .i64 l)) (g1 : w.cell? ⟨g, 1, none⟩ = some (.int .i64 a)) (g2 : w.cell? ⟨g, 2, none⟩ = some (.int .i64 b)) (h0 : w.cell? ⟨h, 0, none⟩ = some (.int .i64 m)) (h1 : w.cell? ⟨h, 1, none⟩ = some (.int .i64 c)) (h2 : w.cell? ⟨h, 2, none⟩ = some (.int .i64 d)) :
    Calls Tryz.prog 93 #[.slice (some ⟨g, 0, none⟩) 3 3, .slice (some ⟨h, 0, none⟩) 3 3] w fun e w' => e = .returned (.int .i64 (cmpK l a b m c d)) ∧ w' = w := by
  obtain ⟨R, hR⟩ : ∃ R, cmpK l a b m c d = R := ⟨_, rfl⟩
  have HR := Lib.hid hR
  rw [hR]
  clear hR
  go_enter Tryz.func93, Tryz.ntmps93
  go_wp2
  go_loopw [11] (fun vi W => ∃ i : Nat, vi = .int .i64 (i : Int) ∧ i ≤ 3 ∧ ((1 ≤ i → cmpI l m = 0) ∧ (2 ≤ i → cmpI a c = 0) ∧ (3 ≤ i → cmpI b d = 0)) ∧ W = w) (fun vi _ => 3 - (intOf vi).toNat)
  case atStart => exact ⟨0, rfl, by omega, ⟨by omega, by omega, by omega⟩, rfl⟩
  case round =>
    obtain ⟨i, rfl, hi, he, rfl⟩ := hrel
    have HE := Lib.hid he
    clear he
    by_cases e0 : i = 0
    · subst e0
      obtain ⟨Z, hZ⟩ : ∃ zz, cmpI l m = zz := ⟨_, rfl⟩
      have HC := Lib.hid (fun W => compare79 l m W)
      rw [hZ] at HC
      by_cases hz : Z = 0
      · subst hz
        have HQ := Lib.hid hZ
        clear hZ
        go_wp2_with (go_at_call 95; refine (HC.out _).mono ?_; rintro e y ⟨rfl, rfl⟩)
        go_roundw
        case rel => exact ⟨1, by go_num, by omega, ⟨fun _ => HQ.out, fun h => absurd h (by omega), fun h => absurd h (by omega)⟩, by trivial⟩
        case measure => simp [intOf]
      · have HQ := Lib.hid (show R = Z by rw [← HR.out]; exact cmpK_1 hZ hz)
        have g : (Z != 0) = true := by simpa using hz
        clear hZ hz
        go_wp2_with (go_at_call 95; refine (HC.out _).mono ?_; rintro e y ⟨rfl, rfl⟩)
        go_ret
        exact ⟨ret_int HQ.out.symm, rfl⟩
    · by_cases e1 : i = 1
      · subst e1
        obtain ⟨Z, hZ⟩ : ∃ zz, cmpI a c = zz := ⟨_, rfl⟩
        have HC := Lib.hid (fun W => compare79 a c W)
        rw [hZ] at HC
        by_cases hz : Z = 0
        · subst hz
          have HQ := Lib.hid hZ
          clear hZ
          go_wp2_with (go_at_call 95; refine (HC.out _).mono ?_; rintro e y ⟨rfl, rfl⟩)
          go_roundw
          case rel => exact ⟨2, by go_num, by omega, ⟨fun _ => HE.out.1 (by omega), fun _ => HQ.out, fun h => absurd h (by omega)⟩, by trivial⟩
          case measure => simp [intOf]
        · have HQ := Lib.hid (show R = Z by rw [← HR.out]; exact cmpK_2 (HE.out.1 (by omega)) hZ hz)
          have g : (Z != 0) = true := by simpa using hz
          clear hZ hz
          go_wp2_with (go_at_call 95; refine (HC.out _).mono ?_; rintro e y ⟨rfl, rfl⟩)
          go_ret
          exact ⟨ret_int HQ.out.symm, rfl⟩
      · by_cases e2 : i = 2
        · subst e2
          obtain ⟨Z, hZ⟩ : ∃ zz, cmpI b d = zz := ⟨_, rfl⟩
          have HC := Lib.hid (fun W => compare79 b d W)
          rw [hZ] at HC
          by_cases hz : Z = 0
          · subst hz
            have HQ := Lib.hid hZ
            clear hZ
            go_wp2_with (go_at_call 95; refine (HC.out _).mono ?_; rintro e y ⟨rfl, rfl⟩)
            go_roundw
            case rel => exact ⟨3, by go_num, by omega, ⟨fun _ => HE.out.1 (by omega), fun _ => HE.out.2.1 (by omega), fun _ => HQ.out⟩, by trivial⟩
            case measure => simp [intOf]
          · have HQ := Lib.hid (show R = Z by rw [← HR.out]; exact cmpK_3 (HE.out.1 (by omega)) (HE.out.2.1 (by omega)) hZ)
            have g : (Z != 0) = true := by simpa using hz
            clear hZ hz
            go_wp2_with (go_at_call 95; refine (HC.out _).mono ?_; rintro e y ⟨rfl, rfl⟩)
            go_ret
            exact ⟨ret_int HQ.out.symm, rfl⟩
        · have e3 : i = 3 := by omega
          subst e3
          have HQ := Lib.hid (show R = 0 by rw [← HR.out]; exact cmpK_3 (HE.out.1 (by omega)) (HE.out.2.1 (by omega)) (HE.out.2.2 (by omega)))
          go_wp2
          go_ret
          exact ⟨ret_int HQ.out.symm, rfl⟩
set_option maxRecDepth 100000 in
set_option maxHeartbeats 4000000 in
theorem compareD (l a b m c d : Int) (w : World) :
    Calls Tryz.prog 42 #[.agg #[.int .i64 l, .int .i64 a, .int .i64 b], .agg #[.int .i64 m, .int .i64 c, .int .i64 d]] w fun e w' => e = .returned (.int .i64 (cmpK l a b m c d)) ∧ Below w.heap.size w w' := by
  have hb : Below w.heap.size w ((w.alloc (.cells #[.int .i64 l, .int .i64 a, .int .i64 b] 56)).alloc (.cells #[.int .i64 m, .int .i64 c, .int .i64 d] 56)) := ((Below.refl _ w).alloc (Nat.le_refl _) _).alloc (by simp) _
  have HB := Lib.hid hb
  have h1 : ((w.alloc (.cells #[.int .i64 l, .int .i64 a, .int .i64 b] 56)).alloc (.cells #[.int .i64 m, .int .i64 c, .int .i64 d] 56)).heap[w.heap.size]? = some (.cells #[.int .i64 l, .int .i64 a, .int .i64 b] 56 (0, 0)) := (Below.heap_alloc _ _ _ (by simp)).trans (heap_alloc_new w _)
  have h2 : ((w.alloc (.cells #[.int .i64 l, .int .i64 a, .int .i64 b] 56)).alloc (.cells #[.int .i64 m, .int .i64 c, .int .i64 d] 56)).heap[w.heap.size + 1]? = some (.cells #[.int .i64 m, .int .i64 c, .int .i64 d] 56 (0, 0)) := by
    have h := heap_alloc_new (w.alloc (.cells #[.int .i64 l, .int .i64 a, .int .i64 b] 56)) (.cells #[.int .i64 m, .int .i64 c, .int .i64 d] 56)
    rw [World.size_alloc] at h
    exact h
  have HC := Lib.hid (fun (W : World) (k1 : W.heap[w.heap.size]? = some (.cells #[.int .i64 l, .int .i64 a, .int .i64 b] 56 (0, 0))) (k2 : W.heap[w.heap.size + 1]? = some (.cells #[.int .i64 m, .int .i64 c, .int .i64 d] 56 (0, 0))) => compareS w.heap.size (w.heap.size + 1) l a b m c d W (by rw [cell_of_row _ _ _ _ _ _ k1]; rfl) (by rw [cell_of_row _ _ _ _ _ _ k1]; rfl) (by rw [cell_of_row _ _ _ _ _ _ k1]; rfl) (by rw [cell_of_row _ _ _ _ _ _ k2]; rfl) (by rw [cell_of_row _ _ _ _ _ _ k2]; rfl) (by rw [cell_of_row _ _ _ _ _ _ k2]; rfl))
  have H1 := Lib.hid h1
  have H2 := Lib.hid h2
  clear hb h1 h2
  go_enter Tryz.func42, Tryz.ntmps42
  go_wp2
  go_quiet ((go_at_call 93; exact Calls.quiet_of_same (HC.out _ (by exact H1.out) (by exact H2.out))))
  go_wp2
  go_ret
  exact ⟨rfl, below_drewN' HB.out nq⟩
set_option maxRecDepth 100000 in
set_option maxHeartbeats 4000000 in
theorem atRow (l a b : Int) (A : Option Addr) (n c : Nat) (w : World) :
    Calls Tryz.prog 119 #[.agg #[.int .i64 l, .int .i64 a, .int .i64 b, .slice A n c]] w fun e w' => e = .returned (.agg #[.int .i64 l, .int .i64 a, .int .i64 b]) ∧ Below w.heap.size w w' := by
  go_enter Tryz.func119, Tryz.ntmps119
  go_wp2
  refine ret_cell rfl rfl rfl two_new.2 Tryz.underlying56 rfl infoKey ?_
  exact ⟨rfl, (((Below.refl _ w).alloc (Nat.le_refl _) _).alloc (by simp) _)⟩
set_option maxRecDepth 100000 in
set_option maxHeartbeats 4000000 in
theorem atCh (l a b : Int) (A : Option Addr) (n c : Nat) (B : Option Addr) (m d : Nat) (w : World) :
    Calls Tryz.prog 24 #[.agg #[.int .i64 l, .int .i64 a, .int .i64 b, .slice A n c, .slice B m d]] w fun e w' => e = .returned (.agg #[.int .i64 l, .int .i64 a, .int .i64 b]) ∧ Below w.heap.size w w' := by
  go_enter Tryz.func24, Tryz.ntmps24
  go_wp2
  refine ret_cell rfl rfl rfl two_new.2 Tryz.underlying56 rfl infoKey ?_
  exact ⟨rfl, (((Below.refl _ w).alloc (Nat.le_refl _) _).alloc (by simp) _)⟩
end Go.Proofs.YtellifcjamedkaaGreat
namespace Go.Proofs.YtellifcjamedkaaGreat
open Go.RowKit Go.Shelf Base Base2
attribute [local go_sem] Oper.semAt_some
/-- What a loop's rounds promise an iterator of rows. -/
theorem vals_at (v : List Int) (i : Nat) (z : Int) (h : v[i]? = some z) : ((v.map (Value.int .i64)).toArray)[i]? = some (.int .i64 z) := by simp [h]
theorem pre_next {pre ys : List RowV} {L : List Item} {rw_ : Item → RowT} {FULL : List RowT} {i : Nat} {x : Item} (hp : ∃ s, pre.map RowV.r ++ L.map rw_ ++ s = FULL) (hy : ys.map RowV.r = (L.take i).map rw_) (ht : L.take (i + 1) = L.take i ++ [x]) (z : RowV) (hz : z.r = rw_ x) : (∃ s, (pre ++ ys ++ [z]).map RowV.r ++ s = FULL) ∧ (ys ++ [z]).map RowV.r = (L.take (i + 1)).map rw_ := by
  have e : (ys ++ [z]).map RowV.r = (L.take (i + 1)).map rw_ := by rw [List.map_append, hy, ht, List.map_append, List.map_singleton, List.map_singleton, hz]
  obtain ⟨s, hs⟩ := hp
  refine ⟨⟨(L.drop (i + 1)).map rw_ ++ s, ?_⟩, e⟩
  rw [List.append_assoc, List.map_append, e, ← hs]
  have h2 : L.map rw_ = (L.take (i + 1)).map rw_ ++ (L.drop (i + 1)).map rw_ := by rw [← List.map_append, List.take_append_drop]
  rw [h2]
  simp only [List.append_assoc]
def YieldRow (l : Nat) (R : Nat → Obj → Prop) (FULL : List RowT) (J Jx : List RowV → World → Prop) : Prop :=
  ∀ pre x W, J pre W → (∃ s, (pre ++ [x]).map RowV.r ++ s = FULL) → ValAt W x.a x.r.v → YieldAt Fence.wide 0 Tryz.prog l #[.agg x.cells.toArray] W fun e W' =>
    ((e = .returned (.bool true) ∧ J (pre ++ [x]) W') ∨ (e = .returned (.bool false) ∧ Jx (pre ++ [x]) W')) ∧ TurnsK (TLR l R) W W'
theorem infoRow : (Tryz.prog.info? 58).map (·.size) = some 4 := by kernel_rfl
theorem lo_round {V W W' : World} {l : Nat} {R : Nat → Obj → Prop} (hV : Below V.heap.size V W) (hl : V.heap.size ≤ l) (hR : ∀ k o, R k o → V.heap.size ≤ k) (h : TurnsK (TLR l R) W W') : Below V.heap.size V W' :=
  hV.trans (h.lo hV.size (fun k o hk a => by rcases a with ⟨a, _⟩ | a; omega; have := hR k o a; omega))
set_option maxRecDepth 100000 in
set_option maxHeartbeats 8000000 in
theorem asHolder (p q r s : Int) (w : World) :
    Calls Tryz.prog 51 #[.agg #[.int .i64 p, .int .i64 q, .int .i64 r, .int .i64 s]] w fun e w' => (∃ A c, e = .returned (.agg #[.int .i64 1, .int .i64 p, .int .i64 0, .slice A 3 c]) ∧ ValAt w' A [q, r, s]) ∧ Below w.heap.size w w' := by
  go_enter Tryz.func51, Tryz.ntmps51
  go_wp2
  refine ret_cell (cs := #[.int .i64 1, .int .i64 p, .int .i64 0, .slice (some ⟨w.heap.size + 1 + 1, 0, none⟩) 3 3]) rfl rfl rfl three_alloc.2.1 Tryz.underlying58 rfl infoRow ?_
  refine ⟨⟨_, _, rfl, .inr ⟨_, 0, _, rfl, three_alloc.2.2.1, fun i z hz => ?_⟩⟩, three_alloc.2.2.2⟩
  rw [Nat.zero_add]
  exact vals_at [q, r, s] i z hz
set_option maxRecDepth 100000 in
set_option maxHeartbeats 8000000 in
theorem eachHolder (l : Nat) (R : Nat → Obj → Prop) (FULL : List RowT) (J Jx : List RowV → World → Prop) (HJ : BearsK (fun _ _ => False) J) (HJx : BearsK (fun _ _ => False) Jx) (HY : YieldRow l R FULL J Jx)
    (V : World) (a : Option Addr) (c : Nat) (L : List Item) (hr : RowsOf 4 V a L) (hk : ItemsOk 4 2000 L) (pre : List RowV) (hpre : ∃ s, pre.map RowV.r ++ L.map rwH ++ s = FULL) (hl : V.heap.size ≤ l) (hR : ∀ k o, R k o → V.heap.size ≤ k)
    (W : World) (hV : Below V.heap.size V W) (h0 : J pre W) :
    Calls Tryz.prog 50 #[.slice a L.length c, .func (.yield l) #[] #[], .func (.func 51) #[] #[]] W fun e W' => TurnsK (TLR l R) W W' ∧ ((e = .returned (.bool true) ∧ ∃ ys, ys.map RowV.r = L.map rwH ∧ J (pre ++ ys) W') ∨ (e = .returned (.bool false) ∧ ∃ ys, Jx (pre ++ ys) W')) := by
  refine (callsIn_wide (n := 10)).1 ?_
  have HROW := Lib.hid hr
  have hkl := hk.1
  have HK := Lib.hid hk.2
  have HP := Lib.hid hpre
  have H0 := Lib.hid h0
  have HYY := Lib.hid HY
  have HJJ := Lib.hid HJ
  have HJX := Lib.hid HJx
  have HL := Lib.hid hl
  have HRR := Lib.hid hR
  have HV := Lib.hid hV
  clear hr hk hpre h0 HY HJ HJx hl hR hV
  refine callsIn_of_wp Tryz.func50 rfl trivial ?_ rfl
  simp only [Tryz.ntmps50, List.size_toArray, List.length_cons, List.length_nil, Nat.reduceAdd, Nat.reduceSub, Array.replicate_succ, Array.replicate_zero, List.push_toArray, List.append_toArray, List.nil_append, List.cons_append]
  gi_wp2
  gi_loopw [11] (fun vi W' => ∃ (i : Nat) (ys : List RowV), vi = .int .i64 (i : Int) ∧ i ≤ L.length ∧ ys.map RowV.r = (L.take i).map rwH ∧ J (pre ++ ys) W' ∧ TurnsK (TLR l R) W W') (fun vi _ => L.length - (intOf vi).toNat)
  case atStart => exact ⟨0, [], rfl, Nat.zero_le _, rfl, by rw [List.append_nil]; exact H0.out, TurnsK.refl _ _⟩
  case round =>
    obtain ⟨i, ys, rfl, hi, hys, hj, hb⟩ := hrel
    have HTR := Lib.hid hb
    have HLO := Lib.hid (lo_round HV.out HL.out HRR.out hb)
    have HYS := Lib.hid hys
    have HJ0 := Lib.hid hj
    clear hb hys hj
    by_cases hlt : i < L.length
    · obtain ⟨x, hx⟩ : ∃ x, L[i]? = some x := ⟨L[i], by simp [hlt]⟩
      obtain ⟨b0, off, rfl, hb0, hcs⟩ := HROW.out.at hx
      obtain ⟨p, q, r, s, rfl⟩ := item4 (HK.out _ (List.mem_of_getElem? hx)).1
      have HCS := Lib.hid hcs
      have HTK := Lib.hid (take_one hx)
      clear hcs hx
      have k0 := HCS.out wr HLO.out 0 p rfl
      have k1 := HCS.out wr HLO.out 1 q rfl
      have k2 := HCS.out wr HLO.out 2 r rfl
      have k3 := HCS.out wr HLO.out 3 s rfl
      rw [Nat.add_zero] at k0
      have HPX := Lib.hid (pre_next HP.out HYS.out HTK.out)
      gi_wp2_with (refine ⟨trivial, ?_⟩; gi_at_call 51; refine (callsIn_wide.2 (asHolder _ _ _ _ _)).mono ?_; rintro e w1 ⟨⟨A, C, rfl, hv1⟩, hb1⟩; have HTR1 := Lib.hid (HTR.out.trans (.below (((Below.refl _ wr).alloc (Nat.le_refl _) (.cells #[.int .i64 p, .int .i64 q, .int .i64 r, .int .i64 s] 71)).trans (hb1.mono (by simp))))); have HLO1 := Lib.hid (HLO.out.trans ((((Below.refl _ wr).alloc (Nat.le_refl _) (.cells #[.int .i64 p, .int .i64 q, .int .i64 r, .int .i64 s] 71)).trans (hb1.mono (by simp))).mono HLO.out.size)); have HJ1 := Lib.hid (HJJ.out.below HJ0.out (((Below.refl _ wr).alloc (Nat.le_refl _) (.cells #[.int .i64 p, .int .i64 q, .int .i64 r, .int .i64 s] 71)).trans (hb1.mono (by simp)))); have HPZ := Lib.hid (HPX.out ⟨rwH [p, q, r, s], A, C⟩ rfl); obtain ⟨fn, tmps, assign, body, hy, hRd⟩ := HYY.out _ ⟨rwH [p, q, r, s], A, C⟩ w1 HJ1.out HPZ.out.1 hv1; replace hy : (Instr.yield l #[.agg #[.int .i64 1, .int .i64 p, .int .i64 0, .slice A 3 C]]).run Tryz.prog w1 = .ok (.round l fn tmps assign body) w1 := hy; clear hb1 hv1)
      refine (roundIn_wide hRd).mono ?_
      rintro e W3 ⟨⟨rfl, hJ3⟩ | ⟨rfl, hJx3⟩, ht3⟩
      · have HTR3 := Lib.hid (HTR1.out.trans ht3)
        have HJ3 := Lib.hid (show J (pre ++ (ys ++ [⟨rwH [p, q, r, s], A, C⟩])) W3 by rw [← List.append_assoc]; exact hJ3)
        clear hJ3 ht3 hy hRd
        gi_wp2
        go_roundw
        case rel => exact ⟨i + 1, _, by go_num, hlt, HPZ.out.2, HJ3.out, HTR3.out⟩
        case measure => simp [intOf]; omega
      · have HTR3 := Lib.hid (HTR1.out.trans ht3)
        have HJ3 := Lib.hid (show Jx (pre ++ (ys ++ [⟨rwH [p, q, r, s], A, C⟩])) W3 by rw [← List.append_assoc]; exact hJx3)
        clear hJx3 ht3 hy hRd
        gi_wp2
        go_ret
        exact ⟨HTR3.out, .inr ⟨rfl, _, HJ3.out⟩⟩
    · have HYE := Lib.hid (show ys.map RowV.r = L.map rwH by rw [HYS.out, List.take_of_length_le (by omega)])
      gi_wp2
      go_ret
      exact ⟨HTR.out, .inl ⟨rfl, ys, HYE.out, HJ0.out⟩⟩
set_option maxRecDepth 100000 in
set_option maxHeartbeats 8000000 in
theorem asStake (p q r : Int) (w : World) :
    Calls Tryz.prog 53 #[.agg #[.int .i64 p, .int .i64 q, .int .i64 r]] w fun e w' => (∃ A c, e = .returned (.agg #[.int .i64 2, .int .i64 p, .int .i64 q, .slice A 1 c]) ∧ ValAt w' A [r]) ∧ Below w.heap.size w w' := by
  go_enter Tryz.func53, Tryz.ntmps53
  go_wp2
  refine ret_cell (cs := #[.int .i64 2, .int .i64 p, .int .i64 q, .slice (some ⟨w.heap.size + 1 + 1, 0, none⟩) 1 1]) rfl rfl rfl three_alloc.2.1 Tryz.underlying58 rfl infoRow ?_
  refine ⟨⟨_, _, rfl, .inr ⟨_, 0, _, rfl, three_alloc.2.2.1, fun i z hz => ?_⟩⟩, three_alloc.2.2.2⟩
  rw [Nat.zero_add]
  exact vals_at [r] i z hz
set_option maxRecDepth 100000 in
set_option maxHeartbeats 8000000 in
theorem eachStake (l : Nat) (R : Nat → Obj → Prop) (FULL : List RowT) (J Jx : List RowV → World → Prop) (HJ : BearsK (fun _ _ => False) J) (HJx : BearsK (fun _ _ => False) Jx) (HY : YieldRow l R FULL J Jx)
    (V : World) (a : Option Addr) (c : Nat) (L : List Item) (hr : RowsOf 3 V a L) (hk : ItemsOk 3 2000 L) (pre : List RowV) (hpre : ∃ s, pre.map RowV.r ++ L.map rwS ++ s = FULL) (hl : V.heap.size ≤ l) (hR : ∀ k o, R k o → V.heap.size ≤ k)
    (W : World) (hV : Below V.heap.size V W) (h0 : J pre W) :
    Calls Tryz.prog 52 #[.slice a L.length c, .func (.yield l) #[] #[], .func (.func 53) #[] #[]] W fun e W' => TurnsK (TLR l R) W W' ∧ ((e = .returned (.bool true) ∧ ∃ ys, ys.map RowV.r = L.map rwS ∧ J (pre ++ ys) W') ∨ (e = .returned (.bool false) ∧ ∃ ys, Jx (pre ++ ys) W')) := by
  refine (callsIn_wide (n := 10)).1 ?_
  have HROW := Lib.hid hr
  have hkl := hk.1
  have HK := Lib.hid hk.2
  have HP := Lib.hid hpre
  have H0 := Lib.hid h0
  have HYY := Lib.hid HY
  have HJJ := Lib.hid HJ
  have HJX := Lib.hid HJx
  have HL := Lib.hid hl
  have HRR := Lib.hid hR
  have HV := Lib.hid hV
  clear hr hk hpre h0 HY HJ HJx hl hR hV
  refine callsIn_of_wp Tryz.func52 rfl trivial ?_ rfl
  simp only [Tryz.ntmps52, List.size_toArray, List.length_cons, List.length_nil, Nat.reduceAdd, Nat.reduceSub, Array.replicate_succ, Array.replicate_zero, List.push_toArray, List.append_toArray, List.nil_append, List.cons_append]
  gi_wp2
  gi_loopw [11] (fun vi W' => ∃ (i : Nat) (ys : List RowV), vi = .int .i64 (i : Int) ∧ i ≤ L.length ∧ ys.map RowV.r = (L.take i).map rwS ∧ J (pre ++ ys) W' ∧ TurnsK (TLR l R) W W') (fun vi _ => L.length - (intOf vi).toNat)
  case atStart => exact ⟨0, [], rfl, Nat.zero_le _, rfl, by rw [List.append_nil]; exact H0.out, TurnsK.refl _ _⟩
  case round =>
    obtain ⟨i, ys, rfl, hi, hys, hj, hb⟩ := hrel
    have HTR := Lib.hid hb
    have HLO := Lib.hid (lo_round HV.out HL.out HRR.out hb)
    have HYS := Lib.hid hys
    have HJ0 := Lib.hid hj
    clear hb hys hj
    by_cases hlt : i < L.length
    · obtain ⟨x, hx⟩ : ∃ x, L[i]? = some x := ⟨L[i], by simp [hlt]⟩
      obtain ⟨b0, off, rfl, hb0, hcs⟩ := HROW.out.at hx
      obtain ⟨p, q, r, rfl⟩ := item3 (HK.out _ (List.mem_of_getElem? hx)).1
      have HCS := Lib.hid hcs
      have HTK := Lib.hid (take_one hx)
      clear hcs hx
      have k0 := HCS.out wr HLO.out 0 p rfl
      have k1 := HCS.out wr HLO.out 1 q rfl
      have k2 := HCS.out wr HLO.out 2 r rfl
      rw [Nat.add_zero] at k0
      have HPX := Lib.hid (pre_next HP.out HYS.out HTK.out)
      gi_wp2_with (refine ⟨trivial, ?_⟩; gi_at_call 53; refine (callsIn_wide.2 (asStake _ _ _ _)).mono ?_; rintro e w1 ⟨⟨A, C, rfl, hv1⟩, hb1⟩; have HTR1 := Lib.hid (HTR.out.trans (.below (((Below.refl _ wr).alloc (Nat.le_refl _) (.cells #[.int .i64 p, .int .i64 q, .int .i64 r] 73)).trans (hb1.mono (by simp))))); have HLO1 := Lib.hid (HLO.out.trans ((((Below.refl _ wr).alloc (Nat.le_refl _) (.cells #[.int .i64 p, .int .i64 q, .int .i64 r] 73)).trans (hb1.mono (by simp))).mono HLO.out.size)); have HJ1 := Lib.hid (HJJ.out.below HJ0.out (((Below.refl _ wr).alloc (Nat.le_refl _) (.cells #[.int .i64 p, .int .i64 q, .int .i64 r] 73)).trans (hb1.mono (by simp)))); have HPZ := Lib.hid (HPX.out ⟨rwS [p, q, r], A, C⟩ rfl); obtain ⟨fn, tmps, assign, body, hy, hRd⟩ := HYY.out _ ⟨rwS [p, q, r], A, C⟩ w1 HJ1.out HPZ.out.1 hv1; replace hy : (Instr.yield l #[.agg #[.int .i64 2, .int .i64 p, .int .i64 q, .slice A 1 C]]).run Tryz.prog w1 = .ok (.round l fn tmps assign body) w1 := hy; clear hb1 hv1)
      refine (roundIn_wide hRd).mono ?_
      rintro e W3 ⟨⟨rfl, hJ3⟩ | ⟨rfl, hJx3⟩, ht3⟩
      · have HTR3 := Lib.hid (HTR1.out.trans ht3)
        have HJ3 := Lib.hid (show J (pre ++ (ys ++ [⟨rwS [p, q, r], A, C⟩])) W3 by rw [← List.append_assoc]; exact hJ3)
        clear hJ3 ht3 hy hRd
        gi_wp2
        go_roundw
        case rel => exact ⟨i + 1, _, by go_num, hlt, HPZ.out.2, HJ3.out, HTR3.out⟩
        case measure => simp [intOf]; omega
      · have HTR3 := Lib.hid (HTR1.out.trans ht3)
        have HJ3 := Lib.hid (show Jx (pre ++ (ys ++ [⟨rwS [p, q, r], A, C⟩])) W3 by rw [← List.append_assoc]; exact hJx3)
        clear hJx3 ht3 hy hRd
        gi_wp2
        go_ret
        exact ⟨HTR3.out, .inr ⟨rfl, _, HJ3.out⟩⟩
    · have HYE := Lib.hid (show ys.map RowV.r = L.map rwS by rw [HYS.out, List.take_of_length_le (by omega)])
      gi_wp2
      go_ret
      exact ⟨HTR.out, .inl ⟨rfl, ys, HYE.out, HJ0.out⟩⟩
set_option maxRecDepth 100000 in
set_option maxHeartbeats 8000000 in
theorem asOpen (p q r s t u : Int) (w : World) :
    Calls Tryz.prog 55 #[.agg #[.int .i64 p, .int .i64 q, .int .i64 r, .int .i64 s, .int .i64 t, .int .i64 u]] w fun e w' => (∃ A c, e = .returned (.agg #[.int .i64 3, .int .i64 p, .int .i64 0, .slice A 5 c]) ∧ ValAt w' A [q, r, s, t, u]) ∧ Below w.heap.size w w' := by
  go_enter Tryz.func55, Tryz.ntmps55
  go_wp2
  refine ret_cell (cs := #[.int .i64 3, .int .i64 p, .int .i64 0, .slice (some ⟨w.heap.size + 1 + 1, 0, none⟩) 5 5]) rfl rfl rfl three_alloc.2.1 Tryz.underlying58 rfl infoRow ?_
  refine ⟨⟨_, _, rfl, .inr ⟨_, 0, _, rfl, three_alloc.2.2.1, fun i z hz => ?_⟩⟩, three_alloc.2.2.2⟩
  rw [Nat.zero_add]
  exact vals_at [q, r, s, t, u] i z hz
set_option maxRecDepth 100000 in
set_option maxHeartbeats 8000000 in
theorem eachOpen (l : Nat) (R : Nat → Obj → Prop) (FULL : List RowT) (J Jx : List RowV → World → Prop) (HJ : BearsK (fun _ _ => False) J) (HJx : BearsK (fun _ _ => False) Jx) (HY : YieldRow l R FULL J Jx)
    (V : World) (a : Option Addr) (c : Nat) (L : List Item) (hr : RowsOf 6 V a L) (hk : ItemsOk 6 2000 L) (pre : List RowV) (hpre : ∃ s, pre.map RowV.r ++ L.map rwO ++ s = FULL) (hl : V.heap.size ≤ l) (hR : ∀ k o, R k o → V.heap.size ≤ k)
    (W : World) (hV : Below V.heap.size V W) (h0 : J pre W) :
    Calls Tryz.prog 54 #[.slice a L.length c, .func (.yield l) #[] #[], .func (.func 55) #[] #[]] W fun e W' => TurnsK (TLR l R) W W' ∧ ((e = .returned (.bool true) ∧ ∃ ys, ys.map RowV.r = L.map rwO ∧ J (pre ++ ys) W') ∨ (e = .returned (.bool false) ∧ ∃ ys, Jx (pre ++ ys) W')) := by
  refine (callsIn_wide (n := 10)).1 ?_
  have HROW := Lib.hid hr
  have hkl := hk.1
  have HK := Lib.hid hk.2
  have HP := Lib.hid hpre
  have H0 := Lib.hid h0
  have HYY := Lib.hid HY
  have HJJ := Lib.hid HJ
  have HJX := Lib.hid HJx
  have HL := Lib.hid hl
  have HRR := Lib.hid hR
  have HV := Lib.hid hV
  clear hr hk hpre h0 HY HJ HJx hl hR hV
  refine callsIn_of_wp Tryz.func54 rfl trivial ?_ rfl
  simp only [Tryz.ntmps54, List.size_toArray, List.length_cons, List.length_nil, Nat.reduceAdd, Nat.reduceSub, Array.replicate_succ, Array.replicate_zero, List.push_toArray, List.append_toArray, List.nil_append, List.cons_append]
  gi_wp2
  gi_loopw [11] (fun vi W' => ∃ (i : Nat) (ys : List RowV), vi = .int .i64 (i : Int) ∧ i ≤ L.length ∧ ys.map RowV.r = (L.take i).map rwO ∧ J (pre ++ ys) W' ∧ TurnsK (TLR l R) W W') (fun vi _ => L.length - (intOf vi).toNat)
  case atStart => exact ⟨0, [], rfl, Nat.zero_le _, rfl, by rw [List.append_nil]; exact H0.out, TurnsK.refl _ _⟩
  case round =>
    obtain ⟨i, ys, rfl, hi, hys, hj, hb⟩ := hrel
    have HTR := Lib.hid hb
    have HLO := Lib.hid (lo_round HV.out HL.out HRR.out hb)
    have HYS := Lib.hid hys
    have HJ0 := Lib.hid hj
    clear hb hys hj
    by_cases hlt : i < L.length
    · obtain ⟨x, hx⟩ : ∃ x, L[i]? = some x := ⟨L[i], by simp [hlt]⟩
      obtain ⟨b0, off, rfl, hb0, hcs⟩ := HROW.out.at hx
      obtain ⟨p, q, r, s, t, u, rfl⟩ := item6 (HK.out _ (List.mem_of_getElem? hx)).1
      have HCS := Lib.hid hcs
      have HTK := Lib.hid (take_one hx)
      clear hcs hx
      have k0 := HCS.out wr HLO.out 0 p rfl
      have k1 := HCS.out wr HLO.out 1 q rfl
      have k2 := HCS.out wr HLO.out 2 r rfl
      have k3 := HCS.out wr HLO.out 3 s rfl
      have k4 := HCS.out wr HLO.out 4 t rfl
      have k5 := HCS.out wr HLO.out 5 u rfl
      rw [Nat.add_zero] at k0
      have HPX := Lib.hid (pre_next HP.out HYS.out HTK.out)
      gi_wp2_with (refine ⟨trivial, ?_⟩; gi_at_call 55; refine (callsIn_wide.2 (asOpen _ _ _ _ _ _ _)).mono ?_; rintro e w1 ⟨⟨A, C, rfl, hv1⟩, hb1⟩; have HTR1 := Lib.hid (HTR.out.trans (.below (((Below.refl _ wr).alloc (Nat.le_refl _) (.cells #[.int .i64 p, .int .i64 q, .int .i64 r, .int .i64 s, .int .i64 t, .int .i64 u] 76)).trans (hb1.mono (by simp))))); have HLO1 := Lib.hid (HLO.out.trans ((((Below.refl _ wr).alloc (Nat.le_refl _) (.cells #[.int .i64 p, .int .i64 q, .int .i64 r, .int .i64 s, .int .i64 t, .int .i64 u] 76)).trans (hb1.mono (by simp))).mono HLO.out.size)); have HJ1 := Lib.hid (HJJ.out.below HJ0.out (((Below.refl _ wr).alloc (Nat.le_refl _) (.cells #[.int .i64 p, .int .i64 q, .int .i64 r, .int .i64 s, .int .i64 t, .int .i64 u] 76)).trans (hb1.mono (by simp)))); have HPZ := Lib.hid (HPX.out ⟨rwO [p, q, r, s, t, u], A, C⟩ rfl); obtain ⟨fn, tmps, assign, body, hy, hRd⟩ := HYY.out _ ⟨rwO [p, q, r, s, t, u], A, C⟩ w1 HJ1.out HPZ.out.1 hv1; replace hy : (Instr.yield l #[.agg #[.int .i64 3, .int .i64 p, .int .i64 0, .slice A 5 C]]).run Tryz.prog w1 = .ok (.round l fn tmps assign body) w1 := hy; clear hb1 hv1)
      refine (roundIn_wide hRd).mono ?_
      rintro e W3 ⟨⟨rfl, hJ3⟩ | ⟨rfl, hJx3⟩, ht3⟩
      · have HTR3 := Lib.hid (HTR1.out.trans ht3)
        have HJ3 := Lib.hid (show J (pre ++ (ys ++ [⟨rwO [p, q, r, s, t, u], A, C⟩])) W3 by rw [← List.append_assoc]; exact hJ3)
        clear hJ3 ht3 hy hRd
        gi_wp2
        go_roundw
        case rel => exact ⟨i + 1, _, by go_num, hlt, HPZ.out.2, HJ3.out, HTR3.out⟩
        case measure => simp [intOf]; omega
      · have HTR3 := Lib.hid (HTR1.out.trans ht3)
        have HJ3 := Lib.hid (show Jx (pre ++ (ys ++ [⟨rwO [p, q, r, s, t, u], A, C⟩])) W3 by rw [← List.append_assoc]; exact hJx3)
        clear hJx3 ht3 hy hRd
        gi_wp2
        go_ret
        exact ⟨HTR3.out, .inr ⟨rfl, _, HJ3.out⟩⟩
    · have HYE := Lib.hid (show ys.map RowV.r = L.map rwO by rw [HYS.out, List.take_of_length_le (by omega)])
      gi_wp2
      go_ret
      exact ⟨HTR.out, .inl ⟨rfl, ys, HYE.out, HJ0.out⟩⟩
set_option maxRecDepth 100000 in
set_option maxHeartbeats 8000000 in
theorem asRate (p q : Int) (w : World) :
    Calls Tryz.prog 57 #[.agg #[.int .i64 p, .int .i64 q]] w fun e w' => (∃ A c, e = .returned (.agg #[.int .i64 4, .int .i64 p, .int .i64 0, .slice A 1 c]) ∧ ValAt w' A [q]) ∧ Below w.heap.size w w' := by
  go_enter Tryz.func57, Tryz.ntmps57
  go_wp2
  refine ret_cell (cs := #[.int .i64 4, .int .i64 p, .int .i64 0, .slice (some ⟨w.heap.size + 1 + 1, 0, none⟩) 1 1]) rfl rfl rfl three_alloc.2.1 Tryz.underlying58 rfl infoRow ?_
  refine ⟨⟨_, _, rfl, .inr ⟨_, 0, _, rfl, three_alloc.2.2.1, fun i z hz => ?_⟩⟩, three_alloc.2.2.2⟩
  rw [Nat.zero_add]
  exact vals_at [q] i z hz
set_option maxRecDepth 100000 in
set_option maxHeartbeats 8000000 in
theorem eachRate (l : Nat) (R : Nat → Obj → Prop) (FULL : List RowT) (J Jx : List RowV → World → Prop) (HJ : BearsK (fun _ _ => False) J) (HJx : BearsK (fun _ _ => False) Jx) (HY : YieldRow l R FULL J Jx)
    (V : World) (a : Option Addr) (c : Nat) (L : List Item) (hr : RowsOf 2 V a L) (hk : ItemsOk 2 2000 L) (pre : List RowV) (hpre : ∃ s, pre.map RowV.r ++ L.map rwR ++ s = FULL) (hl : V.heap.size ≤ l) (hR : ∀ k o, R k o → V.heap.size ≤ k)
    (W : World) (hV : Below V.heap.size V W) (h0 : J pre W) :
    Calls Tryz.prog 56 #[.slice a L.length c, .func (.yield l) #[] #[], .func (.func 57) #[] #[]] W fun e W' => TurnsK (TLR l R) W W' ∧ ((e = .returned (.bool true) ∧ ∃ ys, ys.map RowV.r = L.map rwR ∧ J (pre ++ ys) W') ∨ (e = .returned (.bool false) ∧ ∃ ys, Jx (pre ++ ys) W')) := by
  refine (callsIn_wide (n := 10)).1 ?_
  have HROW := Lib.hid hr
  have hkl := hk.1
  have HK := Lib.hid hk.2
  have HP := Lib.hid hpre
  have H0 := Lib.hid h0
  have HYY := Lib.hid HY
  have HJJ := Lib.hid HJ
  have HJX := Lib.hid HJx
  have HL := Lib.hid hl
  have HRR := Lib.hid hR
  have HV := Lib.hid hV
  clear hr hk hpre h0 HY HJ HJx hl hR hV
  refine callsIn_of_wp Tryz.func56 rfl trivial ?_ rfl
  simp only [Tryz.ntmps56, List.size_toArray, List.length_cons, List.length_nil, Nat.reduceAdd, Nat.reduceSub, Array.replicate_succ, Array.replicate_zero, List.push_toArray, List.append_toArray, List.nil_append, List.cons_append]
  gi_wp2
  gi_loopw [11] (fun vi W' => ∃ (i : Nat) (ys : List RowV), vi = .int .i64 (i : Int) ∧ i ≤ L.length ∧ ys.map RowV.r = (L.take i).map rwR ∧ J (pre ++ ys) W' ∧ TurnsK (TLR l R) W W') (fun vi _ => L.length - (intOf vi).toNat)
  case atStart => exact ⟨0, [], rfl, Nat.zero_le _, rfl, by rw [List.append_nil]; exact H0.out, TurnsK.refl _ _⟩
  case round =>
    obtain ⟨i, ys, rfl, hi, hys, hj, hb⟩ := hrel
    have HTR := Lib.hid hb
    have HLO := Lib.hid (lo_round HV.out HL.out HRR.out hb)
    have HYS := Lib.hid hys
    have HJ0 := Lib.hid hj
    clear hb hys hj
    by_cases hlt : i < L.length
    · obtain ⟨x, hx⟩ : ∃ x, L[i]? = some x := ⟨L[i], by simp [hlt]⟩
      obtain ⟨b0, off, rfl, hb0, hcs⟩ := HROW.out.at hx
      obtain ⟨p, q, rfl⟩ := item2 (HK.out _ (List.mem_of_getElem? hx)).1
      have HCS := Lib.hid hcs
      have HTK := Lib.hid (take_one hx)
      clear hcs hx
      have k0 := HCS.out wr HLO.out 0 p rfl
      have k1 := HCS.out wr HLO.out 1 q rfl
      rw [Nat.add_zero] at k0
      have HPX := Lib.hid (pre_next HP.out HYS.out HTK.out)
      gi_wp2_with (refine ⟨trivial, ?_⟩; gi_at_call 57; refine (callsIn_wide.2 (asRate _ _ _)).mono ?_; rintro e w1 ⟨⟨A, C, rfl, hv1⟩, hb1⟩; have HTR1 := Lib.hid (HTR.out.trans (.below (((Below.refl _ wr).alloc (Nat.le_refl _) (.cells #[.int .i64 p, .int .i64 q] 50)).trans (hb1.mono (by simp))))); have HLO1 := Lib.hid (HLO.out.trans ((((Below.refl _ wr).alloc (Nat.le_refl _) (.cells #[.int .i64 p, .int .i64 q] 50)).trans (hb1.mono (by simp))).mono HLO.out.size)); have HJ1 := Lib.hid (HJJ.out.below HJ0.out (((Below.refl _ wr).alloc (Nat.le_refl _) (.cells #[.int .i64 p, .int .i64 q] 50)).trans (hb1.mono (by simp)))); have HPZ := Lib.hid (HPX.out ⟨rwR [p, q], A, C⟩ rfl); obtain ⟨fn, tmps, assign, body, hy, hRd⟩ := HYY.out _ ⟨rwR [p, q], A, C⟩ w1 HJ1.out HPZ.out.1 hv1; replace hy : (Instr.yield l #[.agg #[.int .i64 4, .int .i64 p, .int .i64 0, .slice A 1 C]]).run Tryz.prog w1 = .ok (.round l fn tmps assign body) w1 := hy; clear hb1 hv1)
      refine (roundIn_wide hRd).mono ?_
      rintro e W3 ⟨⟨rfl, hJ3⟩ | ⟨rfl, hJx3⟩, ht3⟩
      · have HTR3 := Lib.hid (HTR1.out.trans ht3)
        have HJ3 := Lib.hid (show J (pre ++ (ys ++ [⟨rwR [p, q], A, C⟩])) W3 by rw [← List.append_assoc]; exact hJ3)
        clear hJ3 ht3 hy hRd
        gi_wp2
        go_roundw
        case rel => exact ⟨i + 1, _, by go_num, hlt, HPZ.out.2, HJ3.out, HTR3.out⟩
        case measure => simp [intOf]; omega
      · have HTR3 := Lib.hid (HTR1.out.trans ht3)
        have HJ3 := Lib.hid (show Jx (pre ++ (ys ++ [⟨rwR [p, q], A, C⟩])) W3 by rw [← List.append_assoc]; exact hJx3)
        clear hJx3 ht3 hy hRd
        gi_wp2
        go_ret
        exact ⟨HTR3.out, .inr ⟨rfl, _, HJ3.out⟩⟩
    · have HYE := Lib.hid (show ys.map RowV.r = L.map rwR by rw [HYS.out, List.take_of_length_le (by omega)])
      gi_wp2
      go_ret
      exact ⟨HTR.out, .inl ⟨rfl, ys, HYE.out, HJ0.out⟩⟩
end Go.Proofs.YtellifcjamedkaaGreat
namespace Go.Proofs.YtellifcjamedkaaGreat
open Go.RowKit Go.Shelf Base Base2
attribute [local go_sem] Oper.semAt_some
theorem rowsF (v : Slots) (b : BookT) (w : World) : Calls Tryz.prog 21 #[.agg (cellsB v b)] w fun e w' => e = .returned (.func (.func 49) #[] #[.pointer (some ⟨w.heap.size, 0, none⟩)]) ∧ w' = w.alloc (.cells (cellsB v b) 27) := by
  go_enter Tryz.func21, Tryz.ntmps21
  go_wp2
  go_ret
  exact ⟨rfl, rfl⟩
def encRv (x : RowV) : Array Value := #[.agg x.cells.toArray]
def TlRow (FULL : List RowT) (pre : List RowV) (x : RowV) (W : World) : Prop := (∃ s, (pre ++ [x]).map RowV.r ++ s = FULL) ∧ ValAt W x.a x.r.v
theorem pre0 {b : BookT} : ∃ s, ([] : List RowV).map RowV.r ++ b.hs.map rwH ++ s = rowsD b := ⟨_, by unfold rowsD; rfl⟩
theorem pre1 {b : BookT} {y0 : List RowV} (h0 : y0.map RowV.r = b.hs.map rwH) : ∃ s, ([] ++ y0).map RowV.r ++ b.ss.map rwS ++ s = rowsD b := ⟨b.os.map rwO ++ (b.rs.map rwR ++ [rwC b.co]), by unfold rowsD; rw [List.nil_append, h0]; simp only [List.append_assoc]⟩
theorem pre2 {b : BookT} {y0 y1 : List RowV} (h0 : y0.map RowV.r = b.hs.map rwH) (h1 : y1.map RowV.r = b.ss.map rwS) : ∃ s, ([] ++ y0 ++ y1).map RowV.r ++ b.os.map rwO ++ s = rowsD b := ⟨b.rs.map rwR ++ [rwC b.co], by unfold rowsD; rw [List.nil_append, List.map_append, h0, h1]; simp only [List.append_assoc]⟩
theorem pre3 {b : BookT} {y0 y1 y2 : List RowV} (h0 : y0.map RowV.r = b.hs.map rwH) (h1 : y1.map RowV.r = b.ss.map rwS) (h2 : y2.map RowV.r = b.os.map rwO) : ∃ s, ([] ++ y0 ++ y1 ++ y2).map RowV.r ++ b.rs.map rwR ++ s = rowsD b := ⟨[rwC b.co], by unfold rowsD; rw [List.nil_append, List.map_append, List.map_append, h0, h1, h2]; simp only [List.append_assoc]⟩
theorem pre4 {b : BookT} {y0 y1 y2 y3 : List RowV} (h0 : y0.map RowV.r = b.hs.map rwH) (h1 : y1.map RowV.r = b.ss.map rwS) (h2 : y2.map RowV.r = b.os.map rwO) (h3 : y3.map RowV.r = b.rs.map rwR) (k c : Nat) :
    (∃ s, ([] ++ y0 ++ y1 ++ y2 ++ y3 ++ [(⟨rwC b.co, some ⟨k, 0, none⟩, c⟩ : RowV)]).map RowV.r ++ s = rowsD b) ∧ ([] ++ y0 ++ y1 ++ y2 ++ y3 ++ [(⟨rwC b.co, some ⟨k, 0, none⟩, c⟩ : RowV)]).map RowV.r = rowsD b := by
  have e : ([] ++ y0 ++ y1 ++ y2 ++ y3 ++ [(⟨rwC b.co, some ⟨k, 0, none⟩, c⟩ : RowV)]).map RowV.r = rowsD b := by
    unfold rowsD; rw [List.nil_append, List.map_append, List.map_append, List.map_append, List.map_append, h0, h1, h2, h3]; simp only [List.append_assoc]; rfl
  exact ⟨⟨[], by rw [List.append_nil]; exact e⟩, e⟩
set_option maxRecDepth 100000 in
set_option maxHeartbeats 8000000 in
theorem rows_seq (R : Nat → Obj → Prop) (V : World) (v : Slots) (b : BookT) (hb : BookIn V v b) (hk : BookOk 2000 b) (g : Nat) (w0 : World) (hV : Below V.heap.size V w0) (hg : BoxB w0 g v b) (hR1 : ∀ k o, R k o → V.heap.size ≤ k) (hR2 : ¬ R g (.cells (cellsB v b) 27 (0, 0))) :
    SeqK Tryz.prog 49 #[.pointer (some ⟨g, 0, none⟩)] encRv (fun _ => False) R (TlRow (rowsD b)) (fun xs => xs.map RowV.r = rowsD b) w0 := by
  intro l J Jx W hW hl _ hJ hJx hY h0
  have HJJ := Lib.hid (show BearsK (fun _ _ => False) J from hJ.mono (fun _ _ a => a.elim))
  have HJX := Lib.hid (show BearsK (fun _ _ => False) Jx from hJx.mono (fun _ _ a => a.elim))
  have HYY := Lib.hid (show YieldRow l R (rowsD b) J Jx from fun pre x W1 a h1 h2 => hY pre x W1 a ⟨h1, h2⟩)
  have HB := Lib.hid hb
  have HK := Lib.hid hk
  have hVW := Lib.hid (hV.trans (hW.mono hV.size))
  have HL := Lib.hid (Nat.le_trans hV.size hl)
  have HR1 := Lib.hid hR1
  have hgl := lt_of_blk hg
  have HG := Lib.hid (fun (W' : World) (ht : TurnsK (TLR l R) W W') => show BoxB W' g v b from ht.block _ _ ((hW.block g hgl).trans hg) (fun a => by rcases a with ⟨a, _⟩ | a; omega; exact hR2 a))
  have HT0 := Lib.hid (TurnsK.refl (TLR l R) W)
  have HJ0 := Lib.hid h0
  have HP0 := Lib.hid (pre0 (b := b))
  obtain ⟨c0, c1, c2, c3, c4⟩ := (HG.out _ HT0.out).cells
  clear hJ hJx hY h0 hb hk hW hV hl hR1 hR2 hg hgl
  refine (callsIn_wide (n := 10)).1 ?_
  refine callsIn_of_wp Tryz.func49 rfl trivial ?_ rfl
  simp only [Tryz.ntmps49, List.size_toArray, List.length_cons, List.length_nil, Nat.reduceAdd, Nat.reduceSub, Array.replicate_succ, Array.replicate_zero, List.push_toArray, List.append_toArray, List.nil_append, List.cons_append]
  gi_wp2
  refine ⟨trivial, ?_⟩
  gi_at_call 50
  refine (callsIn_wide.2 (eachHolder l R (rowsD b) J Jx HJJ.out HJX.out HYY.out V _ _ _ HB.out.hs HK.out.hs ([]) HP0.out HL.out HR1.out _ (lo_round (hVW.out) HL.out HR1.out HT0.out) HJ0.out)).mono ?_
  rintro e w1 ⟨ht, ⟨rfl, y0, hy, hj⟩ | ⟨rfl, y0, hj⟩⟩
  · have HT1 := Lib.hid (HT0.out.trans ht)
    have HJ1 := Lib.hid hj
    have HM1 := Lib.hid hy
    clear ht hy hj
    obtain ⟨c0, c1, c2, c3, c4⟩ := (HG.out _ HT1.out).cells
    have HP1 := Lib.hid (pre1 (b := b) HM1.out)
    gi_wp2
    refine ⟨trivial, ?_⟩
    gi_at_call 52
    refine (callsIn_wide.2 (eachStake l R (rowsD b) J Jx HJJ.out HJX.out HYY.out V _ _ _ HB.out.ss HK.out.ss ([] ++ y0) HP1.out HL.out HR1.out _ (lo_round (hVW.out) HL.out HR1.out HT1.out) HJ1.out)).mono ?_
    rintro e w2 ⟨ht, ⟨rfl, y1, hy, hj⟩ | ⟨rfl, y1, hj⟩⟩
    · have HT2 := Lib.hid (HT1.out.trans ht)
      have HJ2 := Lib.hid hj
      have HM2 := Lib.hid hy
      clear ht hy hj
      obtain ⟨c0, c1, c2, c3, c4⟩ := (HG.out _ HT2.out).cells
      have HP2 := Lib.hid (pre2 (b := b) HM1.out HM2.out)
      gi_wp2
      refine ⟨trivial, ?_⟩
      gi_at_call 54
      refine (callsIn_wide.2 (eachOpen l R (rowsD b) J Jx HJJ.out HJX.out HYY.out V _ _ _ HB.out.os HK.out.os ([] ++ y0 ++ y1) HP2.out HL.out HR1.out _ (lo_round (hVW.out) HL.out HR1.out HT2.out) HJ2.out)).mono ?_
      rintro e w3 ⟨ht, ⟨rfl, y2, hy, hj⟩ | ⟨rfl, y2, hj⟩⟩
      · have HT3 := Lib.hid (HT2.out.trans ht)
        have HJ3 := Lib.hid hj
        have HM3 := Lib.hid hy
        clear ht hy hj
        obtain ⟨c0, c1, c2, c3, c4⟩ := (HG.out _ HT3.out).cells
        have HP3 := Lib.hid (pre3 (b := b) HM1.out HM2.out HM3.out)
        gi_wp2
        refine ⟨trivial, ?_⟩
        gi_at_call 56
        refine (callsIn_wide.2 (eachRate l R (rowsD b) J Jx HJJ.out HJX.out HYY.out V _ _ _ HB.out.rs HK.out.rs ([] ++ y0 ++ y1 ++ y2) HP3.out HL.out HR1.out _ (lo_round (hVW.out) HL.out HR1.out HT3.out) HJ3.out)).mono ?_
        rintro e w4 ⟨ht, ⟨rfl, y3, hy, hj⟩ | ⟨rfl, y3, hj⟩⟩
        · have HT4 := Lib.hid (HT3.out.trans ht)
          have HJ4 := Lib.hid hj
          have HM4 := Lib.hid hy
          clear ht hy hj
          obtain ⟨c0, c1, c2, c3, c4⟩ := (HG.out _ HT4.out).cells
          have HP4 := Lib.hid (pre4 (b := b) HM1.out HM2.out HM3.out HM4.out w4.heap.size 1)
          have HJ5 := Lib.hid (HJJ.out.below HJ4.out ((Below.refl _ w4).alloc (Nat.le_refl _) (.cells #[.int .i64 b.co] 2)))
          obtain ⟨fn, tmps, assign, body, hy, hRd⟩ := HYY.out _ ⟨rwC b.co, some ⟨w4.heap.size, 0, none⟩, 1⟩ _ HJ5.out HP4.out.1 (ValAt.new w4 [b.co])
          replace hy : (Instr.yield l #[.agg #[.int .i64 5, .int .i64 0, .int .i64 0, .slice (some ⟨w4.heap.size, 0, none⟩) 1 1]]).run Tryz.prog (w4.alloc (.cells #[.int .i64 b.co] 2)) = .ok (.round l fn tmps assign body) (w4.alloc (.cells #[.int .i64 b.co] 2)) := hy
          gi_wp2
          refine (roundIn_wide hRd).mono ?_
          rintro e W6 ⟨⟨rfl, hJ6⟩ | ⟨rfl, hJx6⟩, ht6⟩
          · have HJ6 := Lib.hid hJ6
            clear hJ6 ht6 hy hRd c0 c1 c2 c3 c4
            gi_wp2
            go_end0
            exact ⟨⟨_, rfl⟩, .inl ⟨_, HP4.out.2, HJ6.out⟩⟩
          · have HJ6 := Lib.hid hJx6
            clear hJx6 ht6 hy hRd c0 c1 c2 c3 c4
            gi_wp2
            go_end0
            exact ⟨⟨_, rfl⟩, .inr ⟨_, HJ6.out⟩⟩
        · have HJE := Lib.hid hj
          clear ht hj
          gi_wp2
          repeat (first | (refine ⟨trivial, ?_⟩; gi_wp2) | (refine ⟨fun _ _ => trivial, ?_⟩; gi_wp2))
          go_end0
          exact ⟨⟨_, rfl⟩, .inr ⟨_, HJE.out⟩⟩
      · have HJE := Lib.hid hj
        clear ht hj
        gi_wp2
        repeat (first | (refine ⟨trivial, ?_⟩; gi_wp2) | (refine ⟨fun _ _ => trivial, ?_⟩; gi_wp2))
        go_end0
        exact ⟨⟨_, rfl⟩, .inr ⟨_, HJE.out⟩⟩
    · have HJE := Lib.hid hj
      clear ht hj
      gi_wp2
      repeat (first | (refine ⟨trivial, ?_⟩; gi_wp2) | (refine ⟨fun _ _ => trivial, ?_⟩; gi_wp2))
      go_end0
      exact ⟨⟨_, rfl⟩, .inr ⟨_, HJE.out⟩⟩
  · have HJE := Lib.hid hj
    clear ht hj
    gi_wp2
    repeat (first | (refine ⟨trivial, ?_⟩; gi_wp2) | (refine ⟨fun _ _ => trivial, ?_⟩; gi_wp2))
    go_end0
    exact ⟨⟨_, rfl⟩, .inr ⟨_, HJE.out⟩⟩
end Go.Proofs.YtellifcjamedkaaGreat
namespace Go.Proofs.YtellifcjamedkaaGreat
open Go.RowKit Base Base2
theorem new_run (W : World) (xs : List Value) (t : TypeId) : ∀ (j : Nat) (u : Value), xs[j]? = some u → (W.alloc (.cells xs.toArray t)).cell? ((⟨W.heap.size, 0, none⟩ : Addr).add j) = some u := by
  intro j u hj
  have e : (⟨W.heap.size, 0, none⟩ : Addr).add j = ⟨W.heap.size, j, none⟩ := by cases j <;> simp [Addr.add]
  rw [e, cell_of_row _ _ _ _ t (0, 0) (heap_alloc_new W _)]
  simpa using hj
/-- What turns no cells of these kinds. -/
def NoT (ts : List TypeId) (T : Nat → Obj → Prop) : Prop := ∀ k cs t fz, T k (.cells cs t fz) → t ∉ ts
theorem NoT.sub {ts us : List TypeId} {T : Nat → Obj → Prop} (h : NoT ts T) (hs : ∀ t ∈ us, t ∈ ts) : NoT us T := fun k cs t fz a b => h k cs t fz a (hs t b)
theorem NoT.at {ts : List TypeId} {T : Nat → Obj → Prop} (h : NoT ts T) {W W' : World} (ht : TurnsK T W W') {k : Nat} {cs : Array Value} {t : TypeId} {fz : Nat × Nat} (hk : W.heap[k]? = some (.cells cs t fz)) (hm : t ∈ ts) : W'.heap[k]? = some (.cells cs t fz) := ht.block _ _ hk (fun a => h k cs t fz a hm)
theorem own_turn {W W' : World} {B n : Nat} {e : TypeId} {sz : Nat} {v : Value} {xs : List Value} {T : Nat → Obj → Prop} (h : W.ownsRow B e sz v n xs) (hT : NoT [e] T) (ht : TurnsK T W W') : W'.ownsRow B e sz v n xs := by
  refine ⟨h.1, ?_⟩
  rcases h.2 with h0 | ⟨g, cap, cur, rfl, h1, h2, h3⟩
  · exact .inl h0
  · exact .inr ⟨g, cap, cur, rfl, h1, hT.at ht h2 (by simp), h3⟩
theorem ValAt.turn {W W' : World} {a : Option Addr} {v : List Int} {T : Nat → Obj → Prop} (h : ValAt W a v) (hT : NoT [2] T) (ht : TurnsK T W W') : ValAt W' a v := h.keep fun k cs hk => hT.at ht hk (by simp)
theorem boxed_turn {W W' : World} {b : Nat} {t : TypeId} {v : Value} {T : Nat → Obj → Prop} (h : Boxed W b t v) (hT : NoT [t] T) (ht : TurnsK T W W') : Boxed W' b t v := hT.at ht h (by simp)
theorem infoRp : (Tryz.prog.info? 58).map (fun i => (i.zero, i.size, i.bytes)) = some (some (.agg #[.int .i64 0, .int .i64 0, .int .i64 0, .slice none 0 0]), 4, 48) := by kernel_rfl
/-- They are being made. -/
structure RpS (B : Nat) (W0 : World) (o : List RowV) (v : Value) (W : World) : Prop where
  row : W.ownsRow B 58 4 v o.length (flatW o)
  val : ∀ x ∈ o, ValAt W x.a x.r.v
  lo : Below B W0 W
  sz : B ≤ W.heap.size
theorem RpS.nil {B : Nat} {W0 : World} (h : B ≤ W0.heap.size) : RpS B W0 [] (.slice none 0 0) W0 := ⟨⟨by simp [flatW], .inl ⟨rfl, rfl⟩⟩, (fun x hx => by cases hx), Below.refl _ _, h⟩
theorem RpS.turn {B : Nat} {W0 W W' : World} {o : List RowV} {v : Value} {T : Nat → Obj → Prop} (h : RpS B W0 o v W) (hT : NoT [58, 2] T) (hB : ∀ k o, T k o → B ≤ k) (ht : TurnsK T W W') : RpS B W0 o v W' :=
  ⟨own_turn h.row (hT.sub (by simp)) ht, fun x hx => (h.val x hx).turn (hT.sub (by simp)) ht, h.lo.trans (ht.lo h.sz (fun k o hk a => by have := hB k o a; omega)), Nat.le_trans h.sz ht.size⟩
theorem RpS.below {B : Nat} {W0 W W' : World} {o : List RowV} {v : Value} (h : RpS B W0 o v W) (hb : Below W.heap.size W W') : RpS B W0 o v W' := h.turn (T := fun _ _ => False) (fun _ _ _ _ a => a.elim) (fun _ _ a => a.elim) (.below hb)
theorem RpS.app {B : Nat} {W0 W w2 : World} {o : List RowV} {v v' : Value} {x : RowV} {ob : Obj} (h : RpS B W0 o v W) (hx : ValAt W x.a x.r.v) (hr : w2.ownsRow B 58 4 v' (o.length + 1) (flatW o ++ x.cells)) (hg : (W.alloc ob).grownBy w2 v.ownBlock) : RpS B W0 (o ++ [x]) v' w2 := by
  have hg2 := World_grown_alloc hg
  have hk : ∀ (k : Nat) (cs : Array Value), W.heap[k]? = some (.cells cs 2 (0, 0)) → w2.heap[k]? = some (.cells cs 2 (0, 0)) := fun k cs hk => (hg2.block k (lt_of_blk hk) (own_ne' h.row hk (by decide))).trans hk
  refine ⟨by rw [flatW_app, flatW_one, List.length_append]; exact hr, fun y hy => ?_, h.lo.grown hg2 h.sz (own_block_ge h.row), Nat.le_trans h.sz hg2.size⟩
  rcases List.mem_append.1 hy with hy | hy
  · exact (h.val y hy).keep hk
  · rw [List.mem_singleton.1 hy]; exact hx.keep hk
/-- How far an append turns what lay. -/
theorem RpS.app_turn {B : Nat} {W0 W w2 : World} {o : List RowV} {v : Value} {ob : Obj} (h : RpS B W0 o v W) (hg : (W.alloc ob).grownBy w2 v.ownBlock) : TurnsK (fun k o => B ≤ k ∧ ∃ cs, o = .cells cs 58 (0, 0)) W w2 := by
  refine TurnsK.grown (World_grown_alloc hg) fun k o e hk => ⟨own_block_ge h.row k e, ?_⟩
  rcases h.row.2 with ⟨rfl, _⟩ | ⟨g, cap, cur, rfl, _, h2, _⟩
  · simp [Value.ownBlock] at e
  · obtain rfl : g = k := by simpa [Value.ownBlock] using e
    rw [h2] at hk
    cases hk
    exact ⟨_, rfl⟩
theorem infoCp : (Tryz.prog.info? 59).map (fun i => (i.zero, i.size, i.bytes)) = some (some (.agg #[.int .i64 0, .int .i64 0, .int .i64 0, .slice none 0 0, .slice none 0 0]), 5, 72) := by kernel_rfl
/-- They are being made. -/
structure CpS (B : Nat) (W0 : World) (o : List ChV) (v : Value) (W : World) : Prop where
  row : W.ownsRow B 59 5 v o.length (flatK o)
  val : ∀ x ∈ o, ValAt W x.a1 x.c.was ∧ ValAt W x.a2 x.c.now
  lo : Below B W0 W
  sz : B ≤ W.heap.size
theorem CpS.nil {B : Nat} {W0 : World} (h : B ≤ W0.heap.size) : CpS B W0 [] (.slice none 0 0) W0 := ⟨⟨by simp [flatK], .inl ⟨rfl, rfl⟩⟩, (fun x hx => by cases hx), Below.refl _ _, h⟩
theorem CpS.turn {B : Nat} {W0 W W' : World} {o : List ChV} {v : Value} {T : Nat → Obj → Prop} (h : CpS B W0 o v W) (hT : NoT [59, 2] T) (hB : ∀ k o, T k o → B ≤ k) (ht : TurnsK T W W') : CpS B W0 o v W' :=
  ⟨own_turn h.row (hT.sub (by simp)) ht, fun x hx => ⟨(h.val x hx).1.turn (hT.sub (by simp)) ht, (h.val x hx).2.turn (hT.sub (by simp)) ht⟩, h.lo.trans (ht.lo h.sz (fun k o hk a => by have := hB k o a; omega)), Nat.le_trans h.sz ht.size⟩
theorem CpS.below {B : Nat} {W0 W W' : World} {o : List ChV} {v : Value} (h : CpS B W0 o v W) (hb : Below W.heap.size W W') : CpS B W0 o v W' := h.turn (T := fun _ _ => False) (fun _ _ _ _ a => a.elim) (fun _ _ a => a.elim) (.below hb)
theorem CpS.app {B : Nat} {W0 W w2 : World} {o : List ChV} {v v' : Value} {x : ChV} {ob : Obj} (h : CpS B W0 o v W) (hx : ValAt W x.a1 x.c.was ∧ ValAt W x.a2 x.c.now) (hr : w2.ownsRow B 59 5 v' (o.length + 1) (flatK o ++ x.cells)) (hg : (W.alloc ob).grownBy w2 v.ownBlock) : CpS B W0 (o ++ [x]) v' w2 := by
  have hg2 := World_grown_alloc hg
  have hk : ∀ (k : Nat) (cs : Array Value), W.heap[k]? = some (.cells cs 2 (0, 0)) → w2.heap[k]? = some (.cells cs 2 (0, 0)) := fun k cs hk => (hg2.block k (lt_of_blk hk) (own_ne' h.row hk (by decide))).trans hk
  refine ⟨by rw [flatK_app, flatK_one, List.length_append]; exact hr, fun y hy => ?_, h.lo.grown hg2 h.sz (own_block_ge h.row), Nat.le_trans h.sz hg2.size⟩
  rcases List.mem_append.1 hy with hy | hy
  · exact ⟨(h.val y hy).1.keep hk, (h.val y hy).2.keep hk⟩
  · rw [List.mem_singleton.1 hy]; exact ⟨hx.1.keep hk, hx.2.keep hk⟩
/-- How far an append turns what lay. -/
theorem CpS.app_turn {B : Nat} {W0 W w2 : World} {o : List ChV} {v : Value} {ob : Obj} (h : CpS B W0 o v W) (hg : (W.alloc ob).grownBy w2 v.ownBlock) : TurnsK (fun k o => B ≤ k ∧ ∃ cs, o = .cells cs 59 (0, 0)) W w2 := by
  refine TurnsK.grown (World_grown_alloc hg) fun k o e hk => ⟨own_block_ge h.row k e, ?_⟩
  rcases h.row.2 with ⟨rfl, _⟩ | ⟨g, cap, cur, rfl, _, h2, _⟩
  · simp [Value.ownBlock] at e
  · obtain rfl : g = k := by simpa [Value.ownBlock] using e
    rw [h2] at hk
    cases hk
    exact ⟨_, rfl⟩
end Go.Proofs.YtellifcjamedkaaGreat
