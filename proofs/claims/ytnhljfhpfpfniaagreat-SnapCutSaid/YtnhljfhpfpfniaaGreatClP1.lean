/- The program's runs of a column, told one by one by an iterator. -/
import Derived.Test.YtnhljfhpfpfniaaGreatClRange
import Derived.Test.YtnhljfhpfpfniaaGreatClLaw
import Derived.BigQuiet
namespace Go.Proofs.YtnhljfhpfpfniaaGreat
open Go.RowKit Go.Shelf Base Base2
attribute [local go_sem] Oper.semAt_some

theorem diffs_at : ∀ (l : List Int) (a : Int) (i : Nat) (y : Int), l[i]? = some y → (diffs a l)[i]? = some (w64 (y - (l.take i).getLastD a))
  | [], a, i, y, h => by simp at h
  | x :: l, a, 0, y, h => by simp at h; subst h; simp [diffs]
  | x :: l, a, i + 1, y, h => by
    have ih := diffs_at l x i y (by simpa using h)
    show (diffs x l)[i]? = _
    rw [ih, List.take_succ_cons, List.getLastD_cons]
theorem Turns.drewN {T : Nat → Prop} {A B : World} (h : Turns T A B) (m : Nat) : Turns T A (B.drewN m) := ⟨h.os, h.tape, h.output, h.size, h.block⟩

set_option maxRecDepth 100000 in
theorem difference32 (a : Option Addr) (c i : Nat) (l : List Int) (d : Int) (w : World) (hr : I64s w a l) (hin : ∀ x ∈ l, in64 x) (hl : l.length ≤ maxLen) (hd : (diffs 0 l)[i]? = some d) :
    Calls Tryz.prog 131 #[.slice a l.length c, .int .i64 (i : Int)] w fun e w' => e = .returned (.int .i64 d) ∧ ∃ m, w' = w.drewN m := by
  have hil : i < l.length := by have := (List.getElem?_eq_some_iff.1 hd).1; rwa [diffs_len] at this
  obtain ⟨y, hy⟩ : ∃ y, l[i]? = some y := ⟨l[i], by simp [hil]⟩
  have hd2 := (diffs_at l 0 i y hy).symm.trans hd
  have hd3 := Option.some.inj hd2
  rcases hr with hr | ⟨b, off, rfl, hbw, hcs⟩
  · rw [hr] at hil; simp at hil
  have c0 := hcs i y hy
  unfold maxLen at hl
  rcases Nat.eq_zero_or_pos i with rfl | hi
  · have hyd : y = d := by rw [← hd3]; show y = w64 (y - 0); rw [Int.sub_zero, w64_of (hin y (List.mem_of_getElem? hy))]
    subst hyd
    rw [Nat.add_zero] at c0
    clear hd hd2 hd3 hcs hy hin
    go_enter Tryz.func131, Tryz.ntmps131
    go_wp2
    go_ret
    exact ⟨rfl, 0, rfl⟩
  · obtain ⟨z, hz⟩ : ∃ z, l[i - 1]? = some z := ⟨l[i - 1]'(by omega), by simp [show i - 1 < l.length by omega]⟩
    have hlast : (l.take i).getLastD 0 = z := by
      rw [show i = (i - 1) + 1 by omega, List.take_add_one, hz]; simp
    rw [hlast] at hd3
    have c1 := hcs (i - 1) z hz
    have hi0 : ((i : Int) == 0) = false := by rw [beq_eq_false_iff_ne]; omega
    obtain ⟨j, hj⟩ : ∃ j, i - 1 = j := ⟨_, rfl⟩
    have hji : (i : Int) - 1 = (j : Int) := by omega
    have hjl : j < l.length := by omega
    rw [hj] at c1
    have hwj : IntKind.i64.wrap ((j : Nat) : Int) = (j : Int) := by rw [IntKind.wrap_i64]; omega
    have hwd : IntKind.i64.wrap (y - z) = d := hd3
    clear hd hd2 hd3 hcs hy hin hlast hj hz
    go_enter Tryz.func131, Tryz.ntmps131
    go_wp2
    go_quiet (fail)
    go_wp2
    go_ret
    exact ⟨rfl, _, rfl⟩

theorem runs16 (a : Option Addr) (n c : Nat) (w : World) : CallsIn Fence.wide 9 Tryz.prog 63 #[.slice a n c] w fun e w' => e = .returned (.func (.func 130) #[] #[.pointer (some ⟨w.heap.size, 0, none⟩)]) ∧ w' = w.alloc (.cells #[.slice a n c] 59) := by
  refine callsIn_of_wp Tryz.func63 rfl trivial ?_ rfl
  simp only [Tryz.ntmps63, List.size_toArray, List.length_cons, List.length_nil, Nat.reduceAdd, Nat.reduceSub, Array.replicate_succ, Array.replicate_zero, List.push_toArray, List.append_toArray, List.nil_append, List.cons_append]
  gi_wp2
  go_ret
  exact ⟨rfl, rfl⟩

/-- What is handed over of a run. -/
def encT (x : RunT) : Array Value := #[.int .i64 x.1, .int .u64 (x.2 : Int)]
/-- What is known of a run that is handed over: it goes on the runs ahead, so many numbers at most. -/
def TlR (M : Nat) (pre : List RunT) (x : RunT) : Prop := Canon none (pre ++ [x]) ∧ total (pre ++ [x]) ≤ M ∧ in64 x.1
/-- What a round keeps for the runs' iterator. -/
def KpR (n b : Nat) (W W' : World) : Prop := Below n W W' ∧ W'.heap[b]? = W.heap[b]?
theorem take_rep (D : List Int) (d : Int) (t : Nat) : ∀ k, t + k ≤ D.length → (∀ j, t ≤ j → j < t + k → D[j]? = some d) → D.take (t + k) = D.take t ++ List.replicate k d
  | 0, _, _ => by simp
  | k + 1, hl, h => by
    have ih := take_rep D d t k (by omega) (fun j h1 h2 => h j h1 (by omega))
    rw [← Nat.add_assoc, List.take_add_one, ih, h (t + k) (by omega) (by omega), List.replicate_succ']
    simp [List.append_assoc]

set_option maxRecDepth 100000 in
set_option maxHeartbeats 4000000 in
theorem run31 (n : Nat) (hn : 1 ≤ n) (lo Bn : Nat) (a : Option Addr) (c : Nat) (l : List Int) (V : World) (hr : I64s V a l) (hin : ∀ x ∈ l, in64 x) (hl : l.length ≤ 1000000) (J Jx : List RunT → World → Prop)
    (hJ : Bears (fun _ => False) J)
    (hY : ∀ pre x W, J pre W → TlR l.length pre x → YieldAt Fence.wide (n - 1) Tryz.prog lo (encT x) W fun e W' =>
      (e = .returned (.bool true) ∧ J (pre ++ [x]) W' ∧ KpR V.heap.size Bn W W') ∨ (e = .returned (.bool false) ∧ Jx (pre ++ [x]) W'))
    (W : World) (hV : Below V.heap.size V W) (hBn : W.heap[Bn]? = some (.cells #[.slice a l.length c] 59 (0, 0))) (h0 : J [] W) :
    CallsIn Fence.wide n Tryz.prog 130 #[.func (.yield lo) #[] #[], .pointer (some ⟨Bn, 0, none⟩)] W fun e W' => (∃ v, e = .returned v) ∧
      ((∃ ys, ys = runsS l ∧ J ys W') ∨ (∃ pre, True ∧ Jx pre W')) := by
  have hdl : (diffs 0 l).length = l.length := diffs_len l 0
  have HD := Lib.hid (fun W (h : Below V.heap.size V W) (i : Nat) (d : Int) (hd : (diffs 0 l)[i]? = some d) => difference32 a c i l d W (hr.below h) hin (by unfold maxLen; omega) hd)
  have HI := Lib.hid (diffs_in l 0)
  have HRS := Lib.hid (fun (r : List RunT) => runsS_is (l := l) (r := r))
  generalize runsS l = RES at *
  generalize diffs 0 l = D at *
  obtain ⟨M, hM⟩ : ∃ M, l.length = M := ⟨_, rfl⟩
  rw [hM] at hl hdl hBn HD hY
  have HY := Lib.hid hY
  have HJ := Lib.hid hJ
  have H0 := Lib.hid h0
  have HDL := Lib.hid hdl
  have HB := Lib.hid hBn
  have HV := Lib.hid hV
  clear hY hJ h0 hr hin hdl hM hBn hV
  refine callsIn_of_wp Tryz.func130 rfl trivial ?_ rfl
  simp only [Tryz.ntmps130, List.size_toArray, List.length_cons, List.length_nil, Nat.reduceAdd, Nat.reduceSub, Array.replicate_succ, Array.replicate_zero, List.push_toArray, List.append_toArray, List.nil_append, List.cons_append]
  gi_wp2
  gi_loopw [3] (fun v W => ∃ (t : Nat) (pre : List RunT), v = .int .i64 (t : Int) ∧ t ≤ M ∧ Canon none pre ∧ expand pre = D.take t ∧ (∀ p d, pre.getLast? = some p → D[t]? = some d → p.1 ≠ d) ∧ Below V.heap.size V W ∧ W.heap[Bn]? = some (.cells #[.slice a M c] 59 (0, 0)) ∧ J pre W) (fun v _ => M - (intOf v).toNat)
  case atStart => exact ⟨0, [], rfl, Nat.zero_le _, trivial, rfl, fun p d h => by simp at h, HV.out, HB.out, H0.out⟩
  case round =>
    clear H0 HB HV
    obtain ⟨t, pre, rfl, ht, hcan, hexp, hlast, hV, hBn, hj⟩ := hrel
    have hc0 : wr.cell? ⟨Bn, 0, none⟩ = some (.slice a M c) := by rw [cell_of_row _ _ _ _ 59 (0, 0) hBn]; rfl
    have HC := Lib.hid hcan
    have HE := Lib.hid hexp
    have HL := Lib.hid hlast
    have HV := Lib.hid hV
    have HBn := Lib.hid hBn
    have HJ0 := Lib.hid hj
    clear hcan hexp hlast hV hBn hj
    by_cases hlt : t < M
    · obtain ⟨d, hd⟩ : ∃ d, D[t]? = some d := ⟨D[t]'(by have := HDL.out; omega), by simp⟩
      have HD0 := Lib.hid (HD.out wr HV.out t d hd)
      have Hd := Lib.hid hd
      have hw1 : IntKind.i64.wrap ((t : Int) + 1) = ((t + 1 : Nat) : Int) := by rw [IntKind.wrap_i64]; omega
      clear hd
      gi_wp2_with (refine ⟨trivial, ?_⟩; gi_at_call 131; refine (callsIn_wide.2 HD0.out).mono ?_; rintro e w1 ⟨rfl, m, rfl⟩)
      gi_loopw [5] (fun v W => ∃ q : Nat, v = .int .i64 (q : Int) ∧ t < q ∧ q ≤ M ∧ (∀ j, t ≤ j → j < q → D[j]? = some d) ∧ Below V.heap.size V W ∧ W.heap[Bn]? = some (.cells #[.slice a M c] 59 (0, 0)) ∧ J pre W) (fun v _ => M - (intOf v).toNat)
      case atStart => exact ⟨t + 1, by go_num, by omega, hlt, fun j h1 h2 => by rw [show j = t by omega]; exact Hd.out, ⟨HV.out.os, HV.out.tape, HV.out.output, HV.out.size, HV.out.block⟩, HBn.out, HJ.out _ _ _ HJ0.out ((Turns.refl _ _).drewN m)⟩
      case round =>
        clear hc0
        obtain ⟨q, rfl, htq, hqM, hA, hV1, hBn1, hj1⟩ := hrel
        have hc0 : wr.cell? ⟨Bn, 0, none⟩ = some (.slice a M c) := by rw [cell_of_row _ _ _ _ 59 (0, 0) hBn1]; rfl
        have HA := Lib.hid hA
        have HV1 := Lib.hid hV1
        have HBn1 := Lib.hid hBn1
        have HJ1 := Lib.hid hj1
        clear hA hV1 hBn1 hj1
        obtain ⟨k, hk⟩ : ∃ k, q = t + k := ⟨q - t, by omega⟩
        have hklt : 0 < k := by omega
        have HK := Lib.hid hk
        clear hk
        by_cases hlq : q < M
        · obtain ⟨d2, hd2⟩ : ∃ d2, D[q]? = some d2 := ⟨D[q]'(by have := HDL.out; omega), by simp⟩
          have HD1 := Lib.hid (HD.out wr HV1.out q d2 hd2)
          by_cases hdd : d2 = d
          · subst hdd
            have HA2 : Hid (∀ j, t ≤ j → j < q + 1 → D[j]? = some d2) := fun j h1 h2 => by
              by_cases e : j = q
              · rw [e]; exact hd2
              · exact HA.out j h1 (by omega)
            clear hd2 HK HA
            gi_wp2_with (refine ⟨trivial, ?_⟩; gi_at_call 131; refine (callsIn_wide.2 HD1.out).mono ?_; rintro e w2 ⟨rfl, m2, rfl⟩)
            go_roundw
            case rel => exact ⟨q + 1, by go_num, by omega, hlq, HA2.out, ⟨HV1.out.os, HV1.out.tape, HV1.out.output, HV1.out.size, HV1.out.block⟩, HBn1.out, HJ.out _ _ _ HJ1.out ((Turns.refl _ _).drewN m2)⟩
            case measure => simp [intOf]; omega
          · have hne : (d2 == d) = false := by rw [beq_eq_false_iff_ne]; exact hdd
            have HNE : Hid (∀ d', D[q]? = some d' → d ≠ d') := fun d' h => by rw [hd2] at h; cases h; exact Ne.symm hdd
            clear hd2
            gi_wp2_with (refine ⟨trivial, ?_⟩; gi_at_call 131; refine (callsIn_wide.2 HD1.out).mono ?_; rintro e w2 ⟨rfl, m2, rfl⟩)
            have hk1 : (q : Int) - (t : Int) = (k : Int) := by have := HK.out; omega
            have hk2 : IntKind.u64.wrap (k : Int) = (k : Int) := by rw [IntKind.wrap_u64]; have := HK.out; omega
            have hexq : expand (pre ++ [(d, k)]) = D.take q := by
              rw [expand_snoc, HE.out, HK.out, take_rep D d t k (by have := HDL.out; have := HK.out; omega) (fun j h1 h2 => HA.out j h1 (by have := HK.out; omega))]
            have hcan2 : Canon none (pre ++ [(d, k)]) := canon_snoc (by omega) pre none HC.out (fun p hp e => HL.out p d hp Hd.out e) (fun _ => by simp)
            have htot : total (pre ++ [(d, k)]) = q := by rw [← expand_len, hexq, List.length_take]; have := HDL.out; omega
            obtain ⟨fn, tmps, assign, body, hy, hR⟩ := HY.out pre (d, k) (wr.drewN m2) (HJ.out _ _ _ HJ1.out ((Turns.refl _ _).drewN m2)) ⟨hcan2, by omega, HI.out d (List.mem_of_getElem? Hd.out)⟩
            dsimp only [encT] at hy
            rw [← hk1] at hy
            clear hk1 hk2
            have HX := Lib.hid hexq
            have HC2 := Lib.hid hcan2
            have HV2 := Lib.hid (show Below V.heap.size V (wr.drewN m2) from ⟨HV1.out.os, HV1.out.tape, HV1.out.output, HV1.out.size, HV1.out.block⟩)
            have HB2 := Lib.hid (show ((wr.drewN m2)).heap[Bn]? = some (.cells #[.slice a M c] 59 (0, 0)) from HBn1.out)
            clear hexq hcan2 htot HE HC HL HA HY HD HJ1 HBn1 HV1 HD0 HJ0 HBn HV HI Hd HD1 hdd hne
            gi_wp2
            rw [hy]
            gi_wp2
            refine hR.mono ?_
            rintro e W3 (⟨rfl, hJ3, hb3, hk3⟩ | ⟨rfl, hJx3⟩)
            · have HJ3 := Lib.hid hJ3
              have HV3 := Lib.hid (HV2.out.trans hb3)
              have HB3 := Lib.hid (hk3.trans HB2.out)
              clear hJ3 hb3 hk3 hR hy
              gi_wp2
              go_roundw
              case rel => exact ⟨q, _, rfl, hqM, HC2.out, HX.out, fun p d' hp hd' => by rw [List.getLast?_concat] at hp; cases hp; exact HNE.out d' hd', HV3.out, HB3.out, HJ3.out⟩
              case measure => simp [intOf]; omega
            · clear hR hy
              gi_wp2
              refine bodyPost_ret (results_none rfl _ _ _) rfl ?_
              exact ⟨⟨_, rfl⟩, .inr ⟨_, trivial, hJx3⟩⟩
        · have hqe : q = M := by omega
          have HNE : Hid (∀ d', D[q]? = some d' → d ≠ d') := fun d' h => by have := (List.getElem?_eq_some_iff.1 h).1; have := HDL.out; omega
          subst hqe
          gi_wp2
          refine ⟨trivial, ?_⟩
          gi_wp2
          have hk1 : (q : Int) - (t : Int) = (k : Int) := by have := HK.out; omega
          have hk2 : IntKind.u64.wrap (k : Int) = (k : Int) := by rw [IntKind.wrap_u64]; have := HK.out; omega
          have hexq : expand (pre ++ [(d, k)]) = D.take q := by
            rw [expand_snoc, HE.out, HK.out, take_rep D d t k (by have := HDL.out; have := HK.out; omega) (fun j h1 h2 => HA.out j h1 (by have := HK.out; omega))]
          have hcan2 : Canon none (pre ++ [(d, k)]) := canon_snoc (by omega) pre none HC.out (fun p hp e => HL.out p d hp Hd.out e) (fun _ => by simp)
          have htot : total (pre ++ [(d, k)]) = q := by rw [← expand_len, hexq, List.length_take]; have := HDL.out; omega
          obtain ⟨fn, tmps, assign, body, hy, hR⟩ := HY.out pre (d, k) wr (HJ.out _ _ _ HJ1.out (Turns.refl _ _)) ⟨hcan2, by omega, HI.out d (List.mem_of_getElem? Hd.out)⟩
          dsimp only [encT] at hy
          rw [← hk1] at hy
          clear hk1 hk2
          have HX := Lib.hid hexq
          have HC2 := Lib.hid hcan2
          have HV2 := Lib.hid (show Below V.heap.size V wr from HV1.out)
          have HB2 := Lib.hid (show (wr).heap[Bn]? = some (.cells #[.slice a q c] 59 (0, 0)) from HBn1.out)
          clear hexq hcan2 htot HE HC HL HA HY HD HJ1 HBn1 HV1 HD0 HJ0 HBn HV HI Hd 
          gi_wp2
          rw [hy]
          gi_wp2
          refine hR.mono ?_
          rintro e W3 (⟨rfl, hJ3, hb3, hk3⟩ | ⟨rfl, hJx3⟩)
          · have HJ3 := Lib.hid hJ3
            have HV3 := Lib.hid (HV2.out.trans hb3)
            have HB3 := Lib.hid (hk3.trans HB2.out)
            clear hJ3 hb3 hk3 hR hy
            gi_wp2
            go_roundw
            case rel => exact ⟨q, _, rfl, hqM, HC2.out, HX.out, fun p d' hp hd' => by rw [List.getLast?_concat] at hp; cases hp; exact HNE.out d' hd', HV3.out, HB3.out, HJ3.out⟩
            case measure => simp [intOf]; omega
          · clear hR hy
            gi_wp2
            refine bodyPost_ret (results_none rfl _ _ _) rfl ?_
            exact ⟨⟨_, rfl⟩, .inr ⟨_, trivial, hJx3⟩⟩
    · have hte : t = M := by omega
      subst hte
      have HR : Hid (RES = pre) := HRS.out pre HC.out (by rw [HE.out, ← HDL.out, List.take_length])
      clear HRS HE HL HD HI HC HY
      gi_wp2
      go_end0
      exact ⟨⟨_, rfl⟩, .inl ⟨pre, HR.out.symm, HJ0.out⟩⟩
end Go.Proofs.YtnhljfhpfpfniaaGreat
