/- The walk of FrameTorn, given what the example and the program's Scan answer. -/
import Derived.Test.YtbaajabiimckoaaFrBytes
import Derived.Test.YtbaajabiimckoaaFrScan
namespace Go.Proofs.Ytbaajabiimckoaa
open Go.RowKit Base

/-- What the first loop holds. -/
def TornR (w : World) (P : List (ByteArray × Nat)) (va vw vh vi : Value) (W : World) : Prop :=
  ∃ i : Nat, i ≤ P.length ∧ va = .string (bytesB (allP (P.take i))) ∧ vw = .int .i64 (wantP (P.take i) : Int) ∧ vh = .bool ((P.take i).all whP) ∧ vi = .int .i64 (i : Int) ∧ Below w.heap.size w W ∧ ∀ p ∈ P.take i, 1 ≤ p.1.size
theorem sumP_le (A : List (ByteArray × Nat)) (h : ∀ p ∈ A, (wrapS p.1).size ≤ 300) : sumP A ≤ 300 * A.length := by
  induction A with
  | nil => exact Nat.le_refl _
  | cons p A ih =>
    have h1 := h p (List.mem_cons_self ..)
    have h2 := ih (fun q hq => h q (List.mem_cons_of_mem _ hq))
    unfold sumP; rw [List.length_cons]; omega
theorem ext_take (L : List UInt8) (E : Nat) : (bytesB L).extract 0 E = bytesB (L.take E) := by
  apply ByteArray.ext; apply Array.toList_inj.1
  rw [Lib.extract_data, bytesB_list, bytesB_list, List.drop_zero, Nat.sub_zero]
/-- The sizes of frames in all. -/
def sumW (l : List ByteArray) : Nat := (l.map fun r => (wrapS r).size).sum
def totS (L : List (ByteArray × Nat)) : Nat := (L.map (·.2)).sum
theorem totS_rows (l : List ByteArray) : totS (l.map fun r => (r, (wrapS r).size)) = sumW l := by
  unfold totS sumW; rw [List.map_map]; rfl
theorem sumW_le (l : List ByteArray) (h : ∀ r ∈ l, (wrapS r).size ≤ 300) : sumW l ≤ 300 * l.length := by
  induction l with
  | nil => exact Nat.le_refl _
  | cons r l ih =>
    have h1 := h r (List.mem_cons_self ..)
    have h2 := ih (fun q hq => h q (List.mem_cons_of_mem _ hq))
    unfold sumW at h2 ⊢
    rw [List.map_cons, List.sum_cons, List.length_cons]; omega
theorem sumW_drop (l : List ByteArray) (i : Nat) (t : ByteArray) (h : l[i]? = some t) : sumW (l.drop i) = (wrapS t).size + sumW (l.drop (i + 1)) := by
  obtain ⟨hi, ht⟩ := List.getElem?_eq_some_iff.1 h
  rw [List.drop_eq_getElem_cons hi, ht]
  rfl
theorem own_form {W : World} {B n : Nat} {e : TypeId} {v : Value} {xs : List Value} (h : W.ownsRow B e 1 v n xs) : ∃ ao c, v = .slice ao n c := by
  rcases h.2 with ⟨rfl, rfl⟩ | ⟨g, c, _, rfl, _⟩
  · exact ⟨_, _, rfl⟩
  · exact ⟨_, _, rfl⟩
theorem minI (f k : Nat) : (min (f : Int) (k : Int)) = ((min f k : Nat) : Int) := by omega

set_option maxRecDepth 100000 in
set_option maxHeartbeats 8000000 in
theorem tornW (a : Option Addr) (l : List ByteArray) (ca : Nat) (b : Option Addr) (ks : List Nat) (cb : Nat) (cut : Nat) (w : World) (hr : StrsAt w a l) (hk : KeptAt w b ks) (hca : l.length ≤ ca) (_hcb : ks.length ≤ cb) (hm : l.length ≤ maxLen) (hmk : ks.length ≤ maxLen) (hcut : cut < 65536)
    (HSC : ∀ (S : ByteArray) (W : World), S.size ≤ 100000 → Calls Try.prog 11 #[.string S] W fun e w' => (∃ v, e = .returned (.tuple #[v, .int .i64 (totS (scanS S) : Int)]) ∧ w'.ownsRow W.heap.size 9 1 v (scanS S).length ((scanS S).map fun p => Value.string p.1)) ∧ Below W.heap.size W w')
    (HAL : ∀ W, Calls Try.prog 6 #[] W fun e w' => e = .returned (.bool true) ∧ Below W.heap.size W w') :
    Calls Try.prog 5 #[.slice a l.length ca, .slice b ks.length cb, .int .u16 (cut : Int)] w fun e w' => e = .returned (.bool true) ∧ Below w.heap.size w w' := by
  unfold maxLen at hm hmk
  have HSC' := Lib.hid HSC
  clear HSC
  have HA := Lib.hid (HAL w)
  have HG := Lib.hid (fun (W : World) (hb : Below w.heap.size w W) => great7 a l ca W (hr.below hb) hca)
  by_cases hg : greatS l = true
  · rw [hg] at HG
    clear hr hk HAL
    go_enter Try.func5, Try.ntmps5
    go_wp2_with (first
      | (go_at_call 6; refine HA.out.mono ?_; rintro e w1 ⟨rfl, hb⟩; have HB := Lib.hid hb; clear hb)
      | (go_at_call 15; refine (HG.out _ HB.out).mono ?_; rintro e w2 ⟨rfl, rfl⟩))
    go_ret
    exact ⟨rfl, HB.out⟩
  have hg' : greatS l = false := by simpa using hg
  rw [hg'] at HG
  obtain ⟨h40, h200⟩ := greatS_no hg'
  by_cases h60 : 60 < ks.length
  · clear hr hk HAL
    go_enter Try.func5, Try.ntmps5
    go_wp2_with (first
      | (go_at_call 6; refine HA.out.mono ?_; rintro e w1 ⟨rfl, hb⟩; have HB := Lib.hid hb; clear hb)
      | (go_at_call 15; refine (HG.out _ HB.out).mono ?_; rintro e w2 ⟨rfl, rfl⟩))
    go_ret
    exact ⟨rfl, HB.out⟩
  have hk60 : ks.length ≤ 60 := by omega
  obtain ⟨P, hP⟩ : ∃ P, pairsT l ks = P := ⟨_, rfl⟩
  have hPl : P.length = l.length := by rw [← hP]; exact pairsT_len l ks
  go_enter Try.func5, Try.ntmps5
  go_upto_region 9 with (first
      | (go_at_call 6; refine HA.out.mono ?_; rintro e w1 ⟨rfl, hb⟩; have HB := Lib.hid hb; clear hb)
      | (go_at_call 15; refine (HG.out _ HB.out).mono ?_; rintro e w2 ⟨rfl, rfl⟩))
  have hP300 : ∀ p ∈ P, (wrapS p.1).size ≤ 300 := by
    intro p hp
    have h1 : p.1 ∈ l := by have := List.mem_map_of_mem (f := (·.1)) hp; rwa [← hP, pairsT_rows] at this
    have h2 := h200 _ h1
    rw [wrapS_size]; have := encB_size p.1.size; omega
  have hAL : ∀ j, j ≤ P.length → (allP (P.take j)).length ≤ 300 * j := by
    intro j hj
    rw [allP_len]
    have h1 := sumP_le (P.take j) (fun p hp => hP300 p (List.mem_of_mem_take hp))
    rw [List.length_take, Nat.min_eq_left hj] at h1
    exact h1
  go_loopw [7, 8, 9, 10] (fun va vw vh vi W => TornR w P va vw vh vi W) (fun _ _ _ vi _ => P.length - (intOf vi).toNat)
  case atStart => exact ⟨0, by omega, rfl, rfl, rfl, rfl, HB.out, fun p hp => by simp at hp⟩
  case round =>
    obtain ⟨i, hi, rfl, rfl, rfl, rfl, hb, hpos⟩ := hrel
    by_cases hlt : i < l.length
    · obtain ⟨bk, off, rfl, hblt, hcells⟩ := hr.some (by omega)
      obtain ⟨t, ht⟩ : ∃ t, l[i]? = some t := ⟨l[i], by simp [hlt]⟩
      have hts : t.size ≤ 200 := h200 t (List.mem_of_getElem? ht)
      have ct := (hb.cell (p := ⟨bk, off + i, none⟩) hblt).trans (hcells i t ht)
      have HBL := Lib.hid hb
      by_cases ht0 : t.size = 0
      · have e0 : t = ⟨#[]⟩ := by
          apply ByteArray.ext; apply Array.toList_inj.1; apply List.eq_nil_of_length_eq_zero
          have := Lib.size_eq t; omega
        subst e0
        clear hr hk HAL HA HG hb hcells ht hP hAL h200 hpos
        go_wp2
        go_ret
        exact ⟨rfl, HBL.out⟩
      have hne : (t.toList == (⟨#[]⟩ : ByteArray).toList) = false := by
        rw [beq_eq_false_iff_ne, ByteArray.toList_eq, ByteArray.toList_eq]
        intro h
        have h5 := Lib.size_eq t
        rw [h] at h5
        exact ht0 h5
      have hne2 : t.toList.isEmpty = false := by
        cases hq : t.toList with
        | nil => rw [hq] at hne; simp [ByteArray.toList_eq] at hne
        | cons a b => rfl
      have HW := Lib.hid (fun (W : World) => rwrap9 t W (by omega))
      have hpi : P[i]? = some (t, keptT (wrapS t).size ks[i]?) := by rw [← hP, pairsT_at, ht]; rfl
      have hxs : (wrapS t).size ≤ 300 := by rw [wrapS_size]; have := encB_size t.size; omega
      obtain ⟨x, hx⟩ : ∃ x, wrapS t = x := ⟨_, rfl⟩
      have hxl : x.data.toList.length = x.size := (Lib.size_eq x).symm
      rw [hx] at HW hpi hxs
      obtain ⟨K, hK⟩ : ∃ K, keptT x.size ks[i]? = K := ⟨_, rfl⟩
      rw [hK] at hpi
      have hKx : K ≤ x.size := by rw [← hK]; unfold keptT; split <;> omega
      obtain ⟨wh, hwh⟩ : ∃ wh, (P.take i).all whP = wh := ⟨_, rfl⟩
      obtain ⟨n0, hn0⟩ : ∃ n, wantP (P.take i) = n := ⟨_, rfl⟩
      have hn40 : n0 ≤ 40 := by rw [← hn0]; have h := wantP_le (P.take i); rw [List.length_take] at h; omega
      obtain ⟨all, hall⟩ : ∃ z, bytesB (allP (P.take i)) = z := ⟨_, rfl⟩
      have hallz : all.size ≤ 12000 := by rw [← hall, bytesB_size]; have := hAL i (by omega); omega
      have htk : P.take (i + 1) = P.take i ++ [(t, K)] := by rw [List.take_add_one, hpi]; rfl
      have H1 : Hid (bytesB (allP (P.take (i + 1))) = all ++ bytesB (tornL x.data.toList K)) := by
        show _ = _
        rw [htk, allP_app, bytesB_app, hall]
        congr 2
        show tornL (wrapL t) K ++ [] = _
        rw [List.append_nil]; unfold wrapL; rw [hx]
      have HPOS : Hid (∀ p ∈ P.take (i + 1), 1 ≤ p.1.size) := by
        intro p hp
        rw [htk] at hp
        rcases List.mem_append.1 hp with h | h
        · exact hpos p h
        · simp at h; subst h; show 1 ≤ t.size; omega
      have hwp : whP (t, K) = decide (x.size ≤ K) := by unfold whP; rw [hx]
      have H2 : Hid ((P.take (i + 1)).all whP = (wh && decide (x.size ≤ K))) := by show _ = _; rw [htk, List.all_append, hwh]; simp [hwp]
      have H3 : Hid (wantP (P.take (i + 1)) = if (wh && decide (x.size ≤ K)) = true then n0 + 1 else n0) := by show _ = _; rw [htk, wantP_snoc, hwh, hn0, hwp]
      rw [hwh, hn0, hall]
      by_cases hkl : i < ks.length
      · obtain ⟨k, hkk⟩ : ∃ k, ks[i]? = some k := ⟨ks[i], by simp [hkl]⟩
        rw [hkk] at hK
        have hKm : min x.size k = K := hK
        rcases hk.2 with hk0 | ⟨bb, off2, rfl, hbb, hkc⟩
        · rw [hk0] at hkl; simp at hkl
        have HCK := Lib.hid (hkc i k hkk)
        have hku := hk.1 k (List.mem_of_getElem? hkk)
        have hmin : min (x.size : Int) (k : Int) = (K : Int) := by omega
        clear hr hk HAL HA HG hb hcells hkc hP hAL h200 hx hK hwh hn0 hall htk hwp hpi hpos
        go_wp2_with (first
          | (go_at_call 9; refine (HW.out _).mono ?_; rintro e w3 ⟨rfl, hb3⟩; have HB3 := Lib.hid (HBL.out.trans (hb3.mono HBL.out.size)); have ck := (HB3.out.cell (p := ⟨bb, off2 + i, none⟩) hbb).trans HCK.out; obtain ⟨cp, w4, hcv, hby, hb4⟩ := bytesOf w3 x; have HBY := Lib.hid hby; have HB4 := Lib.hid (HB3.out.trans (hb4.mono HB3.out.size)); clear hb3 hby hb4))
        have hgl : w.heap.size ≤ w3.heap.size := HB3.out.size
        generalize w3.heap.size = g at *
        have HXL := Lib.hid hxl
        clear hcv
        go_loopw [14] (fun vj W => ∃ j : Nat, K ≤ j ∧ j ≤ x.size ∧ vj = .int .i64 (j : Int) ∧ BytesAt W g cp (tornTo x.data.toList K j) ∧ Below w.heap.size w W) (fun vj _ => x.size - (intOf vj).toNat)
        case atStart => exact ⟨K, Nat.le_refl _, hKx, rfl, by rw [tornTo_start]; exact HBY.out, HB4.out⟩
        case round =>
          clear HBY HB4
          obtain ⟨j, hKj, hjx, rfl, hby, hb5⟩ := hrel
          have htl := tornTo_len x.data.toList K j hKj (by rw [HXL.out]; exact hjx)
          rw [HXL.out] at htl
          by_cases hjl : j < x.size
          · obtain ⟨bj, cj⟩ : ∃ u, wr.cell? ⟨g, j, none⟩ = some u := ⟨_, hby.cell j (by omega)⟩
            have fj := hby.free j (by omega)
            have hset := hby.set j 0
            rw [tornTo_next _ _ _ hKj (by rw [HXL.out]; exact hjl)] at hset
            have HSET : Hid (BytesAt (wr.setCell ⟨g, j, none⟩ (.int .u8 0)) g cp (tornTo x.data.toList K (j + 1))) := hset
            have HB5 := Lib.hid (hb5.setCell (p := ⟨g, j, none⟩) hgl (.int .u8 0))
            clear hby hb5 hset htl
            go_wp2
            go_roundw
            case rel => exact ⟨j + 1, by omega, by omega, by go_num, HSET.out, HB5.out⟩
            case measure => simp [intOf]; omega
          · have hje : j = x.size := by omega
            subst hje
            have htx := hby.text
            rw [htl] at htx
            have hte : tornTo x.data.toList K x.size = tornL x.data.toList K := by rw [← HXL.out]; exact tornTo_end _ _
            rw [hte] at htx
            have hts2 : (bytesB (tornL x.data.toList K)).size ≤ 300 := by rw [bytesB_size, tornL_len, HXL.out]; exact hxs
            have HB6 := Lib.hid hb5
            clear hby hb5 htl hte
            generalize bytesB (tornL x.data.toList K) = tb at *
            cases wh with
            | false =>
              go_wp2
              go_roundw
              case rel => exact ⟨i + 1, by omega, by rw [H1.out], by rw [H3.out]; rfl, by rw [H2.out]; rfl, by go_num, HB6.out, HPOS.out⟩
              case measure => simp [intOf]; omega
            | true =>
              by_cases hKn : K = x.size
              · have hb1 : ((K : Int) == (x.size : Int)) = true := by rw [beq_iff_eq]; omega
                have hd : decide (x.size ≤ K) = true := decide_eq_true (by omega)
                clear hKn
                go_wp2
                go_roundw
                case rel => exact ⟨i + 1, by omega, by rw [H1.out], by rw [H3.out, hd]; show _ = Value.int .i64 ((n0 + 1 : Nat) : Int); go_num, by rw [H2.out, hd]; rfl, by go_num, HB6.out, HPOS.out⟩
                case measure => simp [intOf]; omega
              · have hb1 : ((K : Int) == (x.size : Int)) = false := by rw [beq_eq_false_iff_ne]; omega
                have hd : decide (x.size ≤ K) = false := decide_eq_false (by omega)
                clear hKn
                go_wp2
                go_roundw
                case rel => exact ⟨i + 1, by omega, by rw [H1.out], by rw [H3.out, hd]; rfl, by rw [H2.out, hd]; rfl, by go_num, HB6.out, HPOS.out⟩
                case measure => simp [intOf]; omega
      · have hkn : ks[i]? = none := List.getElem?_eq_none (by omega)
        rw [hkn] at hK
        have hKe : K = x.size := hK.symm
        subst hKe
        clear hK
        clear hr hk HAL HA HG hb hcells hP hAL h200 hx hwh hn0 hall htk hwp hpi hpos
        go_wp2_with (first
          | (go_at_call 9; refine (HW.out _).mono ?_; rintro e w3 ⟨rfl, hb3⟩; have HB3 := Lib.hid (HBL.out.trans (hb3.mono HBL.out.size)); obtain ⟨cp, w4, hcv, hby, hb4⟩ := bytesOf w3 x; have HBY := Lib.hid hby; have HB4 := Lib.hid (HB3.out.trans (hb4.mono HB3.out.size)); clear hb3 hby hb4))
        have hgl : w.heap.size ≤ w3.heap.size := HB3.out.size
        generalize w3.heap.size = g at *
        have HXL := Lib.hid hxl
        clear hcv
        go_loopw [14] (fun vj W => ∃ j : Nat, x.size ≤ j ∧ j ≤ x.size ∧ vj = .int .i64 (j : Int) ∧ BytesAt W g cp (tornTo x.data.toList x.size j) ∧ Below w.heap.size w W) (fun vj _ => x.size - (intOf vj).toNat)
        case atStart => exact ⟨x.size, Nat.le_refl _, hKx, rfl, by rw [tornTo_start]; exact HBY.out, HB4.out⟩
        case round =>
          clear HBY HB4
          obtain ⟨j, hKj, hjx, rfl, hby, hb5⟩ := hrel
          have htl := tornTo_len x.data.toList x.size j hKj (by rw [HXL.out]; exact hjx)
          rw [HXL.out] at htl
          by_cases hjl : j < x.size
          · exact absurd hjl (by omega)
          · have hje : j = x.size := by omega
            subst hje
            have htx := hby.text
            rw [htl] at htx
            have hte : tornTo x.data.toList x.size x.size = tornL x.data.toList x.size := by rw [← HXL.out]; exact tornTo_end _ _
            rw [hte] at htx
            have hts2 : (bytesB (tornL x.data.toList x.size)).size ≤ 300 := by rw [bytesB_size, tornL_len, HXL.out]; exact hxs
            have HB6 := Lib.hid hb5
            clear hby hb5 htl hte
            generalize bytesB (tornL x.data.toList x.size) = tb at *
            cases wh with
            | false =>
              go_wp2
              go_roundw
              case rel => exact ⟨i + 1, by omega, by rw [H1.out], by rw [H3.out]; rfl, by rw [H2.out]; rfl, by go_num, HB6.out, HPOS.out⟩
              case measure => simp [intOf]; omega
            | true =>
              have hd : decide (x.size ≤ x.size) = true := decide_eq_true (Nat.le_refl _)
              go_wp2
              go_roundw
              case rel => exact ⟨i + 1, by omega, by rw [H1.out], by rw [H3.out, hd]; show _ = Value.int .i64 ((n0 + 1 : Nat) : Int); go_num, by rw [H2.out, hd]; rfl, by go_num, HB6.out, HPOS.out⟩
              case measure => simp [intOf]; omega
    · have hie : i = P.length := by omega
      subst hie
      have hallz : (bytesB (allP P)).size ≤ 12000 := by rw [bytesB_size]; have := hAL P.length (Nat.le_refl _); rw [List.take_length] at this; omega
      rw [List.take_length] at hpos ⊢
      have hwl := wantP_le P
      obtain ⟨n0, hn0⟩ : ∃ n, wantP P = n := ⟨_, rfl⟩
      obtain ⟨all, hall⟩ : ∃ z, bytesB (allP P) = z := ⟨_, rfl⟩
      obtain ⟨wh, hwh⟩ : ∃ z, P.all whP = z := ⟨_, rfl⟩
      rw [hn0] at hwl ⊢
      rw [hall] at hallz ⊢
      rw [hwh]
      have HBL := Lib.hid hb
      have HR := Lib.hid hr
      obtain ⟨E, hE⟩ : ∃ E, all.size - cut % (all.size + 1) = E := ⟨_, rfl⟩
      have hmd : cut % (all.size + 1) < all.size + 1 := Nat.mod_lt _ (by omega)
      have hE1 : (cut : Int) % ((all.size : Int) + 1) = ((cut % (all.size + 1) : Nat) : Int) := by rw [Int.natCast_emod]; rfl
      have hE15 : wrap64 ((all.size : Int) - (cut : Int) % ((all.size : Int) + 1)) = (E : Int) := by
        rw [hE1, ← hE]
        rw [IntWalk.wrap64_in _ (by omega)]; omega
      have hEa : E ≤ all.size := by omega
      have hPat : ∀ j, j < P.length → ∃ t K, l[j]? = some t ∧ P[j]? = some (t, K) := by
        intro j hj
        refine ⟨l[j]'(by omega), keptT (wrapS (l[j]'(by omega))).size ks[j]?, by simp [show j < l.length by omega], ?_⟩
        have hpa := pairsT_at l ks j
        rw [hP] at hpa
        rw [hpa]; simp [show j < l.length by omega]
      have hscan : ∀ n, standP P E = n → scanS (all.extract 0 E) = (l.take n).map (fun r => (r, (wrapS r).size)) := by
        intro n hn
        rw [← hall, ext_take, ← hn, ← hP]
        refine scan_rows l ks E (fun r hr5 => ?_)
        obtain ⟨p, hp, hpr⟩ : ∃ p ∈ P, p.1 = r := by
          have h6 : r ∈ P.map (·.1) := by rw [← hP, pairsT_rows]; exact hr5
          obtain ⟨p, hp, h7⟩ := List.mem_map.1 h6
          exact ⟨p, hp, h7⟩
        have h8 := hpos p hp
        have h9 := h200 r hr5
        rw [hpr] at h8
        exact ⟨h8, by omega⟩
      have hst : standP P E = cntP (P.take n0) E := by rw [standP_cnt, hn0]
      have HSCAN := Lib.hid (hscan _ hst)
      clear hscan hst
      have hp1 : P.length ≤ l.length := by omega
      have hp2 : l.length ≤ P.length := by omega
      clear hr hk HA HG hb hAL hwh hmd hE hE1 hPl
      go_wp2
      simp only [hE15]
      clear hE15
      go_loopw [16, 17, 18] (fun va vn vi W => ∃ i : Nat, i ≤ n0 ∧ va = .int .i64 (sumP (P.take i) : Int) ∧ vn = .int .i64 (cntP (P.take i) E : Int) ∧ vi = .int .i64 (i : Int) ∧ Below w.heap.size w W) (fun _ _ vi _ => n0 - (intOf vi).toNat)
      case atStart => exact ⟨0, by omega, rfl, rfl, rfl, HBL.out⟩
      case round =>
        clear HBL
        obtain ⟨i, hi, rfl, rfl, rfl, hb⟩ := hrel
        by_cases hi0 : i < n0
        · obtain ⟨t, K, ht, hpi⟩ := hPat i (by omega)
          obtain ⟨bk, off, rfl, hblt, hcells⟩ := HR.out.some (by omega)
          have ct := (hb.cell (p := ⟨bk, off + i, none⟩) hblt).trans (hcells i t ht)
          have hts : t.size ≤ 200 := h200 t (List.mem_of_getElem? ht)
          have HW := Lib.hid (fun (W : World) => rwrap9 t W (by omega))
          have hxs : (wrapS t).size ≤ 300 := by rw [wrapS_size]; have := encB_size t.size; omega
          have htk : P.take (i + 1) = P.take i ++ [(t, K)] := by rw [List.take_add_one, hpi]; rfl
          have H1 : Hid (sumP (P.take (i + 1)) = sumP (P.take i) + (wrapS t).size) := by show _ = _; rw [htk, sumP_app]; rfl
          have H2 : Hid (cntP (P.take (i + 1)) E = cntP (P.take i) E + (if sumP (P.take i) + (wrapS t).size ≤ E then 1 else 0)) := by show _ = _; rw [htk, cntP_snoc]
          have hs1 : sumP (P.take i) ≤ 12000 := by
            have h1 := sumP_le (P.take i) (fun p hp => hP300 p (List.mem_of_mem_take hp))
            rw [List.length_take] at h1; omega
          have hc1 : cntP (P.take i) E ≤ 40 := by have h1 := cntP_le (P.take i) E; rw [List.length_take] at h1; omega
          obtain ⟨x, hx⟩ : ∃ x, wrapS t = x := ⟨_, rfl⟩
          rw [hx] at HW hxs H1 H2
          obtain ⟨sm, hsm⟩ : ∃ z, sumP (P.take i) = z := ⟨_, rfl⟩
          obtain ⟨cn, hcn⟩ : ∃ z, cntP (P.take i) E = z := ⟨_, rfl⟩
          rw [hsm] at H1 H2 hs1 ⊢
          rw [hcn] at H2 hc1 ⊢
          have HBL := Lib.hid hb
          clear hb hcells ht hpi htk hx hsm hcn hPat h200 hP300 hpos hP
          by_cases hle : sm + x.size ≤ E
          · have hle2 : (sm : Int) + (x.size : Int) ≤ (E : Int) := by omega
            have H3 : Hid (cntP (P.take (i + 1)) E = cn + 1) := by show _ = _; rw [H2.out, if_pos hle]
            clear H2
            go_wp2_with (go_at_call 9; refine (HW.out _).mono ?_; rintro e w3 ⟨rfl, hb3⟩; have HB3 := Lib.hid (HBL.out.trans (hb3.mono HBL.out.size)); clear hb3)
            go_roundw
            case rel => exact ⟨i + 1, by omega, by rw [H1.out]; go_num, by rw [H3.out]; go_num, by go_num, HB3.out⟩
            case measure => simp [intOf]; omega
          · have hle2 : ¬ (sm : Int) + (x.size : Int) ≤ (E : Int) := by omega
            have H3 : Hid (cntP (P.take (i + 1)) E = cn) := by show _ = _; rw [H2.out, if_neg hle]; rfl
            clear H2
            go_wp2_with (go_at_call 9; refine (HW.out _).mono ?_; rintro e w3 ⟨rfl, hb3⟩; have HB3 := Lib.hid (HBL.out.trans (hb3.mono HBL.out.size)); clear hb3)
            go_roundw
            case rel => exact ⟨i + 1, by omega, by rw [H1.out]; go_num, by rw [H3.out], by go_num, HB3.out⟩
            case measure => simp [intOf]; omega
        · have hie : i = n0 := by omega
          have hn5 : cntP (P.take n0) E ≤ n0 := by have h1 := cntP_le (P.take n0) E; rw [List.length_take] at h1; omega
          rw [hie]
          obtain ⟨n, hn⟩ : ∃ n, cntP (P.take n0) E = n := ⟨_, rfl⟩
          rw [hn] at HSCAN hn5 ⊢
          have hsz : (all.extract 0 E).size ≤ 100000 := by simp [ByteArray.size_extract]; omega
          have HQ := Lib.hid (fun (W : World) => HSC'.out (all.extract 0 E) W hsz)
          rw [HSCAN.out, totS_rows] at HQ
          obtain ⟨Q, hQ⟩ : ∃ Q, l.take n = Q := ⟨_, rfl⟩
          have hQl : Q.length = n := by rw [← hQ, List.length_take]; omega
          have hQr : ∀ (j : Nat) (t : ByteArray), Q[j]? = some t → l[j]? = some t := by
            intro j t hj
            rw [← hQ, List.getElem?_take] at hj
            split at hj
            · exact hj
            · cases hj
          have hQ3 : ∀ r ∈ Q, (wrapS r).size ≤ 300 := by
            intro r hr5
            have h9 := h200 r (List.mem_of_mem_take (by rw [hQ]; exact hr5))
            rw [wrapS_size]; have := encB_size r.size; omega
          have hQ2 : ∀ r ∈ Q, r.size ≤ 200 := fun r hr5 => h200 r (List.mem_of_mem_take (by rw [hQ]; exact hr5))
          rw [hQ, List.length_map, hQl, List.map_map] at HQ
          have HBL := Lib.hid hb
          have hEz : (E : Int) ≤ (all.size : Int) := by omega
          generalize sumP (P.take n0) = z at *
          clear hb HSCAN HSC' hsz hi hi0 hie hPat h200 hP300 hpos hP hQ hn hall hn0 hlt
          go_upto_region 39 with (go_at_call 11; refine (HQ.out _).mono ?_; rintro e w5 ⟨⟨v, rfl, ho⟩, hb5⟩; obtain ⟨ao, cq, rfl⟩ := own_form ho; have HO := Lib.hid ho; have HB5 := Lib.hid (HBL.out.trans (hb5.mono HBL.out.size)); clear ho hb5)
          have hsW := sumW_le Q hQ3
          obtain ⟨s00, hs00⟩ : ∃ z, sumW Q = z := ⟨_, rfl⟩
          have HQ0 : Hid (sumW (Q.drop 0) = s00) := by show _ = _; rw [List.drop_zero, hs00]
          rw [hs00]
          clear hs00
          have HB0 := Lib.hid (Below.refl w5.heap.size w5)
          go_loopw [20, 21] (fun vs vi W => ∃ i : Nat, i ≤ n ∧ vs = .int .i64 (sumW (Q.drop i) : Int) ∧ vi = .int .i64 (i : Int) ∧ Below w.heap.size w W ∧ Below w5.heap.size w5 W) (fun _ vi _ => n - (intOf vi).toNat)
          case atStart => exact ⟨0, by omega, by rw [HQ0.out], rfl, HB5.out, HB0.out⟩
          case round =>
            obtain ⟨i, hi, rfl, rfl, hb, hb0⟩ := hrel
            by_cases hin : i < n
            · obtain ⟨t, ht⟩ : ∃ t, Q[i]? = some t := ⟨Q[i]'(by omega), by simp [show i < Q.length by omega]⟩
              obtain ⟨g, cg, hg5⟩ := own_shape' HO.out (by omega)
              simp only [Value.slice.injEq] at hg5
              obtain ⟨rfl, _, rfl⟩ := hg5
              have cv : wr.cell? ⟨g, i, none⟩ = some (.string t) := by
                rw [hb0.cell (p := ⟨g, i, none⟩) (HO.out.lt g rfl).2, HO.out.cellAt i (by omega)]
                simp [ht]
              obtain ⟨bk, off, rfl, hblt, hcells⟩ := HR.out.some (by omega)
              have ct := (hb.cell (p := ⟨bk, off + i, none⟩) hblt).trans (hcells i t (hQr i t ht))
              have hts := hQ2 t (List.mem_of_getElem? ht)
              have hxs := hQ3 t (List.mem_of_getElem? ht)
              have HW := Lib.hid (fun (W : World) => rwrap9 t W (by omega))
              have hdr := sumW_drop Q i t ht
              have hdz : sumW (Q.drop i) ≤ 300 * 40 := by
                have h1 := sumW_le (Q.drop i) (fun r hr5 => hQ3 r (List.mem_of_mem_drop hr5))
                rw [List.length_drop] at h1; omega
              obtain ⟨x, hx⟩ : ∃ x, wrapS t = x := ⟨_, rfl⟩
              rw [hx] at HW hxs hdr
              obtain ⟨s1, hs1⟩ : ∃ z, sumW (Q.drop (i + 1)) = z := ⟨_, rfl⟩
              obtain ⟨s0, hs0⟩ : ∃ z, sumW (Q.drop i) = z := ⟨_, rfl⟩
              have HS1 := Lib.hid hs1
              rw [hs1, hs0] at hdr
              rw [hs0] at hdz ⊢
              have hsub : (s0 : Int) - (x.size : Int) = (s1 : Int) := by omega
              have HDR := Lib.hid hsub
              have HBL2 := Lib.hid hb; have HBL3 := Lib.hid hb0
              clear hb hb0 hcells ht hx hdr hs1 hs0 hQr hQ2 hQ3 hQl hsub HQ0 hsW
              go_wp2
              go_quiet (fail)
              have ct2 : (wr.drewN nq).cell? ⟨bk, off + i, none⟩ = some (.string t) := ct
              have hsub := HDR.out
              go_wp2_with (go_at_call 9; refine (HW.out _).mono ?_; rintro e w6 ⟨rfl, hb6⟩; have HB6 := Lib.hid hb6; clear hb6)
              go_roundw
              case rel =>
                have h1 := below_drewN' HBL2.out nq
                have h2 := below_drewN' HBL3.out nq
                exact ⟨i + 1, by omega, by rw [HS1.out], by go_num, h1.trans (HB6.out.mono h1.size), h2.trans (HB6.out.mono h2.size)⟩
              case measure => simp [intOf]; omega
            · have hie : i = n := by omega
              have hz0 : sumW (Q.drop n) = 0 := by rw [List.drop_of_length_le (by omega)]; rfl
              rw [hie, hz0]
              have HBL2 := Lib.hid hb
              clear hb hb0 hie hin hi hz0 hQl
              go_wp2
              go_ret
              exact ⟨rfl, HBL2.out⟩
end Go.Proofs.Ytbaajabiimckoaa
