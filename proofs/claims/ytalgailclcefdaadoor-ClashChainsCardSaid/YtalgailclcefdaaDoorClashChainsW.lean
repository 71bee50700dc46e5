/- The walk of the law ClashChains. -/
import Derived.Test.YtalgailclcefdaaDoorClashAlive
namespace Go.Proofs.YtalgailclcefdaaDoor
open Go.RowKit

set_option maxRecDepth 100000 in
set_option maxHeartbeats 2000000 in
theorem walk4 (a a2 : Option Addr) (m q ca cb : Nat) (la lb : List ByteArray) (n : Int) (w : World) (hla : la.length = m) (hlb : lb.length = q) (hra : StrsAt w a la) (hrb : StrsAt w a2 lb) (hm : m ≤ maxLen) (hq : q ≤ maxLen) (hca : m ≤ ca) (hcb : q ≤ cb) (hK : KHeld w) :
    Calls Tryd.prog 4 #[.slice a m ca, .slice a2 q cb, .int .i64 n] w fun e w' => e = .returned (.bool true) ∧ Below w.heap.size w w' := by
  have HAL := Lib.hid (alive6c w hK)
  have HGA := Lib.hid (show ∀ W, Below w.heap.size w W → Calls Tryd.prog 7 #[.slice a m ca] W fun e w' => e = .returned (.bool (greatS la)) ∧ W = w' from fun W hb => by
    have := great7 a la ca W (hra.below hb) (by omega)
    rwa [hla] at this)
  have HGB := Lib.hid (show ∀ W, Below w.heap.size w W → Calls Tryd.prog 7 #[.slice a2 q cb] W fun e w' => e = .returned (.bool (greatS lb)) ∧ W = w' from fun W hb => by
    have := great7 a2 lb cb W (hrb.below hb) (by omega)
    rwa [hlb] at this)
  by_cases hA1 : greatS la = true ∧ m ≤ 4096
  · obtain ⟨g1, f1⟩ := hA1
    rw [g1] at HGA
    have f2 : (m : Int) ≤ 4096 := by omega
    clear hra hrb hK g1 hla hlb
    go_enter Tryd.func4, Tryd.ntmps4
    go_wp2_with (first
    | (go_at_call 6; refine HAL.out.mono ?_; rintro e w1 ⟨rfl, hb1⟩; have HB1 := Lib.hid hb1; clear hb1)
    | (go_at_call_of 7 (Value.slice a m ca); refine (HGA.out _ HB1.out).mono ?_; rintro e w' ⟨rfl, rfl⟩))
    go_ret
    exact ⟨rfl, HB1.out⟩
  have hA : (greatS la = true ∧ ¬ (m : Int) ≤ 4096) ∨ greatS la = false := by
    cases hg : greatS la
    · exact .inr rfl
    · exact .inl ⟨rfl, fun h => hA1 ⟨hg, by omega⟩⟩
  by_cases hB1 : greatS lb = true ∧ q ≤ 4096
  · obtain ⟨g1, f1⟩ := hB1
    rw [g1] at HGB
    have f2 : (q : Int) ≤ 4096 := by omega
    clear hra hrb hK g1 hla hlb hA1
    rcases hA with ⟨g2, f3⟩ | g2
    all_goals
      rw [g2] at HGA
      clear g2
      go_enter Tryd.func4, Tryd.ntmps4
      go_wp2_with (first
    | (go_at_call 6; refine HAL.out.mono ?_; rintro e w1 ⟨rfl, hb1⟩; have HB1 := Lib.hid hb1; clear hb1)
    | (go_at_call_of 7 (Value.slice a m ca); refine (HGA.out _ HB1.out).mono ?_; rintro e w' ⟨rfl, rfl⟩)
    | (go_at_call_of 7 (Value.slice a2 q cb); refine (HGB.out _ HB1.out).mono ?_; rintro e w' ⟨rfl, rfl⟩))
      go_ret
      exact ⟨rfl, HB1.out⟩
  have hB : (greatS lb = true ∧ ¬ (q : Int) ≤ 4096) ∨ greatS lb = false := by
    cases hg : greatS lb
    · exact .inr rfl
    · exact .inl ⟨rfl, fun h => hB1 ⟨hg, by omega⟩⟩
  by_cases hn : 1 ≤ n ∧ n ≤ 32
  rotate_left
  · have HF := Lib.hid (fun (W : World) (_ : Below w.heap.size w W) => top13 a a2 m q ca cb n W _ _ _ ((clash17C_no a a2 m q ca cb n 1 W hm hq (refC_arg hn) (by omega)).mono (fun _ _ h => ⟨h.1, h.2 ▸ Below.refl _ _⟩)))
    have hnn : n < 1 ∨ (¬ n < 1 ∧ n > 32) := by omega
    clear hra hrb hK hla hlb hA1 hB1 hn
    rcases hA with ⟨g2, f3⟩ | g2
    all_goals
      rw [g2] at HGA
      clear g2
      rcases hB with ⟨g4, f5⟩ | g4
      all_goals
        rw [g4] at HGB
        clear g4
        rcases hnn with n1 | ⟨n1, n2⟩
        all_goals
          go_enter Tryd.func4, Tryd.ntmps4
          go_wp2_with (first
    | (go_at_call 6; refine HAL.out.mono ?_; rintro e w1 ⟨rfl, hb1⟩; have HB1 := Lib.hid hb1; clear hb1)
    | (go_at_call_of 7 (Value.slice a m ca); refine (HGA.out _ HB1.out).mono ?_; rintro e w' ⟨rfl, rfl⟩)
    | (go_at_call_of 7 (Value.slice a2 q cb); refine (HGB.out _ HB1.out).mono ?_; rintro e w' ⟨rfl, rfl⟩)
    | (go_at_call 13; refine (HF.out _ HB1.out).mono ?_; rintro e w2 ⟨rfl, hb2⟩; have HB2 := Lib.hid (bt2 HB1.out hb2); clear hb2))
          go_ret
          exact ⟨rfl, HB2.out⟩
  by_cases hbig : 4096 < m ∨ 4096 < q
  · have HF := Lib.hid (fun (W : World) (_ : Below w.heap.size w W) => top13 a a2 m q ca cb n W _ _ _ ((clash17C_no a a2 m q ca cb n 4 W hm hq (refC_many hn hbig) (by omega)).mono (fun _ _ h => ⟨h.1, h.2 ▸ Below.refl _ _⟩)))
    obtain ⟨n1, n2⟩ := hn
    have n3 : ¬ n < 1 := by omega
    have n4 : ¬ n > 32 := by omega
    clear hra hrb hK hla hlb hA1 hB1
    by_cases hm4 : (m : Int) > 4096
    · rcases hA with ⟨g2, f3⟩ | g2
      all_goals
        rw [g2] at HGA
        clear g2
        rcases hB with ⟨g4, f5⟩ | g4
        all_goals
          rw [g4] at HGB
          clear g4 hbig
          go_enter Tryd.func4, Tryd.ntmps4
          go_wp2_with (first
    | (go_at_call 6; refine HAL.out.mono ?_; rintro e w1 ⟨rfl, hb1⟩; have HB1 := Lib.hid hb1; clear hb1)
    | (go_at_call_of 7 (Value.slice a m ca); refine (HGA.out _ HB1.out).mono ?_; rintro e w' ⟨rfl, rfl⟩)
    | (go_at_call_of 7 (Value.slice a2 q cb); refine (HGB.out _ HB1.out).mono ?_; rintro e w' ⟨rfl, rfl⟩)
    | (go_at_call 13; refine (HF.out _ HB1.out).mono ?_; rintro e w2 ⟨rfl, hb2⟩; have HB2 := Lib.hid (bt2 HB1.out hb2); clear hb2))
          go_ret
          exact ⟨rfl, HB2.out⟩
    · have hq4 : (q : Int) > 4096 := by omega
      rcases hA with ⟨g2, f3⟩ | g2
      · exact absurd (by omega) f3
      · rw [g2] at HGA
        clear g2
        rcases hB with ⟨g4, f5⟩ | g4
        all_goals
          rw [g4] at HGB
          clear g4 hbig
          go_enter Tryd.func4, Tryd.ntmps4
          go_wp2_with (first
    | (go_at_call 6; refine HAL.out.mono ?_; rintro e w1 ⟨rfl, hb1⟩; have HB1 := Lib.hid hb1; clear hb1)
    | (go_at_call_of 7 (Value.slice a m ca); refine (HGA.out _ HB1.out).mono ?_; rintro e w' ⟨rfl, rfl⟩)
    | (go_at_call_of 7 (Value.slice a2 q cb); refine (HGB.out _ HB1.out).mono ?_; rintro e w' ⟨rfl, rfl⟩)
    | (go_at_call 13; refine (HF.out _ HB1.out).mono ?_; rintro e w2 ⟨rfl, hb2⟩; have HB2 := Lib.hid (bt2 HB1.out hb2); clear hb2))
          go_ret
          exact ⟨rfl, HB2.out⟩
  have g2 : greatS la = false := by
    rcases hA with ⟨_, f3⟩ | g2
    · exact absurd (by omega) f3
    · exact g2
  have g4 : greatS lb = false := by
    rcases hB with ⟨_, f3⟩ | g2
    · exact absurd (by omega) f3
    · exact g2
  rw [g2] at HGA
  rw [g4] at HGB
  obtain ⟨a40, a200⟩ := greatS_no g2
  obtain ⟨b40, b200⟩ := greatS_no g4
  obtain ⟨N, rfl⟩ : ∃ N : Nat, n = (N : Int) := ⟨n.toNat, by omega⟩
  obtain ⟨n1, n2⟩ := hn
  have n3 : ¬ (N : Int) < 1 := by omega
  have n4 : ¬ (N : Int) > 32 := by omega
  have m4 : ¬ (m : Int) > 4096 := by omega
  have q4 : ¬ (q : Int) > 4096 := by omega
  have hz : ∃ Z : Array Value, Z.size = 72 ∧ ∀ W, (zeroValue 32).run Tryd.prog W = .ok (.agg Z) W := ⟨_, by rw [Array.size_replicate], zero33⟩
  obtain ⟨Z, hZs, hZ⟩ := hz
  have HI := Lib.hid (show (Tryd.prog.info? 32).map (·.size) = some keyCells.size by rw [key_size]; exact info33)
  have HZS := Lib.hid (show keyCells.size = Z.size by rw [key_size, hZs])
  have HKS := Lib.hid key_size
  have h1c := key_one
  have HMK := Lib.hid (fun W => makeKey11 W)
  clear hA hB hA1 hB1 hbig g2 g4 hZs
  by_cases hmq : m = q
  rotate_left
  · have HF := Lib.hid (fun (W : World) (_ : Below w.heap.size w W) => top13 a a2 m q ca cb (N : Int) W _ _ _ ((clash17C_no a a2 m q ca cb (N : Int) 12 W hm hq (refC_twin ⟨n1, n2⟩ (by omega) (by omega) hmq) (by omega)).mono (fun _ _ h => ⟨h.1, h.2 ▸ Below.refl _ _⟩)))
    have hmb : ((m : Int) != (q : Int)) = true := by simp; omega
    generalize keyCells = kc at *
    clear hra hrb hK hla hlb a200 b200 hmq
    go_enter Tryd.func4, Tryd.ntmps4
    go_upto_region 11 with (first
    | (go_at_call 6; refine HAL.out.mono ?_; rintro e w1 ⟨rfl, hb1⟩; have HB1 := Lib.hid hb1; clear hb1)
    | (go_at_call_of 7 (Value.slice a m ca); refine (HGA.out _ HB1.out).mono ?_; rintro e w' ⟨rfl, rfl⟩)
    | (go_at_call_of 7 (Value.slice a2 q cb); refine (HGB.out _ HB1.out).mono ?_; rintro e w' ⟨rfl, rfl⟩)
    | (go_at_call 13; refine (HF.out _ HB1.out).mono ?_; rintro e w2 ⟨rfl, hb2⟩; have HB2 := Lib.hid (bt2 HB1.out hb2); clear hb2)
    | (go_at_call 9; refine (HMK.out _).mono ?_; rintro e w3 ⟨rfl, hb3⟩; have HB3 := Lib.hid (bt2 HB2.out hb3); clear hb3)
    | (refine wpList_store_row rfl 32 (.tmp 10) (.tmp 73) rfl w3.heap.size kc rfl rfl 32 Z (heap_alloc_new w3 _) HI.out HZS.out.symm h1c ?_))
    refine at_world (Φ := KeyG w w3.heap.size kc) (key_made HB3.out) ?_
    rintro W hW
    have HW := Lib.hid hW
    clear hW
    refine wp_region_held_drew (S := KeyG w w3.heap.size kc) (by kernel_rfl) (HW.out.drews 1) (fun hS => ?_)
    refine wpAnyH_take (i := 0) (v := .slice a m ca) rfl (by kernel_rfl) (by kernel_rfl) (by kernel_rfl) (fun _ _ _ h => h) (Or.inl ⟨by simp [Region.wanted], fun W _ => by go_simp⟩) hS ?_
    simp only [List.getElem_toArray, List.getElem_cons_zero, Act.put, List.setIfInBounds_toArray, List.set_cons_zero, List.set_cons_succ]
    refine wpAnyH_take (i := 1) (v := .int .i64 (m : Int)) rfl (by kernel_rfl) (by kernel_rfl) (by kernel_rfl) (fun _ _ _ h => h) (Or.inl ⟨by simp [Region.wanted], fun W _ => by go_simp⟩) hS ?_
    simp only [List.getElem_toArray, List.getElem_cons_zero, List.getElem_cons_succ, Act.put, List.setIfInBounds_toArray, List.set_cons_zero, List.set_cons_succ]
    refine wpAnyH_take (i := 2) (v := .slice a2 q cb) rfl (by kernel_rfl) (by kernel_rfl) (by kernel_rfl) (fun _ _ _ h => h) (Or.inl ⟨by simp [Region.wanted], fun W _ => by go_simp⟩) hS ?_
    simp only [List.getElem_toArray, List.getElem_cons_zero, List.getElem_cons_succ, Act.put, List.setIfInBounds_toArray, List.set_cons_zero, List.set_cons_succ]
    refine wpAnyH_take (i := 3) (v := .int .i64 (q : Int)) rfl (by kernel_rfl) (by kernel_rfl) (by kernel_rfl) (fun _ _ _ h => h) (Or.inl ⟨by simp [Region.wanted], fun W _ => by go_simp⟩) hS ?_
    simp only [List.getElem_toArray, List.getElem_cons_zero, List.getElem_cons_succ, Act.put, List.setIfInBounds_toArray, List.set_cons_zero, List.set_cons_succ]
    refine wpAnyH_take (i := 4) (v := .bool true) rfl (by kernel_rfl) (by kernel_rfl) (by kernel_rfl) (fun _ _ _ h => h) (Or.inl ⟨by simp [Region.wanted], fun W _ => by go_simp⟩) hS ?_
    simp only [List.getElem_toArray, List.getElem_cons_zero, List.getElem_cons_succ, Act.put, List.setIfInBounds_toArray, List.set_cons_zero, List.set_cons_succ]
    refine wpAnyH_take (i := 5) (v := .bool true) rfl (by kernel_rfl) (by kernel_rfl) (by kernel_rfl) (fun _ _ _ h => h) (Or.inl ⟨by simp [Region.wanted], fun W _ => by go_simp⟩) hS ?_
    simp only [List.getElem_toArray, List.getElem_cons_zero, List.getElem_cons_succ, Act.put, List.setIfInBounds_toArray, List.set_cons_zero, List.set_cons_succ]
    refine wpAnyH_take (i := 6) (v := undef) rfl (by kernel_rfl) (by kernel_rfl) (by kernel_rfl) (fun _ _ _ h => h) (Or.inr ⟨by rfl, rfl⟩) hS ?_
    simp only [List.getElem_toArray, List.getElem_cons_zero, List.getElem_cons_succ, Act.put, List.setIfInBounds_toArray, List.set_cons_zero, List.set_cons_succ]
    refine wpAnyH_take (i := 7) (v := undef) rfl (by kernel_rfl) (by kernel_rfl) (by kernel_rfl) (fun _ _ _ h => h) (Or.inr ⟨by rfl, rfl⟩) hS ?_
    simp only [List.getElem_toArray, List.getElem_cons_zero, List.getElem_cons_succ, Act.put, List.setIfInBounds_toArray, List.set_cons_zero, List.set_cons_succ]
    refine wpAnyH_take (i := 8) (v := undef) rfl (by kernel_rfl) (by kernel_rfl) (by kernel_rfl) (fun _ _ _ h => h) (Or.inr ⟨by rfl, rfl⟩) hS ?_
    simp only [List.getElem_toArray, List.getElem_cons_zero, List.getElem_cons_succ, Act.put, List.setIfInBounds_toArray, List.set_cons_zero, List.set_cons_succ]
    refine wpAnyH_take (i := 9) (v := undef) rfl (by kernel_rfl) (by kernel_rfl) (by kernel_rfl) (fun _ _ _ h => h) (Or.inr ⟨by rfl, rfl⟩) hS ?_
    simp only [List.getElem_toArray, List.getElem_cons_zero, List.getElem_cons_succ, Act.put, List.setIfInBounds_toArray, List.set_cons_zero, List.set_cons_succ]
    refine wpAnyH_take (i := 10) (v := undef) rfl (by kernel_rfl) (by kernel_rfl) (by kernel_rfl) (fun _ _ _ h => h) (Or.inr ⟨by rfl, rfl⟩) hS ?_
    simp only [List.getElem_toArray, List.getElem_cons_zero, List.getElem_cons_succ, Act.put, List.setIfInBounds_toArray, List.set_cons_zero, List.set_cons_succ]
    refine wpAnyH_take (i := 11) (v := undef) rfl (by kernel_rfl) (by kernel_rfl) (by kernel_rfl) (fun _ _ _ h => h) (Or.inr ⟨by rfl, rfl⟩) hS ?_
    simp only [List.getElem_toArray, List.getElem_cons_zero, List.getElem_cons_succ, Act.put, List.setIfInBounds_toArray, List.set_cons_zero, List.set_cons_succ]
    refine wpAnyH_take (i := 12) (v := undef) rfl (by kernel_rfl) (by kernel_rfl) (by kernel_rfl) (fun _ _ _ h => h) (Or.inr ⟨by rfl, rfl⟩) hS ?_
    simp only [List.getElem_toArray, List.getElem_cons_zero, List.getElem_cons_succ, Act.put, List.setIfInBounds_toArray, List.set_cons_zero, List.set_cons_succ]
    refine wpAnyH_take (i := 13) (v := undef) rfl (by kernel_rfl) (by kernel_rfl) (by kernel_rfl) (fun _ _ _ h => h) (Or.inr ⟨by rfl, rfl⟩) hS ?_
    simp only [List.getElem_toArray, List.getElem_cons_zero, List.getElem_cons_succ, Act.put, List.setIfInBounds_toArray, List.set_cons_zero, List.set_cons_succ]
    refine wpAnyH_take (i := 14) (v := undef) rfl (by kernel_rfl) (by kernel_rfl) (by kernel_rfl) (fun _ _ _ h => h) (Or.inr ⟨by rfl, rfl⟩) hS ?_
    simp only [List.getElem_toArray, List.getElem_cons_zero, List.getElem_cons_succ, Act.put, List.setIfInBounds_toArray, List.set_cons_zero, List.set_cons_succ]
    refine wpAnyH_take (i := 15) (v := .bool true) rfl (by kernel_rfl) (by kernel_rfl) (by kernel_rfl) (fun _ _ _ h => h) (Or.inl ⟨by simp [Region.wanted], fun W _ => by go_simp⟩) hS ?_
    simp only [List.getElem_toArray, List.getElem_cons_zero, List.getElem_cons_succ, Act.put, List.setIfInBounds_toArray, List.set_cons_zero, List.set_cons_succ]
    refine wpAnyH_done (by kernel_rfl) ?_ _
    go_wp2
    go_ret
    exact ⟨rfl, hS.2.1⟩
  subst hmq
  have hZA : ∀ t ∈ la, t.size ≤ 700000 := fun t ht => by have := a200 t ht; omega
  have hZB : ∀ t ∈ lb, t.size ≤ 700000 := fun t ht => by have := b200 t ht; omega
  have HFF := Lib.hid (fun (W : World) (hb : Below w.heap.size w W) => top13 a a2 m m ca cb (N : Int) W _ _ _ (clash17C N (by omega) (by omega) m la lb a a2 ca cb W hla hlb (by omega) hZA hZB (hra.below hb) (hrb.below hb) hca hcb (KHeld_of hK hb)))
  have HRA := Lib.hid (fun (W : World) (hb : Below w.heap.size w W) => hash14 N (by omega) la (by omega) (fun t ht => by have := a200 t ht; omega) m a ca W (by omega) (hra.below hb) hca)
  have HRB := Lib.hid (fun (W : World) (hb : Below w.heap.size w W) => hash14 N (by omega) lb (by omega) (fun t ht => by have := b200 t ht; omega) m a2 cb W (by omega) (hrb.below hb) hcb)
  rw [List.take_of_length_le (by omega)] at HRA HRB
  have HRF := Lib.hid (fun (ne : la ≠ lb) (W : World) (hb : Below w.heap.size w W) => chain15 N (by omega) la lb (by omega) (by omega) (fun t ht => by have := a200 t ht; omega) (fun t ht => by have := b200 t ht; omega) m a a2 ca cb W (hra.below hb) (hrb.below hb) (by omega) hca hcb (by rw [List.take_of_length_le (by omega), List.take_of_length_le (by omega)]; exact ne))
  rw [List.take_of_length_le (by omega), List.take_of_length_le (by omega)] at HRF
  have HSM := Lib.hid (fun (W : World) (hb : Below w.heap.size w W) => same11b a a2 la lb m m ca cb W hla hlb (hra.below hb) (hrb.below hb) (by omega) (by omega))
  have ht := fun e => resC_twin (h := cutH N) (la := la) (lb := lb) e
  have hnone : la = lb → resC (cutH N) la lb = (⟨#[]⟩, ⟨#[]⟩, 7) := by rintro rfl; exact resC_none
  have hok := fun e ne => resC_ok (h := cutH N) (la := la) (lb := lb) e ne
  obtain ⟨FS, hFS⟩ : ∃ F, chainF (cutH N) la.reverse lb.reverse = F := ⟨_, rfl⟩
  rw [hFS] at hok HRF
  have hrr : la = lb → chainS (cutH N) la = chainS (cutH N) lb := by rintro rfl; rfl
  obtain ⟨RA, hRA⟩ : ∃ R, chainS (cutH N) la = R := ⟨_, rfl⟩
  obtain ⟨RB, hRB⟩ : ∃ R, chainS (cutH N) lb = R := ⟨_, rfl⟩
  rw [hRA] at HRA
  rw [hRB] at HRB
  rw [hRA, hRB] at ht hok hrr
  have hmb : ((m : Int) != (m : Int)) = false := by simp
  generalize keyCells = kc at *
  clear hra hrb hK hla hlb a200 b200 hZA hZB hFS hRA hRB
  by_cases hR : RA = RB
  rotate_left
  · have HF := Lib.hid HFF.out
    rw [ht hR] at HF
    have hne : (RA.toList == RB.toList) = false := eqB_ne hR
    clear hR ht hnone hok hrr HFF HRF HSM
    go_enter Tryd.func4, Tryd.ntmps4
    go_upto_region 11 with (first
      | (go_at_call 6; refine HAL.out.mono ?_; rintro e w1 ⟨rfl, hb1⟩; have HB1 := Lib.hid hb1; clear hb1)
      | (go_at_call_of 7 (Value.slice a m ca); refine (HGA.out _ HB1.out).mono ?_; rintro e w' ⟨rfl, rfl⟩)
      | (go_at_call_of 7 (Value.slice a2 m cb); refine (HGB.out _ HB1.out).mono ?_; rintro e w' ⟨rfl, rfl⟩)
      | (go_at_call 13; refine (HF.out _ HB1.out).mono ?_; rintro e w2 ⟨rfl, hb2⟩; have HB2 := Lib.hid (bt2 HB1.out hb2); clear hb2)
      | (go_at_call 9; refine (HMK.out _).mono ?_; rintro e w3 ⟨rfl, hb3⟩; have HB3 := Lib.hid (bt2 HB2.out hb3); clear hb3)
      | (refine wpList_store_row rfl 32 (.tmp 10) (.tmp 73) rfl w3.heap.size kc rfl rfl 32 Z (heap_alloc_new w3 _) HI.out HZS.out.symm h1c ?_))
    refine at_world (Φ := KeyG w w3.heap.size kc) (key_made HB3.out) ?_
    rintro W hW
    have HW := Lib.hid hW
    clear hW
    refine wp_region_held_drew (S := KeyG w w3.heap.size kc) (by kernel_rfl) (HW.out.drews 1) (fun hS => ?_)
    refine wpAnyH_take (i := 0) (v := .slice a m ca) rfl (by kernel_rfl) (by kernel_rfl) (by kernel_rfl) (fun _ _ _ h => h) (Or.inl ⟨by simp [Region.wanted], fun W _ => by go_simp⟩) hS ?_
    simp only [List.getElem_toArray, List.getElem_cons_zero, Act.put, List.setIfInBounds_toArray, List.set_cons_zero, List.set_cons_succ]
    refine wpAnyH_take (i := 1) (v := .int .i64 (m : Int)) rfl (by kernel_rfl) (by kernel_rfl) (by kernel_rfl) (fun _ _ _ h => h) (Or.inl ⟨by simp [Region.wanted], fun W _ => by go_simp⟩) hS ?_
    simp only [List.getElem_toArray, List.getElem_cons_zero, List.getElem_cons_succ, Act.put, List.setIfInBounds_toArray, List.set_cons_zero, List.set_cons_succ]
    refine wpAnyH_take (i := 2) (v := .slice a2 m cb) rfl (by kernel_rfl) (by kernel_rfl) (by kernel_rfl) (fun _ _ _ h => h) (Or.inl ⟨by simp [Region.wanted], fun W _ => by go_simp⟩) hS ?_
    simp only [List.getElem_toArray, List.getElem_cons_zero, List.getElem_cons_succ, Act.put, List.setIfInBounds_toArray, List.set_cons_zero, List.set_cons_succ]
    refine wpAnyH_take (i := 3) (v := .int .i64 (m : Int)) rfl (by kernel_rfl) (by kernel_rfl) (by kernel_rfl) (fun _ _ _ h => h) (Or.inl ⟨by simp [Region.wanted], fun W _ => by go_simp⟩) hS ?_
    simp only [List.getElem_toArray, List.getElem_cons_zero, List.getElem_cons_succ, Act.put, List.setIfInBounds_toArray, List.set_cons_zero, List.set_cons_succ]
    refine wpAnyH_take (i := 4) (v := .bool false) rfl (by kernel_rfl) (by kernel_rfl) (by kernel_rfl) (fun _ _ _ h => h) (Or.inl ⟨by simp [Region.wanted], fun W _ => by go_simp⟩) hS ?_
    simp only [List.getElem_toArray, List.getElem_cons_zero, List.getElem_cons_succ, Act.put, List.setIfInBounds_toArray, List.set_cons_zero, List.set_cons_succ]
    refine wpAnyH_take (i := 5) (v := .bool false) rfl (by kernel_rfl) (by kernel_rfl) (by kernel_rfl) (fun _ _ _ h => h) (Or.inl ⟨by simp [Region.wanted], fun W _ => by go_simp⟩) hS ?_
    simp only [List.getElem_toArray, List.getElem_cons_zero, List.getElem_cons_succ, Act.put, List.setIfInBounds_toArray, List.set_cons_zero, List.set_cons_succ]
    refine wpAnyH_take (i := 6) (v := .agg kc) rfl (by kernel_rfl) (by kernel_rfl) (by kernel_rfl) (fun _ _ _ h => h) (yieldsIf_loadG (by rfl) 32 (.tmp 10) rfl _ _ rfl (fun W hW => load_key HKS.out hW.1)) hS ?_
    simp only [List.getElem_toArray, List.getElem_cons_zero, List.getElem_cons_succ, Act.put, List.setIfInBounds_toArray, List.set_cons_zero, List.set_cons_succ]
    refine wpAnyH_take (i := 7) (v := .slice a m ca) rfl (by kernel_rfl) (by kernel_rfl) (by kernel_rfl) (fun _ _ _ h => h) (Or.inl ⟨by rfl, fun W _ => by go_simp⟩) hS ?_
    simp only [List.getElem_toArray, List.getElem_cons_zero, List.getElem_cons_succ, Act.put, List.setIfInBounds_toArray, List.set_cons_zero, List.set_cons_succ]
    refine wpAnyH_take (i := 8) (v := .int .i64 (N : Int)) rfl (by kernel_rfl) (by kernel_rfl) (by kernel_rfl) (fun _ _ _ h => h) (Or.inl ⟨by rfl, fun W _ => by go_simp⟩) hS ?_
    simp only [List.getElem_toArray, List.getElem_cons_zero, List.getElem_cons_succ, Act.put, List.setIfInBounds_toArray, List.set_cons_zero, List.set_cons_succ]
    refine wpAnyH_take (i := 10) (v := .agg kc) rfl (by kernel_rfl) (by kernel_rfl) (by kernel_rfl) (fun _ _ _ h => h) (yieldsIf_loadG (by rfl) 32 (.tmp 10) rfl _ _ rfl (fun W hW => load_key HKS.out hW.1)) hS ?_
    simp only [List.getElem_toArray, List.getElem_cons_zero, List.getElem_cons_succ, Act.put, List.setIfInBounds_toArray, List.set_cons_zero, List.set_cons_succ]
    refine wpAnyH_take (i := 11) (v := .slice a2 m cb) rfl (by kernel_rfl) (by kernel_rfl) (by kernel_rfl) (fun _ _ _ h => h) (Or.inl ⟨by rfl, fun W _ => by go_simp⟩) hS ?_
    simp only [List.getElem_toArray, List.getElem_cons_zero, List.getElem_cons_succ, Act.put, List.setIfInBounds_toArray, List.set_cons_zero, List.set_cons_succ]
    refine wpAnyH_take (i := 12) (v := .int .i64 (N : Int)) rfl (by kernel_rfl) (by kernel_rfl) (by kernel_rfl) (fun _ _ _ h => h) (Or.inl ⟨by rfl, fun W _ => by go_simp⟩) hS ?_
    simp only [List.getElem_toArray, List.getElem_cons_zero, List.getElem_cons_succ, Act.put, List.setIfInBounds_toArray, List.set_cons_zero, List.set_cons_succ]
    refine wpAnyH_ready (rs := [9]) (by kernel_rfl) (by simp) ?_
    refine AllReadyH.cons rfl (fun K1 hK1 => ?_) AllReadyH.nil
    rw [if_pos (by rfl)]
    simp only [List.getElem_toArray, List.getElem_cons_zero, List.getElem_cons_succ]
    go_wp2_with (go_at_call_of 14 (Value.slice a m ca); refine (HRA.out _ hS.2.1).mono ?_; rintro e w4 ⟨rfl, hb4⟩; have HB4 := Lib.hid hb4; clear hb4)
    refine hK1.out _ _ (hS.below HB4.out) (fun hS1 => ?_)
    refine wpAnyH_ready (rs := [13]) (by kernel_rfl) (by simp) ?_
    refine AllReadyH.cons rfl (fun K2 hK2 => ?_) AllReadyH.nil
    rw [if_pos (by rfl)]
    simp only [List.getElem_toArray, List.getElem_cons_zero, List.getElem_cons_succ]
    go_wp2_with (go_at_call_of 14 (Value.slice a2 m cb); refine (HRB.out _ hS1.2.1).mono ?_; rintro e w5 ⟨rfl, hb5⟩; have HB5 := Lib.hid hb5; clear hb5)
    refine hK2.out _ _ (hS1.below HB5.out) (fun hS2 => ?_)
    refine wpAnyH_take (i := 14) (v := .bool true) rfl (by kernel_rfl) (by kernel_rfl) (by kernel_rfl) (fun _ _ _ h => h) (Or.inl ⟨by rfl, fun W _ => by go_simp⟩) hS2 ?_
    simp only [List.getElem_toArray, List.getElem_cons_zero, List.getElem_cons_succ, Act.put, List.setIfInBounds_toArray, List.set_cons_zero, List.set_cons_succ]
    refine wpAnyH_take (i := 15) (v := .bool true) rfl (by kernel_rfl) (by kernel_rfl) (by kernel_rfl) (fun _ _ _ h => h) (Or.inl ⟨by simp [Region.wanted], fun W _ => by go_simp⟩) hS2 ?_
    simp only [List.getElem_toArray, List.getElem_cons_zero, List.getElem_cons_succ, Act.put, List.setIfInBounds_toArray, List.set_cons_zero, List.set_cons_succ]
    refine wpAnyH_done (by kernel_rfl) ?_ _
    go_wp2
    go_ret
    exact ⟨rfl, hS2.2.1⟩
  subst hR
  by_cases hl : la = lb
  · have HF := Lib.hid HFF.out
    rw [hnone hl] at HF
    rw [decide_eq_true hl] at HSM
    have hne : (RA.toList == RA.toList) = true := by simp
    clear hl ht hnone hok hrr HFF HRF
    go_enter Tryd.func4, Tryd.ntmps4
    go_upto_region 11 with (first
      | (go_at_call 6; refine HAL.out.mono ?_; rintro e w1 ⟨rfl, hb1⟩; have HB1 := Lib.hid hb1; clear hb1)
      | (go_at_call_of 7 (Value.slice a m ca); refine (HGA.out _ HB1.out).mono ?_; rintro e w' ⟨rfl, rfl⟩)
      | (go_at_call_of 7 (Value.slice a2 m cb); refine (HGB.out _ HB1.out).mono ?_; rintro e w' ⟨rfl, rfl⟩)
      | (go_at_call 13; refine (HF.out _ HB1.out).mono ?_; rintro e w2 ⟨rfl, hb2⟩; have HB2 := Lib.hid (bt2 HB1.out hb2); clear hb2)
      | (go_at_call 9; refine (HMK.out _).mono ?_; rintro e w3 ⟨rfl, hb3⟩; have HB3 := Lib.hid (bt2 HB2.out hb3); clear hb3)
      | (refine wpList_store_row rfl 32 (.tmp 10) (.tmp 73) rfl w3.heap.size kc rfl rfl 32 Z (heap_alloc_new w3 _) HI.out HZS.out.symm h1c ?_))
    refine at_world (Φ := KeyG w w3.heap.size kc) (key_made HB3.out) ?_
    rintro W hW
    have HW := Lib.hid hW
    clear hW
    refine wp_region_held_drew (S := KeyG w w3.heap.size kc) (by kernel_rfl) (HW.out.drews 1) (fun hS => ?_)
    refine wpAnyH_take (i := 0) (v := .slice a m ca) rfl (by kernel_rfl) (by kernel_rfl) (by kernel_rfl) (fun _ _ _ h => h) (Or.inl ⟨by simp [Region.wanted], fun W _ => by go_simp⟩) hS ?_
    simp only [List.getElem_toArray, List.getElem_cons_zero, Act.put, List.setIfInBounds_toArray, List.set_cons_zero, List.set_cons_succ]
    refine wpAnyH_take (i := 1) (v := .int .i64 (m : Int)) rfl (by kernel_rfl) (by kernel_rfl) (by kernel_rfl) (fun _ _ _ h => h) (Or.inl ⟨by simp [Region.wanted], fun W _ => by go_simp⟩) hS ?_
    simp only [List.getElem_toArray, List.getElem_cons_zero, List.getElem_cons_succ, Act.put, List.setIfInBounds_toArray, List.set_cons_zero, List.set_cons_succ]
    refine wpAnyH_take (i := 2) (v := .slice a2 m cb) rfl (by kernel_rfl) (by kernel_rfl) (by kernel_rfl) (fun _ _ _ h => h) (Or.inl ⟨by simp [Region.wanted], fun W _ => by go_simp⟩) hS ?_
    simp only [List.getElem_toArray, List.getElem_cons_zero, List.getElem_cons_succ, Act.put, List.setIfInBounds_toArray, List.set_cons_zero, List.set_cons_succ]
    refine wpAnyH_take (i := 3) (v := .int .i64 (m : Int)) rfl (by kernel_rfl) (by kernel_rfl) (by kernel_rfl) (fun _ _ _ h => h) (Or.inl ⟨by simp [Region.wanted], fun W _ => by go_simp⟩) hS ?_
    simp only [List.getElem_toArray, List.getElem_cons_zero, List.getElem_cons_succ, Act.put, List.setIfInBounds_toArray, List.set_cons_zero, List.set_cons_succ]
    refine wpAnyH_take (i := 4) (v := .bool false) rfl (by kernel_rfl) (by kernel_rfl) (by kernel_rfl) (fun _ _ _ h => h) (Or.inl ⟨by simp [Region.wanted], fun W _ => by go_simp⟩) hS ?_
    simp only [List.getElem_toArray, List.getElem_cons_zero, List.getElem_cons_succ, Act.put, List.setIfInBounds_toArray, List.set_cons_zero, List.set_cons_succ]
    refine wpAnyH_take (i := 5) (v := .bool false) rfl (by kernel_rfl) (by kernel_rfl) (by kernel_rfl) (fun _ _ _ h => h) (Or.inl ⟨by simp [Region.wanted], fun W _ => by go_simp⟩) hS ?_
    simp only [List.getElem_toArray, List.getElem_cons_zero, List.getElem_cons_succ, Act.put, List.setIfInBounds_toArray, List.set_cons_zero, List.set_cons_succ]
    refine wpAnyH_take (i := 6) (v := .agg kc) rfl (by kernel_rfl) (by kernel_rfl) (by kernel_rfl) (fun _ _ _ h => h) (yieldsIf_loadG (by rfl) 32 (.tmp 10) rfl _ _ rfl (fun W hW => load_key HKS.out hW.1)) hS ?_
    simp only [List.getElem_toArray, List.getElem_cons_zero, List.getElem_cons_succ, Act.put, List.setIfInBounds_toArray, List.set_cons_zero, List.set_cons_succ]
    refine wpAnyH_take (i := 7) (v := .slice a m ca) rfl (by kernel_rfl) (by kernel_rfl) (by kernel_rfl) (fun _ _ _ h => h) (Or.inl ⟨by rfl, fun W _ => by go_simp⟩) hS ?_
    simp only [List.getElem_toArray, List.getElem_cons_zero, List.getElem_cons_succ, Act.put, List.setIfInBounds_toArray, List.set_cons_zero, List.set_cons_succ]
    refine wpAnyH_take (i := 8) (v := .int .i64 (N : Int)) rfl (by kernel_rfl) (by kernel_rfl) (by kernel_rfl) (fun _ _ _ h => h) (Or.inl ⟨by rfl, fun W _ => by go_simp⟩) hS ?_
    simp only [List.getElem_toArray, List.getElem_cons_zero, List.getElem_cons_succ, Act.put, List.setIfInBounds_toArray, List.set_cons_zero, List.set_cons_succ]
    refine wpAnyH_take (i := 10) (v := .agg kc) rfl (by kernel_rfl) (by kernel_rfl) (by kernel_rfl) (fun _ _ _ h => h) (yieldsIf_loadG (by rfl) 32 (.tmp 10) rfl _ _ rfl (fun W hW => load_key HKS.out hW.1)) hS ?_
    simp only [List.getElem_toArray, List.getElem_cons_zero, List.getElem_cons_succ, Act.put, List.setIfInBounds_toArray, List.set_cons_zero, List.set_cons_succ]
    refine wpAnyH_take (i := 11) (v := .slice a2 m cb) rfl (by kernel_rfl) (by kernel_rfl) (by kernel_rfl) (fun _ _ _ h => h) (Or.inl ⟨by rfl, fun W _ => by go_simp⟩) hS ?_
    simp only [List.getElem_toArray, List.getElem_cons_zero, List.getElem_cons_succ, Act.put, List.setIfInBounds_toArray, List.set_cons_zero, List.set_cons_succ]
    refine wpAnyH_take (i := 12) (v := .int .i64 (N : Int)) rfl (by kernel_rfl) (by kernel_rfl) (by kernel_rfl) (fun _ _ _ h => h) (Or.inl ⟨by rfl, fun W _ => by go_simp⟩) hS ?_
    simp only [List.getElem_toArray, List.getElem_cons_zero, List.getElem_cons_succ, Act.put, List.setIfInBounds_toArray, List.set_cons_zero, List.set_cons_succ]
    refine wpAnyH_ready (rs := [9]) (by kernel_rfl) (by simp) ?_
    refine AllReadyH.cons rfl (fun K1 hK1 => ?_) AllReadyH.nil
    rw [if_pos (by rfl)]
    simp only [List.getElem_toArray, List.getElem_cons_zero, List.getElem_cons_succ]
    go_wp2_with (go_at_call_of 14 (Value.slice a m ca); refine (HRA.out _ hS.2.1).mono ?_; rintro e w4 ⟨rfl, hb4⟩; have HB4 := Lib.hid hb4; clear hb4)
    refine hK1.out _ _ (hS.below HB4.out) (fun hS1 => ?_)
    refine wpAnyH_ready (rs := [13]) (by kernel_rfl) (by simp) ?_
    refine AllReadyH.cons rfl (fun K2 hK2 => ?_) AllReadyH.nil
    rw [if_pos (by rfl)]
    simp only [List.getElem_toArray, List.getElem_cons_zero, List.getElem_cons_succ]
    go_wp2_with (go_at_call_of 14 (Value.slice a2 m cb); refine (HRB.out _ hS1.2.1).mono ?_; rintro e w5 ⟨rfl, hb5⟩; have HB5 := Lib.hid hb5; clear hb5)
    refine hK2.out _ _ (hS1.below HB5.out) (fun hS2 => ?_)
    refine wpAnyH_take (i := 14) (v := .bool false) rfl (by kernel_rfl) (by kernel_rfl) (by kernel_rfl) (fun _ _ _ h => h) (Or.inl ⟨by rfl, fun W _ => by go_simp⟩) hS2 ?_
    simp only [List.getElem_toArray, List.getElem_cons_zero, List.getElem_cons_succ, Act.put, List.setIfInBounds_toArray, List.set_cons_zero, List.set_cons_succ]
    refine wpAnyH_take (i := 15) (v := .bool false) rfl (by kernel_rfl) (by kernel_rfl) (by kernel_rfl) (fun _ _ _ h => h) (Or.inl ⟨by simp [Region.wanted], fun W _ => by go_simp⟩) hS2 ?_
    simp only [List.getElem_toArray, List.getElem_cons_zero, List.getElem_cons_succ, Act.put, List.setIfInBounds_toArray, List.set_cons_zero, List.set_cons_succ]
    refine wpAnyH_done (by kernel_rfl) ?_ _
    have HS2 := Lib.hid hS2
    clear hS hS1 hS2 hK1 hK2 hne
    go_wp2_with (go_at_call 11; refine (HSM.out _ HS2.out.2.1).mono ?_; rintro e w6 ⟨rfl, hb6⟩; have HS3 := Lib.hid (HS2.out.below hb6); clear hb6)
    go_ret
    exact ⟨rfl, HS3.out.2.1⟩
  · have HF := Lib.hid HFF.out
    rw [hok rfl hl] at HF
    rw [decide_eq_false hl] at HSM
    have HRF2 := Lib.hid (HRF.out hl)
    have hne : (RA.toList == RA.toList) = true := by simp
    obtain ⟨P, Q⟩ := FS
    simp only at HF HRF2
    clear hl ht hnone hok hrr HFF HRF
    go_enter Tryd.func4, Tryd.ntmps4
    go_upto_region 11 with (first
      | (go_at_call 6; refine HAL.out.mono ?_; rintro e w1 ⟨rfl, hb1⟩; have HB1 := Lib.hid hb1; clear hb1)
      | (go_at_call_of 7 (Value.slice a m ca); refine (HGA.out _ HB1.out).mono ?_; rintro e w' ⟨rfl, rfl⟩)
      | (go_at_call_of 7 (Value.slice a2 m cb); refine (HGB.out _ HB1.out).mono ?_; rintro e w' ⟨rfl, rfl⟩)
      | (go_at_call 13; refine (HF.out _ HB1.out).mono ?_; rintro e w2 ⟨rfl, hb2⟩; have HB2 := Lib.hid (bt2 HB1.out hb2); clear hb2)
      | (go_at_call 9; refine (HMK.out _).mono ?_; rintro e w3 ⟨rfl, hb3⟩; have HB3 := Lib.hid (bt2 HB2.out hb3); clear hb3)
      | (refine wpList_store_row rfl 32 (.tmp 10) (.tmp 73) rfl w3.heap.size kc rfl rfl 32 Z (heap_alloc_new w3 _) HI.out HZS.out.symm h1c ?_))
    refine at_world (Φ := KeyG w w3.heap.size kc) (key_made HB3.out) ?_
    rintro W hW
    have HW := Lib.hid hW
    clear hW
    refine wp_region_held_drew (S := KeyG w w3.heap.size kc) (by kernel_rfl) (HW.out.drews 1) (fun hS => ?_)
    refine wpAnyH_take (i := 0) (v := .slice a m ca) rfl (by kernel_rfl) (by kernel_rfl) (by kernel_rfl) (fun _ _ _ h => h) (Or.inl ⟨by simp [Region.wanted], fun W _ => by go_simp⟩) hS ?_
    simp only [List.getElem_toArray, List.getElem_cons_zero, Act.put, List.setIfInBounds_toArray, List.set_cons_zero, List.set_cons_succ]
    refine wpAnyH_take (i := 1) (v := .int .i64 (m : Int)) rfl (by kernel_rfl) (by kernel_rfl) (by kernel_rfl) (fun _ _ _ h => h) (Or.inl ⟨by simp [Region.wanted], fun W _ => by go_simp⟩) hS ?_
    simp only [List.getElem_toArray, List.getElem_cons_zero, List.getElem_cons_succ, Act.put, List.setIfInBounds_toArray, List.set_cons_zero, List.set_cons_succ]
    refine wpAnyH_take (i := 2) (v := .slice a2 m cb) rfl (by kernel_rfl) (by kernel_rfl) (by kernel_rfl) (fun _ _ _ h => h) (Or.inl ⟨by simp [Region.wanted], fun W _ => by go_simp⟩) hS ?_
    simp only [List.getElem_toArray, List.getElem_cons_zero, List.getElem_cons_succ, Act.put, List.setIfInBounds_toArray, List.set_cons_zero, List.set_cons_succ]
    refine wpAnyH_take (i := 3) (v := .int .i64 (m : Int)) rfl (by kernel_rfl) (by kernel_rfl) (by kernel_rfl) (fun _ _ _ h => h) (Or.inl ⟨by simp [Region.wanted], fun W _ => by go_simp⟩) hS ?_
    simp only [List.getElem_toArray, List.getElem_cons_zero, List.getElem_cons_succ, Act.put, List.setIfInBounds_toArray, List.set_cons_zero, List.set_cons_succ]
    refine wpAnyH_take (i := 4) (v := .bool false) rfl (by kernel_rfl) (by kernel_rfl) (by kernel_rfl) (fun _ _ _ h => h) (Or.inl ⟨by simp [Region.wanted], fun W _ => by go_simp⟩) hS ?_
    simp only [List.getElem_toArray, List.getElem_cons_zero, List.getElem_cons_succ, Act.put, List.setIfInBounds_toArray, List.set_cons_zero, List.set_cons_succ]
    refine wpAnyH_take (i := 5) (v := .bool false) rfl (by kernel_rfl) (by kernel_rfl) (by kernel_rfl) (fun _ _ _ h => h) (Or.inl ⟨by simp [Region.wanted], fun W _ => by go_simp⟩) hS ?_
    simp only [List.getElem_toArray, List.getElem_cons_zero, List.getElem_cons_succ, Act.put, List.setIfInBounds_toArray, List.set_cons_zero, List.set_cons_succ]
    refine wpAnyH_take (i := 6) (v := .agg kc) rfl (by kernel_rfl) (by kernel_rfl) (by kernel_rfl) (fun _ _ _ h => h) (yieldsIf_loadG (by rfl) 32 (.tmp 10) rfl _ _ rfl (fun W hW => load_key HKS.out hW.1)) hS ?_
    simp only [List.getElem_toArray, List.getElem_cons_zero, List.getElem_cons_succ, Act.put, List.setIfInBounds_toArray, List.set_cons_zero, List.set_cons_succ]
    refine wpAnyH_take (i := 7) (v := .slice a m ca) rfl (by kernel_rfl) (by kernel_rfl) (by kernel_rfl) (fun _ _ _ h => h) (Or.inl ⟨by rfl, fun W _ => by go_simp⟩) hS ?_
    simp only [List.getElem_toArray, List.getElem_cons_zero, List.getElem_cons_succ, Act.put, List.setIfInBounds_toArray, List.set_cons_zero, List.set_cons_succ]
    refine wpAnyH_take (i := 8) (v := .int .i64 (N : Int)) rfl (by kernel_rfl) (by kernel_rfl) (by kernel_rfl) (fun _ _ _ h => h) (Or.inl ⟨by rfl, fun W _ => by go_simp⟩) hS ?_
    simp only [List.getElem_toArray, List.getElem_cons_zero, List.getElem_cons_succ, Act.put, List.setIfInBounds_toArray, List.set_cons_zero, List.set_cons_succ]
    refine wpAnyH_take (i := 10) (v := .agg kc) rfl (by kernel_rfl) (by kernel_rfl) (by kernel_rfl) (fun _ _ _ h => h) (yieldsIf_loadG (by rfl) 32 (.tmp 10) rfl _ _ rfl (fun W hW => load_key HKS.out hW.1)) hS ?_
    simp only [List.getElem_toArray, List.getElem_cons_zero, List.getElem_cons_succ, Act.put, List.setIfInBounds_toArray, List.set_cons_zero, List.set_cons_succ]
    refine wpAnyH_take (i := 11) (v := .slice a2 m cb) rfl (by kernel_rfl) (by kernel_rfl) (by kernel_rfl) (fun _ _ _ h => h) (Or.inl ⟨by rfl, fun W _ => by go_simp⟩) hS ?_
    simp only [List.getElem_toArray, List.getElem_cons_zero, List.getElem_cons_succ, Act.put, List.setIfInBounds_toArray, List.set_cons_zero, List.set_cons_succ]
    refine wpAnyH_take (i := 12) (v := .int .i64 (N : Int)) rfl (by kernel_rfl) (by kernel_rfl) (by kernel_rfl) (fun _ _ _ h => h) (Or.inl ⟨by rfl, fun W _ => by go_simp⟩) hS ?_
    simp only [List.getElem_toArray, List.getElem_cons_zero, List.getElem_cons_succ, Act.put, List.setIfInBounds_toArray, List.set_cons_zero, List.set_cons_succ]
    refine wpAnyH_ready (rs := [9]) (by kernel_rfl) (by simp) ?_
    refine AllReadyH.cons rfl (fun K1 hK1 => ?_) AllReadyH.nil
    rw [if_pos (by rfl)]
    simp only [List.getElem_toArray, List.getElem_cons_zero, List.getElem_cons_succ]
    go_wp2_with (go_at_call_of 14 (Value.slice a m ca); refine (HRA.out _ hS.2.1).mono ?_; rintro e w4 ⟨rfl, hb4⟩; have HB4 := Lib.hid hb4; clear hb4)
    refine hK1.out _ _ (hS.below HB4.out) (fun hS1 => ?_)
    refine wpAnyH_ready (rs := [13]) (by kernel_rfl) (by simp) ?_
    refine AllReadyH.cons rfl (fun K2 hK2 => ?_) AllReadyH.nil
    rw [if_pos (by rfl)]
    simp only [List.getElem_toArray, List.getElem_cons_zero, List.getElem_cons_succ]
    go_wp2_with (go_at_call_of 14 (Value.slice a2 m cb); refine (HRB.out _ hS1.2.1).mono ?_; rintro e w5 ⟨rfl, hb5⟩; have HB5 := Lib.hid hb5; clear hb5)
    refine hK2.out _ _ (hS1.below HB5.out) (fun hS2 => ?_)
    refine wpAnyH_take (i := 14) (v := .bool false) rfl (by kernel_rfl) (by kernel_rfl) (by kernel_rfl) (fun _ _ _ h => h) (Or.inl ⟨by rfl, fun W _ => by go_simp⟩) hS2 ?_
    simp only [List.getElem_toArray, List.getElem_cons_zero, List.getElem_cons_succ, Act.put, List.setIfInBounds_toArray, List.set_cons_zero, List.set_cons_succ]
    refine wpAnyH_take (i := 15) (v := .bool false) rfl (by kernel_rfl) (by kernel_rfl) (by kernel_rfl) (fun _ _ _ h => h) (Or.inl ⟨by simp [Region.wanted], fun W _ => by go_simp⟩) hS2 ?_
    simp only [List.getElem_toArray, List.getElem_cons_zero, List.getElem_cons_succ, Act.put, List.setIfInBounds_toArray, List.set_cons_zero, List.set_cons_succ]
    refine wpAnyH_done (by kernel_rfl) ?_ _
    have HS2 := Lib.hid hS2
    clear hS hS1 hS2 hK1 hK2 hne
    go_wp2_with (first
      | (go_at_call 11; refine (HSM.out _ HS2.out.2.1).mono ?_; rintro e w6 ⟨rfl, hb6⟩; have HS3 := Lib.hid (HS2.out.below hb6); clear hb6)
      | (refine wpList_load_rowG (by rfl) 32 (.tmp 10) rfl w3.heap.size rfl 32 kc (0, 0) _ HS3.out.1 Tryd.underlying32 rfl HI.out ?_)
      | (go_at_call 15; refine (HRF2.out _ HS3.out.2.1).mono ?_; rintro e w7 ⟨rfl, hb7⟩; have HS4 := Lib.hid (HS3.out.below hb7); clear hb7))
    go_ret
    exact ⟨rfl, HS4.out.2.1⟩
end Go.Proofs.YtalgailclcefdaaDoor
