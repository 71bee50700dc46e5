/- The walk of the law TreeChecks. -/
import Derived.Test.YtgpebamadhabnaaDoorTreeRootsW
namespace Go.Proofs.YtgpebamadhabnaaDoor
open Go.RowKit

set_option maxRecDepth 100000 in
set_option maxHeartbeats 2000000 in
theorem walk4 (leaf : ByteArray) (k c : Int) (a : Option Addr) (m cap : Nat) (p : List ByteArray) (root : ByteArray) (n : Int) (w : World) (hl : p.length = m) (hr : StrsAt w a p) (_hm : m ≤ maxLen) (hcap : m ≤ cap) (hK : KHeld w) :
    Calls Tryd.prog 4 #[.string leaf, .int .i64 k, .int .i64 c, .slice a m cap, .string root, .int .i64 n] w fun e w' => e = .returned (.bool true) ∧ Below w.heap.size w w' := by
  have HAL := Lib.hid (alive6t w hK)
  have HGR := Lib.hid (show ∀ W, Below w.heap.size w W → Calls Tryd.prog 7 #[.slice a m cap] W fun e w' => e = .returned (.bool (greatS p)) ∧ W = w' from fun W hb => by
    have := great7 a p cap W (hr.below hb) (by omega)
    rwa [hl] at this)
  by_cases hleaf : (leaf.size : Int) > 400
  · clear hr hK hl
    go_enter Tryd.func4, Tryd.ntmps4
    go_wp2_with (go_at_call 6; refine HAL.out.mono ?_; rintro e w1 ⟨rfl, hb1⟩; have HB1 := Lib.hid hb1; clear hb1)
    go_ret
    exact ⟨rfl, HB1.out⟩
  · cases hg : greatS p
    · rw [hg] at HGR
      obtain ⟨g40, g200⟩ := greatS_no hg
      by_cases hroot : (root.size : Int) > 400
      · clear hr hK hl
        go_enter Tryd.func4, Tryd.ntmps4
        go_wp2_with (first
          | (go_at_call 6; refine HAL.out.mono ?_; rintro e w1 ⟨rfl, hb1⟩; have HB1 := Lib.hid hb1; clear hb1)
          | (go_at_call 7; refine (HGR.out _ HB1.out).mono ?_; rintro e w' ⟨rfl, rfl⟩))
        go_ret
        exact ⟨rfl, HB1.out⟩
      · by_cases hv : (1 ≤ n ∧ n ≤ 32) ∧ (1 ≤ c ∧ c ≤ 4096) ∧ 0 ≤ k ∧ k < c
        · obtain ⟨⟨n1, n2⟩, ⟨c1, c2⟩, k1, k2⟩ := hv
          obtain ⟨N, rfl⟩ : ∃ N : Nat, n = (N : Int) := ⟨n.toNat, by omega⟩
          obtain ⟨C, rfl⟩ : ∃ C : Nat, c = (C : Int) := ⟨c.toNat, by omega⟩
          obtain ⟨K, rfl⟩ : ∃ K : Nat, k = (K : Int) := ⟨k.toNat, by omega⟩
          have n3 : ¬ (N : Int) < 1 := by omega
          have n4 : ¬ (N : Int) > 32 := by omega
          have c3 : ¬ (C : Int) < 1 := by omega
          have c4 : ¬ (C : Int) > 4096 := by omega
          have k3 : ¬ (K : Int) < 0 := by omega
          have k4 : ¬ (K : Int) ≥ (C : Int) := by omega
          have HCK := Lib.hid (show ∀ W, Below w.heap.size w W → Calls Tryd.prog 14 #[.string leaf, .int .i64 (K : Int), .int .i64 (C : Int), .slice a m cap, .string root, .int .i64 (N : Int)] W fun e w' => e = .returned (.bool (checkS (cutH N) N (leafS (cutH N) leaf) K C p root)) ∧ Below W.heap.size W w' from fun W hb => by
            have := check14 leaf root a p cap K C N W (by omega) (by omega) (by omega) (by omega) (by omega) (hr.below hb) (by omega) (KHeld_of hK hb)
            rwa [hl] at this)
          have hx : (leafS (cutH N) leaf).size = N := cutH_size N (by omega) _
          have HLF := Lib.hid (fun (W : World) => leaf16 leaf N W (by omega) (by omega))
          have hCC := check_comes (cutH N) N (leafS (cutH N) leaf) K C p root (by omega)
          rw [hCC] at HCK
          have HCM := Lib.hid (fun (W : World) (hb : Below w.heap.size w W) => comes15 N (by omega) (leafS (cutH N) leaf) (by omega) m p a cap K C W hl (by omega) (by omega) (by omega) (by omega) (hr.below hb) hcap)
          generalize leafS (cutH N) leaf = x at *
          obtain ⟨D, hD⟩ : ∃ D, comesS (cutH N) N x K C p.reverse = D := ⟨_, rfl⟩
          rw [hD] at HCK HCM
          obtain ⟨Y, B⟩ := D
          simp only at HCK HCM
          have hz : ∃ Z : Array Value, Z.size = 72 ∧ ∀ W, (zeroValue 34).run Tryd.prog W = .ok (.agg Z) W := ⟨_, by rw [Array.size_replicate], zero33⟩
          obtain ⟨Z, hZs, hZ⟩ := hz
          have HI := Lib.hid (show (Tryd.prog.info? 34).map (·.size) = some keyCells.size by rw [key_size]; exact info33)
          have HZS := Lib.hid (show keyCells.size = Z.size by rw [key_size, hZs])
          have HKS := Lib.hid key_size
          have h1c := key_one
          have HMK := Lib.hid (fun W => makeKey11 W)
          generalize keyCells = kc at *
          clear hr hK hg hl hCC hD hx hZs
          go_enter Tryd.func4, Tryd.ntmps4
          go_upto_region 9 with (first
            | (go_at_call 6; refine HAL.out.mono ?_; rintro e w1 ⟨rfl, hb1⟩; have HB1 := Lib.hid hb1; clear hb1)
            | (go_at_call 7; refine (HGR.out _ HB1.out).mono ?_; rintro e w' ⟨rfl, rfl⟩)
            | (go_at_call 14; refine (HCK.out _ HB1.out).mono ?_; rintro e w2 ⟨rfl, hb2⟩; have HB2 := Lib.hid (bt2 HB1.out hb2); clear hb2)
            | (go_at_call 10; refine (HMK.out _).mono ?_; rintro e w3 ⟨rfl, hb3⟩; have HB3 := Lib.hid (bt2 HB2.out hb3); clear hb3)
            | (refine wpList_store_row rfl 34 (.tmp 14) (.tmp 63) rfl w3.heap.size kc rfl rfl 34 Z (heap_alloc_new w3 _) HI.out HZS.out.symm h1c ?_))
          refine at_world (Φ := KeyG w w3.heap.size kc) (key_made HB3.out) ?_
          rintro W hW
          have HW := Lib.hid hW
          clear hW
          refine wp_region_held_drew (S := KeyG w w3.heap.size kc) (by kernel_rfl) (HW.out.drews 1) (fun hS => ?_)
          refine wpAnyH_take (i := 0) (v := .agg kc) rfl (by kernel_rfl) (by kernel_rfl) (by kernel_rfl) (fun _ _ _ h => h) (yieldsIf_load rfl 34 (.tmp 14) rfl _ _ rfl (fun W hW => load_key HKS.out hW.1)) hS ?_
          simp only [List.getElem_toArray, List.getElem_cons_zero, Act.put, List.setIfInBounds_toArray, List.set_cons_zero, List.set_cons_succ]
          refine wpAnyH_take (i := 1) (v := .agg kc) rfl (by kernel_rfl) (by kernel_rfl) (by kernel_rfl) (fun _ _ _ h => h) (yieldsIf_load rfl 34 (.tmp 14) rfl _ _ rfl (fun W hW => load_key HKS.out hW.1)) hS ?_
          simp only [List.getElem_toArray, List.getElem_cons_zero, List.getElem_cons_succ, Act.put, List.setIfInBounds_toArray, List.set_cons_zero, List.set_cons_succ]
          refine wpAnyH_take (i := 2) (v := .string leaf) rfl (by kernel_rfl) (by kernel_rfl) (by kernel_rfl) (fun _ _ _ h => h) (Or.inl ⟨by simp [Region.wanted], fun W _ => by go_simp⟩) hS ?_
          simp only [List.getElem_toArray, List.getElem_cons_zero, List.getElem_cons_succ, Act.put, List.setIfInBounds_toArray, List.set_cons_zero, List.set_cons_succ]
          refine wpAnyH_take (i := 3) (v := .int .i64 (N : Int)) rfl (by kernel_rfl) (by kernel_rfl) (by kernel_rfl) (fun _ _ _ h => h) (Or.inl ⟨by simp [Region.wanted], fun W _ => by go_simp⟩) hS ?_
          simp only [List.getElem_toArray, List.getElem_cons_zero, List.getElem_cons_succ, Act.put, List.setIfInBounds_toArray, List.set_cons_zero, List.set_cons_succ]
          refine wpAnyH_take (i := 5) (v := .int .i64 (K : Int)) rfl (by kernel_rfl) (by kernel_rfl) (by kernel_rfl) (fun _ _ _ h => h) (Or.inl ⟨by simp [Region.wanted], fun W _ => by go_simp⟩) hS ?_
          simp only [List.getElem_toArray, List.getElem_cons_zero, List.getElem_cons_succ, Act.put, List.setIfInBounds_toArray, List.set_cons_zero, List.set_cons_succ]
          refine wpAnyH_take (i := 6) (v := .int .i64 (C : Int)) rfl (by kernel_rfl) (by kernel_rfl) (by kernel_rfl) (fun _ _ _ h => h) (Or.inl ⟨by simp [Region.wanted], fun W _ => by go_simp⟩) hS ?_
          simp only [List.getElem_toArray, List.getElem_cons_zero, List.getElem_cons_succ, Act.put, List.setIfInBounds_toArray, List.set_cons_zero, List.set_cons_succ]
          refine wpAnyH_take (i := 7) (v := .slice a m cap) rfl (by kernel_rfl) (by kernel_rfl) (by kernel_rfl) (fun _ _ _ h => h) (Or.inl ⟨by simp [Region.wanted], fun W _ => by go_simp⟩) hS ?_
          simp only [List.getElem_toArray, List.getElem_cons_zero, List.getElem_cons_succ, Act.put, List.setIfInBounds_toArray, List.set_cons_zero, List.set_cons_succ]
          refine wpAnyH_take (i := 8) (v := .int .i64 (N : Int)) rfl (by kernel_rfl) (by kernel_rfl) (by kernel_rfl) (fun _ _ _ h => h) (Or.inl ⟨by simp [Region.wanted], fun W _ => by go_simp⟩) hS ?_
          simp only [List.getElem_toArray, List.getElem_cons_zero, List.getElem_cons_succ, Act.put, List.setIfInBounds_toArray, List.set_cons_zero, List.set_cons_succ]
          refine wpAnyH_ready (rs := [4]) (by kernel_rfl) (by simp) ?_
          refine AllReadyH.cons rfl (fun K1 hK1 => ?_) AllReadyH.nil
          refine wanted_go rfl ?_
          simp only [List.getElem_toArray, List.getElem_cons_zero, List.getElem_cons_succ]
          go_wp2_with (go_at_call 16; refine (HLF.out _).mono ?_; rintro e w4 ⟨rfl, hb4⟩; have HB4 := Lib.hid hb4; clear hb4)
          refine hK1.out _ _ (hS.below HB4.out) (fun hS1 => ?_)
          refine wpAnyH_ready (rs := [9]) (by kernel_rfl) (by simp) ?_
          refine AllReadyH.cons rfl (fun K2 hK2 => ?_) AllReadyH.nil
          refine wanted_go rfl ?_
          simp only [List.getElem_toArray, List.getElem_cons_zero, List.getElem_cons_succ]
          go_wp2_with (go_at_call 15; refine (HCM.out _ hS1.2.1).mono ?_; rintro e w5 ⟨rfl, hb5⟩; have HB5 := Lib.hid hb5; clear hb5)
          refine hK2.out _ _ (hS1.below HB5.out) (fun hS2 => ?_)
          refine wpAnyH_take (i := 10) (v := .tuple #[.string Y, .bool B]) rfl (by kernel_rfl) (by kernel_rfl) (by kernel_rfl) (fun _ _ _ h => h) (Or.inl ⟨by simp [Region.wanted], fun W _ => by go_simp⟩) hS2 ?_
          simp only [List.getElem_toArray, List.getElem_cons_zero, List.getElem_cons_succ, Act.put, List.setIfInBounds_toArray, List.set_cons_zero, List.set_cons_succ]
          refine wpAnyH_take (i := 11) (v := .string Y) rfl (by kernel_rfl) (by kernel_rfl) (by kernel_rfl) (fun _ _ _ h => h) (Or.inl ⟨by simp [Region.wanted], fun W _ => by go_simp⟩) hS2 ?_
          simp only [List.getElem_toArray, List.getElem_cons_zero, List.getElem_cons_succ, Act.put, List.setIfInBounds_toArray, List.set_cons_zero, List.set_cons_succ]
          refine wpAnyH_take (i := 12) (v := .bool B) rfl (by kernel_rfl) (by kernel_rfl) (by kernel_rfl) (fun _ _ _ h => h) (Or.inl ⟨by simp [Region.wanted], fun W _ => by go_simp⟩) hS2 ?_
          simp only [List.getElem_toArray, List.getElem_cons_zero, List.getElem_cons_succ, Act.put, List.setIfInBounds_toArray, List.set_cons_zero, List.set_cons_succ]
          refine wpAnyH_take (i := 13) (v := .string Y) rfl (by kernel_rfl) (by kernel_rfl) (by kernel_rfl) (fun _ _ _ h => h) (Or.inl ⟨by simp [Region.wanted], fun W _ => by go_simp⟩) hS2 ?_
          simp only [List.getElem_toArray, List.getElem_cons_zero, List.getElem_cons_succ, Act.put, List.setIfInBounds_toArray, List.set_cons_zero, List.set_cons_succ]
          refine wpAnyH_take (i := 14) (v := .bool B) rfl (by kernel_rfl) (by kernel_rfl) (by kernel_rfl) (fun _ _ _ h => h) (Or.inl ⟨by simp [Region.wanted], fun W _ => by go_simp⟩) hS2 ?_
          simp only [List.getElem_toArray, List.getElem_cons_zero, List.getElem_cons_succ, Act.put, List.setIfInBounds_toArray, List.set_cons_zero, List.set_cons_succ]
          refine wpAnyH_done (by kernel_rfl) ?_ _
          cases B
          · go_wp2
            go_ret
            exact ⟨rfl, hS2.2.1⟩
          · obtain ⟨E, hE⟩ : ∃ E, eqB Y root = E := ⟨_, rfl⟩
            have hE2 : (Y.toList == root.toList) = E := hE
            rw [hE]
            go_wp2
            go_ret
            exact ⟨ret_bool (by cases E <;> rfl), hS2.2.1⟩
        · have HCK := Lib.hid (fun W => check14_no leaf root a m cap k c n W (by omega))
          have hcs : n < 1 ∨ (¬ n < 1 ∧ n > 32) ∨ (¬ n < 1 ∧ ¬ n > 32 ∧ c < 1) ∨ (¬ n < 1 ∧ ¬ n > 32 ∧ ¬ c < 1 ∧ c > 4096) ∨ (¬ n < 1 ∧ ¬ n > 32 ∧ ¬ c < 1 ∧ ¬ c > 4096 ∧ k < 0) ∨ (¬ n < 1 ∧ ¬ n > 32 ∧ ¬ c < 1 ∧ ¬ c > 4096 ∧ ¬ k < 0 ∧ k ≥ c) := by omega
          clear hr hK hg hl hv
          rcases hcs with n1 | ⟨n1, n2⟩ | ⟨n1, n2, c1⟩ | ⟨n1, n2, c1, c2⟩ | ⟨n1, n2, c1, c2, k1⟩ | ⟨n1, n2, c1, c2, k1, k2⟩
          all_goals
            go_enter Tryd.func4, Tryd.ntmps4
            go_wp2_with (first
              | (go_at_call 6; refine HAL.out.mono ?_; rintro e w1 ⟨rfl, hb1⟩; have HB1 := Lib.hid hb1; clear hb1)
              | (go_at_call 7; refine (HGR.out _ HB1.out).mono ?_; rintro e w' ⟨rfl, rfl⟩)
              | (go_at_call 14; refine (HCK.out _).mono ?_; rintro e w2 ⟨rfl, hb2⟩; have HB2 := Lib.hid (bt2 HB1.out hb2); clear hb2))
            go_ret
            exact ⟨rfl, HB2.out⟩
    · rw [hg] at HGR
      clear hr hK hg hl
      go_enter Tryd.func4, Tryd.ntmps4
      go_wp2_with (first
        | (go_at_call 6; refine HAL.out.mono ?_; rintro e w1 ⟨rfl, hb1⟩; have HB1 := Lib.hid hb1; clear hb1)
        | (go_at_call 7; refine (HGR.out _ HB1.out).mono ?_; rintro e w' ⟨rfl, rfl⟩))
      go_ret
      exact ⟨rfl, HB1.out⟩
end Go.Proofs.YtgpebamadhabnaaDoor
