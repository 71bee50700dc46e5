/- The document's proofs, and what comes out of one: the contracts of its Proof, Comes. -/
import Derived.Test.YtgpebamadhabnaaDoorTreeRef
namespace Go.Proofs.YtgpebamadhabnaaDoor
open Go.RowKit

theorem own_mono {w : World} {base base' n : Nat} {e : TypeId} {v : Value} {xs : List Value} (h : w.ownsRow base e 1 v n xs) (hb : base' ≤ base) : w.ownsRow base' e 1 v n xs :=
  ⟨h.1, h.2.imp id fun ⟨g, cap, cur, e1, e2, e3⟩ => ⟨g, cap, cur, e1, Nat.le_trans hb e2, e3⟩⟩
set_option maxRecDepth 100000 in
set_option maxHeartbeats 1000000 in
theorem proof13 (n : Nat) (h1 : n ≤ 32) : ∀ (m : Nat) (l : List ByteArray) (a : Option Addr) (cap k : Nat) (w : World), l.length = m → m ≤ 4096 → k < m → (∀ t ∈ l, t.size ≤ 90000) → StrsAt w a l → m ≤ cap →
    Calls Tryd.prog 13 #[.agg keyCells, .slice a m cap, .int .i64 (k : Int), .int .i64 (n : Int)] w fun e w' => ∃ v, e = .returned v ∧ w'.ownsRow w.heap.size 9 1 v (proofS (cutH n) l k).length ((proofS (cutH n) l k).map Value.string) ∧ Below w.heap.size w w' := by
  intro m
  induction m using Nat.strongRecOn with
  | ind m ih =>
  intro l a cap k w hl hm hk hz hr hcap
  by_cases h2 : m < 2
  · have h3 : (m : Int) < 2 := by omega
    rw [proofS_nil _ _ (by omega)]
    clear hr ih hz
    generalize keyCells = kc at *
    go_enter Tryd.func13, Tryd.ntmps13
    go_upto_region 1 with (fail)
    refine at_world (Φ := KeyS w kc) (KeyS.box w kc) ?_
    rintro W hW
    have HW := Lib.hid hW
    clear hW
    go_wp2
    go_ret
    exact ⟨_, rfl, World.ownsRow_nil _ _ _ _, HW.out.2.1⟩
  · have h3 : ¬ (m : Int) < 2 := by omega
    obtain ⟨i0, hi, hz0, hz1, hz2⟩ := info_parts info9
    obtain ⟨b, off, rfl, hbw, hcell⟩ := hr.some (by omega)
    clear hcell
    have p1 := spl_pos (c := m) (by omega)
    have p2 := spl_lt (c := m) (by omega)
    have HS := Lib.hid (fun W => splitR m W (by omega))
    have HKS := Lib.hid key_size
    have q1 : ¬ cap = spl m := by omega
    have q2 : (spl m : Int) ≤ (cap : Int) := by omega
    have q3 : (spl m : Int) ≤ (m : Int) := by omega
    have q4 : (m : Int) ≤ (cap : Int) := by omega
    by_cases hks : k < spl m
    · have hks2 : (k : Int) < (spl m : Int) := by omega
      rw [proofS_left _ (by omega) (by rw [hl]; exact hks), hl]
      have hP := proofS_len_le (cutH n) n (cutH_size n h1) (l.take (spl m)) k (by simp; omega)
      have hP2 : (l.take (spl m)).length ≤ 4096 := by simp; omega
      have HI := Lib.hid (fun (W : World) (hb : Below w.heap.size w W) => ih (spl m) p2 (l.take (spl m)) _ cap k W (by simp; omega) (by omega) hks (mem_take' hz) ((hr.take (spl m)).below hb) (by omega))
      have HR := Lib.hid (fun (W : World) (hb : Below w.heap.size w W) => root11 n h1 (m - spl m) (l.drop (spl m)) _ (cap - spl m) W (by simp; omega) (by omega) (mem_drop' hz) ((hr.drop (spl m)).below hb) (by omega))
      have HPL := Lib.hid (Nat.le_trans hP hP2)
      generalize proofS (cutH n) (l.take (spl m)) k = Q at *
      generalize rootS (cutH n) (l.drop (spl m)) = R at *
      generalize spl m = s at *
      generalize keyCells = kc at *
      clear hr ih hz hl hP hP2
      go_enter Tryd.func13, Tryd.ntmps13
      go_upto_region 1 with (fail)
      refine at_world (Φ := KeyS w kc) (KeyS.box w kc) ?_
      rintro W hW
      have HW := Lib.hid hW
      clear hW
      go_upto_region 5 with (go_at_call 23; refine (HS.out _).mono ?_; rintro e w1 ⟨rfl, rfl⟩)
      refine wp_region_held_drew (S := KeyS w kc) (by kernel_rfl) (HW.out.drew) (fun hS => ?_)
      refine wpAnyH_take (i := 0) (v := .agg kc) rfl (by kernel_rfl) (by kernel_rfl) (by kernel_rfl) (fun _ _ _ h => h) (yieldsIf_load rfl 34 (.tmp 4) rfl _ _ rfl (fun W hW => load_key HKS.out hW.1)) hS ?_
      simp only [List.getElem_toArray, List.getElem_cons_zero, Act.put, List.setIfInBounds_toArray, List.set_cons_zero, List.set_cons_succ]
      refine wpAnyH_take (i := 1) (v := .slice (some ⟨b, off, none⟩) m cap) rfl (by kernel_rfl) (by kernel_rfl) (by kernel_rfl) (fun _ _ _ h => h) (Or.inl ⟨by simp [Region.wanted], fun W _ => by go_simp⟩) hS ?_
      simp only [List.getElem_toArray, List.getElem_cons_zero, List.getElem_cons_succ, Act.put, List.setIfInBounds_toArray, List.set_cons_zero, List.set_cons_succ]
      refine wpAnyH_take (i := 2) (v := .int .i64 (s : Int)) rfl (by kernel_rfl) (by kernel_rfl) (by kernel_rfl) (fun _ _ _ h => h) (Or.inl ⟨by simp [Region.wanted], fun W _ => by go_simp⟩) hS ?_
      simp only [List.getElem_toArray, List.getElem_cons_zero, List.getElem_cons_succ, Act.put, List.setIfInBounds_toArray, List.set_cons_zero, List.set_cons_succ]
      refine wpAnyH_take (i := 3) (v := .slice (some ⟨b, off, none⟩) s cap) rfl (by kernel_rfl) (by kernel_rfl) (by kernel_rfl) (fun _ _ _ h => h) (Or.inl ⟨by simp [Region.wanted], fun W _ => by go_simp⟩) hS ?_
      simp only [List.getElem_toArray, List.getElem_cons_zero, List.getElem_cons_succ, Act.put, List.setIfInBounds_toArray, List.set_cons_zero, List.set_cons_succ]
      refine wpAnyH_take (i := 4) (v := .int .i64 (k : Int)) rfl (by kernel_rfl) (by kernel_rfl) (by kernel_rfl) (fun _ _ _ h => h) (Or.inl ⟨by simp [Region.wanted], fun W _ => by go_simp⟩) hS ?_
      simp only [List.getElem_toArray, List.getElem_cons_zero, List.getElem_cons_succ, Act.put, List.setIfInBounds_toArray, List.set_cons_zero, List.set_cons_succ]
      refine wpAnyH_take (i := 5) (v := .int .i64 (n : Int)) rfl (by kernel_rfl) (by kernel_rfl) (by kernel_rfl) (fun _ _ _ h => h) (Or.inl ⟨by simp [Region.wanted], fun W _ => by go_simp⟩) hS ?_
      simp only [List.getElem_toArray, List.getElem_cons_zero, List.getElem_cons_succ, Act.put, List.setIfInBounds_toArray, List.set_cons_zero, List.set_cons_succ]
      refine wpAnyH_take (i := 7) (v := .agg kc) rfl (by kernel_rfl) (by kernel_rfl) (by kernel_rfl) (fun _ _ _ h => h) (yieldsIf_load rfl 34 (.tmp 4) rfl _ _ rfl (fun W hW => load_key HKS.out hW.1)) hS ?_
      simp only [List.getElem_toArray, List.getElem_cons_zero, List.getElem_cons_succ, Act.put, List.setIfInBounds_toArray, List.set_cons_zero, List.set_cons_succ]
      refine wpAnyH_take (i := 8) (v := .slice (some ⟨b, off, none⟩) m cap) rfl (by kernel_rfl) (by kernel_rfl) (by kernel_rfl) (fun _ _ _ h => h) (Or.inl ⟨by simp [Region.wanted], fun W _ => by go_simp⟩) hS ?_
      simp only [List.getElem_toArray, List.getElem_cons_zero, List.getElem_cons_succ, Act.put, List.setIfInBounds_toArray, List.set_cons_zero, List.set_cons_succ]
      refine wpAnyH_take (i := 9) (v := .int .i64 (s : Int)) rfl (by kernel_rfl) (by kernel_rfl) (by kernel_rfl) (fun _ _ _ h => h) (Or.inl ⟨by simp [Region.wanted], fun W _ => by go_simp⟩) hS ?_
      simp only [List.getElem_toArray, List.getElem_cons_zero, List.getElem_cons_succ, Act.put, List.setIfInBounds_toArray, List.set_cons_zero, List.set_cons_succ]
      refine wpAnyH_take (i := 10) (v := .slice (some ⟨b, off + s, none⟩) (m - s) (cap - s)) rfl (by kernel_rfl) (by kernel_rfl) (by kernel_rfl) (fun _ _ _ h => h) (Or.inl ⟨by simp [Region.wanted], fun W _ => by go_simp⟩) hS ?_
      simp only [List.getElem_toArray, List.getElem_cons_zero, List.getElem_cons_succ, Act.put, List.setIfInBounds_toArray, List.set_cons_zero, List.set_cons_succ]
      refine wpAnyH_take (i := 11) (v := .int .i64 (n : Int)) rfl (by kernel_rfl) (by kernel_rfl) (by kernel_rfl) (fun _ _ _ h => h) (Or.inl ⟨by simp [Region.wanted], fun W _ => by go_simp⟩) hS ?_
      simp only [List.getElem_toArray, List.getElem_cons_zero, List.getElem_cons_succ, Act.put, List.setIfInBounds_toArray, List.set_cons_zero, List.set_cons_succ]
      refine wpAnyH_ready (rs := [6]) (by kernel_rfl) (by simp) ?_
      refine AllReadyH.cons rfl (fun K1 hK1 => ?_) AllReadyH.nil
      refine wanted_go rfl ?_
      simp only [List.getElem_toArray, List.getElem_cons_zero, List.getElem_cons_succ]
      go_wp2_with (go_at_call 13; refine (HI.out _ hS.2.1).mono ?_; rintro e w1 ⟨v, rfl, ho, hb1⟩; have HO := Lib.hid (own_mono (base' := w.heap.size + 1) ho hS.2.2); have HB1 := Lib.hid hb1; clear hb1 ho)
      refine hK1.out _ _ (hS.below HB1.out) (fun hS1 => ?_)
      refine wpAnyH_ready (rs := [12]) (by kernel_rfl) (by simp) ?_
      refine AllReadyH.cons rfl (fun K2 hK2 => ?_) AllReadyH.nil
      refine wanted_go rfl ?_
      simp only [List.getElem_toArray, List.getElem_cons_zero, List.getElem_cons_succ]
      go_wp2_with (go_at_call 11; refine (HR.out _ hS1.2.1).mono ?_; rintro e w2 ⟨rfl, hb2⟩; have HO2 := Lib.hid (own_below HO.out hb2); have HB2 := Lib.hid hb2; clear hb2)
      refine hK2.out _ _ (hS1.below HB2.out) (fun hS2 => ?_)
      refine wpAnyH_ready (rs := [13]) (by kernel_rfl) (by simp) ?_
      refine AllReadyH.cons rfl (fun K3 hK3 => ?_) AllReadyH.nil
      refine wanted_go rfl ?_
      simp only [List.getElem_toArray, List.getElem_cons_zero, List.getElem_cons_succ]
      go_wp2
      refine hK3.out _ _ (hS2.alloc _) (fun hS3 => ?_)
      refine wpAnyH_ready (rs := [14]) (by kernel_rfl) (by simp) ?_
      refine AllReadyH.cons rfl (fun K4 hK4 => ?_) AllReadyH.nil
      refine wanted_go rfl ?_
      simp only [List.getElem_toArray, List.getElem_cons_zero, List.getElem_cons_succ]
      refine wp_append_own _ _ _ 22 rfl (w.heap.size + 1) 9 i0 (.string ⟨#[]⟩) 1 16 Tryd.underlying22 hi hz0 hz1 hz2 rfl (by decide) _ _ _ rfl (HO2.out.alloc _) ⟨w2.heap.size, 0, none⟩ 1 1 [.string R] rfl rfl (new_one _ _ _) (one_cell_str _) (by unfold maxLen; have := HPL.out; omega) (by have := HPL.out; omega) (by have := hS2.2.2; simp; omega) ?_
      intro v' w4 hown' hgrow _
      have HO3 := Lib.hid hown'; have HG3 := Lib.hid hgrow
      clear hown' hgrow
      refine hK4.out _ _ (KeyS.grown hS3 HG3.out (fun k hk => own_block_ge HO2.out k hk)) (fun hS4 => ?_)
      refine wpAnyH_ready (rs := [15]) (by kernel_rfl) (by simp) ?_
      refine AllReadyH.cons rfl (fun K5 hK5 => ?_) AllReadyH.nil
      refine wanted_go rfl ?_
      simp only [List.getElem_toArray, List.getElem_cons_zero, List.getElem_cons_succ]
      go_wp2
      refine hK5.out _ _ hS4 (fun _ => ?_)
      refine wpAnyH_done (by kernel_rfl) ?_ _
      go_wp2
      go_ret
      refine ⟨_, rfl, ?_, hS4.2.1⟩
      rw [List.length_append, List.map_append]; exact own_mono HO3.out (Nat.le_succ _)
    · have hks2 : ¬ (k : Int) < (spl m : Int) := by omega
      have hks3 : (0 : Int) ≤ (k : Int) - (spl m : Int) := by omega
      have hkw : IntKind.i64.wrap ((k : Int) - (spl m : Int)) = (k : Int) - (spl m : Int) := IntWalk.i64_in _ (by omega)
      rw [proofS_right _ (by omega) (by rw [hl]; exact hks), hl]
      have hP := proofS_len_le (cutH n) n (cutH_size n h1) (l.drop (spl m)) (k - spl m) (by simp; omega)
      have hP2 : (l.drop (spl m)).length ≤ 4096 := by simp; omega
      have HI := Lib.hid (fun (W : World) (hb : Below w.heap.size w W) => ih (m - spl m) (by omega) (l.drop (spl m)) _ (cap - spl m) (k - spl m) W (by simp; omega) (by omega) (by omega) (mem_drop' hz) ((hr.drop (spl m)).below hb) (by omega))
      have HR := Lib.hid (fun (W : World) (hb : Below w.heap.size w W) => root11 n h1 (spl m) (l.take (spl m)) _ cap W (by simp; omega) (by omega) (mem_take' hz) ((hr.take (spl m)).below hb) (by omega))
      have HPL := Lib.hid (Nat.le_trans hP hP2)
      have ek : ((k - spl m : Nat) : Int) = (k : Int) - (spl m : Int) := by omega
      rw [ek] at HI
      generalize proofS (cutH n) (l.drop (spl m)) (k - spl m) = Q at *
      generalize rootS (cutH n) (l.take (spl m)) = R at *
      generalize spl m = s at *
      generalize keyCells = kc at *
      clear hr ih hz hl hP hP2 ek
      go_enter Tryd.func13, Tryd.ntmps13
      go_upto_region 1 with (fail)
      refine at_world (Φ := KeyS w kc) (KeyS.box w kc) ?_
      rintro W hW
      have HW := Lib.hid hW
      clear hW
      go_upto_region 6 with (go_at_call 23; refine (HS.out _).mono ?_; rintro e w1 ⟨rfl, rfl⟩)
      refine wp_region_held_drew (S := KeyS w kc) (by kernel_rfl) (HW.out.drew) (fun hS => ?_)
      refine wpAnyH_take (i := 0) (v := .agg kc) rfl (by kernel_rfl) (by kernel_rfl) (by kernel_rfl) (fun _ _ _ h => h) (yieldsIf_load rfl 34 (.tmp 4) rfl _ _ rfl (fun W hW => load_key HKS.out hW.1)) hS ?_
      simp only [List.getElem_toArray, List.getElem_cons_zero, Act.put, List.setIfInBounds_toArray, List.set_cons_zero, List.set_cons_succ]
      refine wpAnyH_take (i := 1) (v := .slice (some ⟨b, off, none⟩) m cap) rfl (by kernel_rfl) (by kernel_rfl) (by kernel_rfl) (fun _ _ _ h => h) (Or.inl ⟨by simp [Region.wanted], fun W _ => by go_simp⟩) hS ?_
      simp only [List.getElem_toArray, List.getElem_cons_zero, List.getElem_cons_succ, Act.put, List.setIfInBounds_toArray, List.set_cons_zero, List.set_cons_succ]
      refine wpAnyH_take (i := 2) (v := .int .i64 (s : Int)) rfl (by kernel_rfl) (by kernel_rfl) (by kernel_rfl) (fun _ _ _ h => h) (Or.inl ⟨by simp [Region.wanted], fun W _ => by go_simp⟩) hS ?_
      simp only [List.getElem_toArray, List.getElem_cons_zero, List.getElem_cons_succ, Act.put, List.setIfInBounds_toArray, List.set_cons_zero, List.set_cons_succ]
      refine wpAnyH_take (i := 3) (v := .slice (some ⟨b, off + s, none⟩) (m - s) (cap - s)) rfl (by kernel_rfl) (by kernel_rfl) (by kernel_rfl) (fun _ _ _ h => h) (Or.inl ⟨by simp [Region.wanted], fun W _ => by go_simp⟩) hS ?_
      simp only [List.getElem_toArray, List.getElem_cons_zero, List.getElem_cons_succ, Act.put, List.setIfInBounds_toArray, List.set_cons_zero, List.set_cons_succ]
      refine wpAnyH_take (i := 4) (v := .int .i64 (k : Int)) rfl (by kernel_rfl) (by kernel_rfl) (by kernel_rfl) (fun _ _ _ h => h) (Or.inl ⟨by simp [Region.wanted], fun W _ => by go_simp⟩) hS ?_
      simp only [List.getElem_toArray, List.getElem_cons_zero, List.getElem_cons_succ, Act.put, List.setIfInBounds_toArray, List.set_cons_zero, List.set_cons_succ]
      refine wpAnyH_take (i := 5) (v := .int .i64 (s : Int)) rfl (by kernel_rfl) (by kernel_rfl) (by kernel_rfl) (fun _ _ _ h => h) (Or.inl ⟨by simp [Region.wanted], fun W _ => by go_simp⟩) hS ?_
      simp only [List.getElem_toArray, List.getElem_cons_zero, List.getElem_cons_succ, Act.put, List.setIfInBounds_toArray, List.set_cons_zero, List.set_cons_succ]
      refine wpAnyH_take (i := 6) (v := .int .i64 ((k : Int) - (s : Int))) rfl (by kernel_rfl) (by kernel_rfl) (by kernel_rfl) (fun _ _ _ h => h) (Or.inl ⟨by simp [Region.wanted], fun W _ => by go_simp⟩) hS ?_
      simp only [List.getElem_toArray, List.getElem_cons_zero, List.getElem_cons_succ, Act.put, List.setIfInBounds_toArray, List.set_cons_zero, List.set_cons_succ]
      refine wpAnyH_take (i := 7) (v := .int .i64 (n : Int)) rfl (by kernel_rfl) (by kernel_rfl) (by kernel_rfl) (fun _ _ _ h => h) (Or.inl ⟨by simp [Region.wanted], fun W _ => by go_simp⟩) hS ?_
      simp only [List.getElem_toArray, List.getElem_cons_zero, List.getElem_cons_succ, Act.put, List.setIfInBounds_toArray, List.set_cons_zero, List.set_cons_succ]
      refine wpAnyH_take (i := 9) (v := .agg kc) rfl (by kernel_rfl) (by kernel_rfl) (by kernel_rfl) (fun _ _ _ h => h) (yieldsIf_load rfl 34 (.tmp 4) rfl _ _ rfl (fun W hW => load_key HKS.out hW.1)) hS ?_
      simp only [List.getElem_toArray, List.getElem_cons_zero, List.getElem_cons_succ, Act.put, List.setIfInBounds_toArray, List.set_cons_zero, List.set_cons_succ]
      refine wpAnyH_take (i := 10) (v := .slice (some ⟨b, off, none⟩) m cap) rfl (by kernel_rfl) (by kernel_rfl) (by kernel_rfl) (fun _ _ _ h => h) (Or.inl ⟨by simp [Region.wanted], fun W _ => by go_simp⟩) hS ?_
      simp only [List.getElem_toArray, List.getElem_cons_zero, List.getElem_cons_succ, Act.put, List.setIfInBounds_toArray, List.set_cons_zero, List.set_cons_succ]
      refine wpAnyH_take (i := 11) (v := .int .i64 (s : Int)) rfl (by kernel_rfl) (by kernel_rfl) (by kernel_rfl) (fun _ _ _ h => h) (Or.inl ⟨by simp [Region.wanted], fun W _ => by go_simp⟩) hS ?_
      simp only [List.getElem_toArray, List.getElem_cons_zero, List.getElem_cons_succ, Act.put, List.setIfInBounds_toArray, List.set_cons_zero, List.set_cons_succ]
      refine wpAnyH_take (i := 12) (v := .slice (some ⟨b, off, none⟩) s cap) rfl (by kernel_rfl) (by kernel_rfl) (by kernel_rfl) (fun _ _ _ h => h) (Or.inl ⟨by simp [Region.wanted], fun W _ => by go_simp⟩) hS ?_
      simp only [List.getElem_toArray, List.getElem_cons_zero, List.getElem_cons_succ, Act.put, List.setIfInBounds_toArray, List.set_cons_zero, List.set_cons_succ]
      refine wpAnyH_take (i := 13) (v := .int .i64 (n : Int)) rfl (by kernel_rfl) (by kernel_rfl) (by kernel_rfl) (fun _ _ _ h => h) (Or.inl ⟨by simp [Region.wanted], fun W _ => by go_simp⟩) hS ?_
      simp only [List.getElem_toArray, List.getElem_cons_zero, List.getElem_cons_succ, Act.put, List.setIfInBounds_toArray, List.set_cons_zero, List.set_cons_succ]
      refine wpAnyH_ready (rs := [8]) (by kernel_rfl) (by simp) ?_
      refine AllReadyH.cons rfl (fun K1 hK1 => ?_) AllReadyH.nil
      refine wanted_go rfl ?_
      simp only [List.getElem_toArray, List.getElem_cons_zero, List.getElem_cons_succ]
      go_wp2_with (go_at_call 13; refine (HI.out _ hS.2.1).mono ?_; rintro e w1 ⟨v, rfl, ho, hb1⟩; have HO := Lib.hid (own_mono (base' := w.heap.size + 1) ho hS.2.2); have HB1 := Lib.hid hb1; clear hb1 ho)
      refine hK1.out _ _ (hS.below HB1.out) (fun hS1 => ?_)
      refine wpAnyH_ready (rs := [14]) (by kernel_rfl) (by simp) ?_
      refine AllReadyH.cons rfl (fun K2 hK2 => ?_) AllReadyH.nil
      refine wanted_go rfl ?_
      simp only [List.getElem_toArray, List.getElem_cons_zero, List.getElem_cons_succ]
      go_wp2_with (go_at_call 11; refine (HR.out _ hS1.2.1).mono ?_; rintro e w2 ⟨rfl, hb2⟩; have HO2 := Lib.hid (own_below HO.out hb2); have HB2 := Lib.hid hb2; clear hb2)
      refine hK2.out _ _ (hS1.below HB2.out) (fun hS2 => ?_)
      refine wpAnyH_ready (rs := [15]) (by kernel_rfl) (by simp) ?_
      refine AllReadyH.cons rfl (fun K3 hK3 => ?_) AllReadyH.nil
      refine wanted_go rfl ?_
      simp only [List.getElem_toArray, List.getElem_cons_zero, List.getElem_cons_succ]
      go_wp2
      refine hK3.out _ _ (hS2.alloc _) (fun hS3 => ?_)
      refine wpAnyH_ready (rs := [16]) (by kernel_rfl) (by simp) ?_
      refine AllReadyH.cons rfl (fun K4 hK4 => ?_) AllReadyH.nil
      refine wanted_go rfl ?_
      simp only [List.getElem_toArray, List.getElem_cons_zero, List.getElem_cons_succ]
      refine wp_append_own _ _ _ 22 rfl (w.heap.size + 1) 9 i0 (.string ⟨#[]⟩) 1 16 Tryd.underlying22 hi hz0 hz1 hz2 rfl (by decide) _ _ _ rfl (HO2.out.alloc _) ⟨w2.heap.size, 0, none⟩ 1 1 [.string R] rfl rfl (new_one _ _ _) (one_cell_str _) (by unfold maxLen; have := HPL.out; omega) (by have := HPL.out; omega) (by have := hS2.2.2; simp; omega) ?_
      intro v' w4 hown' hgrow _
      have HO3 := Lib.hid hown'; have HG3 := Lib.hid hgrow
      clear hown' hgrow
      refine hK4.out _ _ (KeyS.grown hS3 HG3.out (fun k hk => own_block_ge HO2.out k hk)) (fun hS4 => ?_)
      refine wpAnyH_ready (rs := [17]) (by kernel_rfl) (by simp) ?_
      refine AllReadyH.cons rfl (fun K5 hK5 => ?_) AllReadyH.nil
      refine wanted_go rfl ?_
      simp only [List.getElem_toArray, List.getElem_cons_zero, List.getElem_cons_succ]
      go_wp2
      refine hK5.out _ _ hS4 (fun _ => ?_)
      refine wpAnyH_done (by kernel_rfl) ?_ _
      go_wp2
      go_ret
      refine ⟨_, rfl, ?_, hS4.2.1⟩
      rw [List.length_append, List.map_append]; exact own_mono HO3.out (Nat.le_succ _)
end Go.Proofs.YtgpebamadhabnaaDoor
