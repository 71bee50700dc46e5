/- What comes out of a hash and a proof: the contract of the document's Comes. -/
import Derived.Test.YtgpebamadhabnaaDoorTreeRef2
namespace Go.Proofs.YtgpebamadhabnaaDoor
open Go.RowKit

theorem comes_size (h : ByteArray → ByteArray) (n B : Nat) (x : ByteArray) (hx : x.size ≤ B) (hn : ∀ s, (h s).size ≤ B) (r : List ByteArray) : ∀ k c, (comesS h n x k c r).1.size ≤ B := by
  induction r with
  | nil => intro k c; unfold comesS; split; exact hx; exact Nat.zero_le _
  | cons q r ih =>
    intro k c
    unfold comesS
    split
    · exact hx
    · split
      · exact Nat.zero_le _
      · split <;> exact hn _

set_option maxRecDepth 100000 in
set_option maxHeartbeats 1000000 in
theorem comes15 (n : Nat) (h1 : n ≤ 32) (x : ByteArray) (hx : x.size ≤ 1000) : ∀ (N : Nat) (p : List ByteArray) (a : Option Addr) (cap k c : Nat) (w : World), p.length = N → N ≤ 60000 → 1 ≤ c → c ≤ 60000 → k ≤ 60000 → StrsAt w a p → N ≤ cap →
    Calls Tryd.prog 15 #[.agg keyCells, .string x, .int .i64 (k : Int), .int .i64 (c : Int), .slice a N cap, .int .i64 (n : Int)] w fun e w' =>
      e = .returned (.tuple #[.string (comesS (cutH n) n x k c p.reverse).1, .bool (comesS (cutH n) n x k c p.reverse).2]) ∧ Below w.heap.size w w' := by
  intro N
  induction N with
  | zero =>
    intro p a cap k c w hl hN hc hc2 hk hr hcap
    obtain rfl : p = [] := List.eq_nil_of_length_eq_zero hl
    clear hr
    generalize keyCells = kc at *
    by_cases e1 : c = 1
    · subst e1
      show Calls _ _ _ _ fun e w' => e = .returned (.tuple #[.string x, .bool true]) ∧ _
      go_enter Tryd.func15, Tryd.ntmps15
      go_upto_region 1 with (fail)
      refine at_world (Φ := KeyS w kc) (KeyS.box w kc) ?_
      rintro W hW
      have HW := Lib.hid hW
      clear hW
      go_wp2
      go_ret2
      exact ⟨rfl, HW.out.2.1⟩
    · have b1 : ((c : Int) == 1) = false := by simp; omega
      have e : comesS (cutH n) n x k c [].reverse = (⟨#[]⟩, false) := by simp [comesS, e1]
      rw [e]
      clear e
      go_enter Tryd.func15, Tryd.ntmps15
      go_upto_region 1 with (fail)
      refine at_world (Φ := KeyS w kc) (KeyS.box w kc) ?_
      rintro W hW
      have HW := Lib.hid hW
      clear hW
      go_wp2
      go_ret2
      exact ⟨rfl, HW.out.2.1⟩
  | succ L ih =>
    intro p a cap k c w hl hN hc hc2 hk hr hcap
    obtain ⟨p', q, rfl⟩ : ∃ p' q, p = p' ++ [q] := by
      rcases List.eq_nil_or_concat p with h | ⟨p', q, h⟩
      · subst h; simp at hl
      · exact ⟨p', q, by rw [h, List.concat_eq_append]⟩
    have hl' : p'.length = L := by simpa using hl
    obtain ⟨b, off, rfl, hbw, hcell⟩ := hr.some (by simp)
    have c1 := hcell L q (by rw [List.getElem?_append_right (by omega)]; simp [hl'])
    have hr' : StrsAt w (some ⟨b, off, none⟩) p' := by
      have := hr.take L
      rwa [List.take_append_of_le_length (by omega), List.take_of_length_le (by omega)] at this
    rw [List.reverse_append]
    obtain ⟨N, hNN⟩ : ∃ N, L + 1 = N := ⟨_, rfl⟩
    have hN1 : (N : Int) - 1 = (L : Int) := by omega
    rw [hNN] at hN hcap ⊢
    have HC1 := Lib.hid c1
    have HBW := Lib.hid hbw
    have HNN := Lib.hid hNN
    have HKS := Lib.hid key_size
    have q1 : ¬ cap = 0 := by omega
    have q2 : (L : Int) < (N : Int) := by omega
    have q3 : (L : Int) ≤ (cap : Int) := by omega
    have q4 : (L : Int) ≤ (N : Int) := by omega
    have q5 : (N : Int) ≤ (cap : Int) := by omega
    clear hr hcell hl hNN c1 hbw
    by_cases e1 : c = 1
    · subst e1
      show Calls _ _ _ _ fun e w' => e = .returned (.tuple #[.string x, .bool false]) ∧ _
      clear ih hr'
      have b2 : ((N : Int) == 0) = false := by simp; omega
      generalize keyCells = kc at *
      go_enter Tryd.func15, Tryd.ntmps15
      go_upto_region 1 with (fail)
      refine at_world (Φ := KeyS w kc) (KeyS.box w kc) ?_
      rintro W hW
      have HW := Lib.hid hW
      clear hW
      go_wp2
      go_ret2
      exact ⟨rfl, HW.out.2.1⟩
    · have b1 : ((c : Int) == 1) = false := by simp; omega
      have b3 : ¬ (L : Int) < 0 := by omega
      by_cases hq : q.size = n
      · have bq : ((q.size : Int) != (n : Int)) = false := by simp; omega
        have HS := Lib.hid (fun W => splitR c W hc2)
        have p1 := spl_pos (c := c) (by omega)
        have p2 := spl_lt (c := c) (by omega)
        by_cases hks : k < spl c
        · have hks2 : (k : Int) < (spl c : Int) := by omega
          have e : comesS (cutH n) n x k c ([q].reverse ++ p'.reverse) = (nodeS (cutH n) (comesS (cutH n) n x k (spl c) p'.reverse).1 q, (comesS (cutH n) n x k (spl c) p'.reverse).2) := by
            show comesS _ _ _ _ _ (q :: p'.reverse) = _
            simp [comesS, e1, hq, hks]
          rw [e]
          have hys := comes_size (cutH n) n 1000 x hx (fun s => by rw [cutH_size n h1]; omega) p'.reverse k (spl c)
          have HI := Lib.hid (fun (W : World) (hb : Below w.heap.size w W) => ih p' _ cap k (spl c) W hl' (by omega) p1 (by omega) hk (hr'.below hb) (by omega))
          obtain ⟨C, hC⟩ : ∃ C, comesS (cutH n) n x k (spl c) p'.reverse = C := ⟨_, rfl⟩
          rw [hC] at HI hys ⊢
          obtain ⟨Y, V⟩ := C
          simp only at HI hys ⊢
          have HN := Lib.hid (fun (W : World) => node24 Y q n W h1 hys (by omega))
          generalize nodeS (cutH n) Y q = D at *
          clear e hC ih hr'
          generalize spl c = s at *
          generalize keyCells = kc at *
          go_enter Tryd.func15, Tryd.ntmps15
          go_upto_region 1 with (fail)
          refine at_world (Φ := KeyS w kc) (KeyS.box w kc) ?_
          rintro W hW
          have HW := Lib.hid hW
          have cW := (HW.out.2.1.cell (p := ⟨b, off + L, none⟩) HBW.out).trans HC1.out
          clear hW
          go_upto_region 8 with (go_at_call 23; refine (HS.out _).mono ?_; rintro e w1 ⟨rfl, rfl⟩)
          clear cW
          refine wp_region_held_drew (S := KeyS w kc) (by kernel_rfl) (HW.out.drew) (fun hS => ?_)
          refine wpAnyH_take (i := 0) (v := .agg kc) rfl (by kernel_rfl) (by kernel_rfl) (by kernel_rfl) (fun _ _ _ h => h) (yieldsIf_load rfl 34 (.tmp 6) rfl _ _ rfl (fun W hW => load_key HKS.out hW.1)) hS ?_
          simp only [List.getElem_toArray, List.getElem_cons_zero, Act.put, List.setIfInBounds_toArray, List.set_cons_zero, List.set_cons_succ]
          refine wpAnyH_take (i := 1) (v := .string x) rfl (by kernel_rfl) (by kernel_rfl) (by kernel_rfl) (fun _ _ _ h => h) (Or.inl ⟨by simp [Region.wanted], fun W _ => by go_simp⟩) hS ?_
          simp only [List.getElem_toArray, List.getElem_cons_zero, List.getElem_cons_succ, Act.put, List.setIfInBounds_toArray, List.set_cons_zero, List.set_cons_succ]
          refine wpAnyH_take (i := 2) (v := .int .i64 (k : Int)) rfl (by kernel_rfl) (by kernel_rfl) (by kernel_rfl) (fun _ _ _ h => h) (Or.inl ⟨by simp [Region.wanted], fun W _ => by go_simp⟩) hS ?_
          simp only [List.getElem_toArray, List.getElem_cons_zero, List.getElem_cons_succ, Act.put, List.setIfInBounds_toArray, List.set_cons_zero, List.set_cons_succ]
          refine wpAnyH_take (i := 3) (v := .int .i64 (s : Int)) rfl (by kernel_rfl) (by kernel_rfl) (by kernel_rfl) (fun _ _ _ h => h) (Or.inl ⟨by simp [Region.wanted], fun W _ => by go_simp⟩) hS ?_
          simp only [List.getElem_toArray, List.getElem_cons_zero, List.getElem_cons_succ, Act.put, List.setIfInBounds_toArray, List.set_cons_zero, List.set_cons_succ]
          refine wpAnyH_take (i := 4) (v := .slice (some ⟨b, off, none⟩) N cap) rfl (by kernel_rfl) (by kernel_rfl) (by kernel_rfl) (fun _ _ _ h => h) (Or.inl ⟨by simp [Region.wanted], fun W _ => by go_simp⟩) hS ?_
          simp only [List.getElem_toArray, List.getElem_cons_zero, List.getElem_cons_succ, Act.put, List.setIfInBounds_toArray, List.set_cons_zero, List.set_cons_succ]
          refine wpAnyH_take (i := 5) (v := .int .i64 (L : Int)) rfl (by kernel_rfl) (by kernel_rfl) (by kernel_rfl) (fun _ _ _ h => h) (Or.inl ⟨by simp [Region.wanted], fun W _ => by go_simp⟩) hS ?_
          simp only [List.getElem_toArray, List.getElem_cons_zero, List.getElem_cons_succ, Act.put, List.setIfInBounds_toArray, List.set_cons_zero, List.set_cons_succ]
          refine wpAnyH_take (i := 6) (v := .slice (some ⟨b, off, none⟩) L cap) rfl (by kernel_rfl) (by kernel_rfl) (by kernel_rfl) (fun _ _ _ h => h) (Or.inl ⟨by simp [Region.wanted], fun W _ => by go_simp⟩) hS ?_
          simp only [List.getElem_toArray, List.getElem_cons_zero, List.getElem_cons_succ, Act.put, List.setIfInBounds_toArray, List.set_cons_zero, List.set_cons_succ]
          refine wpAnyH_take (i := 7) (v := .int .i64 (n : Int)) rfl (by kernel_rfl) (by kernel_rfl) (by kernel_rfl) (fun _ _ _ h => h) (Or.inl ⟨by simp [Region.wanted], fun W _ => by go_simp⟩) hS ?_
          simp only [List.getElem_toArray, List.getElem_cons_zero, List.getElem_cons_succ, Act.put, List.setIfInBounds_toArray, List.set_cons_zero, List.set_cons_succ]
          refine wpAnyH_ready (rs := [8]) (by kernel_rfl) (by simp) ?_
          refine AllReadyH.cons rfl (fun K1 hK1 => ?_) AllReadyH.nil
          refine wanted_go rfl ?_
          simp only [List.getElem_toArray, List.getElem_cons_zero, List.getElem_cons_succ]
          go_wp2_with (go_at_call 15; refine (HI.out _ hS.2.1).mono ?_; rintro e w1 ⟨rfl, hb1⟩; have HB1 := Lib.hid hb1; clear hb1)
          refine hK1.out _ _ (hS.below HB1.out) (fun hS1 => ?_)
          refine wpAnyH_take (i := 9) (v := .tuple #[.string Y, .bool V]) rfl (by kernel_rfl) (by kernel_rfl) (by kernel_rfl) (fun _ _ _ h => h) (Or.inl ⟨by simp [Region.wanted], fun W _ => by go_simp⟩) hS1 ?_
          simp only [List.getElem_toArray, List.getElem_cons_zero, List.getElem_cons_succ, Act.put, List.setIfInBounds_toArray, List.set_cons_zero, List.set_cons_succ]
          refine wpAnyH_take (i := 10) (v := .string Y) rfl (by kernel_rfl) (by kernel_rfl) (by kernel_rfl) (fun _ _ _ h => h) (Or.inl ⟨by simp [Region.wanted], fun W _ => by go_simp⟩) hS1 ?_
          simp only [List.getElem_toArray, List.getElem_cons_zero, List.getElem_cons_succ, Act.put, List.setIfInBounds_toArray, List.set_cons_zero, List.set_cons_succ]
          refine wpAnyH_take (i := 11) (v := .bool V) rfl (by kernel_rfl) (by kernel_rfl) (by kernel_rfl) (fun _ _ _ h => h) (Or.inl ⟨by simp [Region.wanted], fun W _ => by go_simp⟩) hS1 ?_
          simp only [List.getElem_toArray, List.getElem_cons_zero, List.getElem_cons_succ, Act.put, List.setIfInBounds_toArray, List.set_cons_zero, List.set_cons_succ]
          refine wpAnyH_take (i := 12) (v := .string Y) rfl (by kernel_rfl) (by kernel_rfl) (by kernel_rfl) (fun _ _ _ h => h) (Or.inl ⟨by simp [Region.wanted], fun W _ => by go_simp⟩) hS1 ?_
          simp only [List.getElem_toArray, List.getElem_cons_zero, List.getElem_cons_succ, Act.put, List.setIfInBounds_toArray, List.set_cons_zero, List.set_cons_succ]
          refine wpAnyH_take (i := 13) (v := .bool V) rfl (by kernel_rfl) (by kernel_rfl) (by kernel_rfl) (fun _ _ _ h => h) (Or.inl ⟨by simp [Region.wanted], fun W _ => by go_simp⟩) hS1 ?_
          simp only [List.getElem_toArray, List.getElem_cons_zero, List.getElem_cons_succ, Act.put, List.setIfInBounds_toArray, List.set_cons_zero, List.set_cons_succ]
          refine wpAnyH_done (by kernel_rfl) ?_ _
          go_upto_region 9 with (fail)
          have HS1 := Lib.hid hS1
          clear hS hS1
          refine wp_region_held_drew (S := KeyS w kc) (by kernel_rfl) (HS1.out.drew) (fun hT => ?_)
          refine wpAnyH_take (i := 0) (v := .agg kc) rfl (by kernel_rfl) (by kernel_rfl) (by kernel_rfl) (fun _ _ _ h => h) (yieldsIf_load rfl 34 (.tmp 6) rfl _ _ rfl (fun W hW => load_key HKS.out hW.1)) hT ?_
          simp only [List.getElem_toArray, List.getElem_cons_zero, Act.put, List.setIfInBounds_toArray, List.set_cons_zero, List.set_cons_succ]
          refine wpAnyH_take (i := 1) (v := .string Y) rfl (by kernel_rfl) (by kernel_rfl) (by kernel_rfl) (fun _ _ _ h => h) (Or.inl ⟨by simp [Region.wanted], fun W _ => by go_simp⟩) hT ?_
          simp only [List.getElem_toArray, List.getElem_cons_zero, List.getElem_cons_succ, Act.put, List.setIfInBounds_toArray, List.set_cons_zero, List.set_cons_succ]
          refine wpAnyH_take (i := 2) (v := .slice (some ⟨b, off, none⟩) N cap) rfl (by kernel_rfl) (by kernel_rfl) (by kernel_rfl) (fun _ _ _ h => h) (Or.inl ⟨by simp [Region.wanted], fun W _ => by go_simp⟩) hT ?_
          simp only [List.getElem_toArray, List.getElem_cons_zero, List.getElem_cons_succ, Act.put, List.setIfInBounds_toArray, List.set_cons_zero, List.set_cons_succ]
          refine wpAnyH_take (i := 3) (v := .int .i64 (L : Int)) rfl (by kernel_rfl) (by kernel_rfl) (by kernel_rfl) (fun _ _ _ h => h) (Or.inl ⟨by simp [Region.wanted], fun W _ => by go_simp⟩) hT ?_
          simp only [List.getElem_toArray, List.getElem_cons_zero, List.getElem_cons_succ, Act.put, List.setIfInBounds_toArray, List.set_cons_zero, List.set_cons_succ]
          refine wpAnyH_take (i := 4) (v := .pointer (some ⟨b, off + L, none⟩)) rfl (by kernel_rfl) (by kernel_rfl) (by kernel_rfl) (fun _ _ _ h => h) (Or.inl ⟨by simp [Region.wanted], fun W _ => by go_simp⟩) hT ?_
          simp only [List.getElem_toArray, List.getElem_cons_zero, List.getElem_cons_succ, Act.put, List.setIfInBounds_toArray, List.set_cons_zero, List.set_cons_succ]
          refine wpAnyH_take (i := 5) (v := .string q) rfl (by kernel_rfl) (by kernel_rfl) (by kernel_rfl) (fun _ _ _ h => h) (Or.inl ⟨by simp [Region.wanted], fun W hW => by have h1 := (hW.2.1.cell (p := ⟨b, off + L, none⟩) HBW.out).trans HC1.out; go_simp⟩) hT ?_
          simp only [List.getElem_toArray, List.getElem_cons_zero, List.getElem_cons_succ, Act.put, List.setIfInBounds_toArray, List.set_cons_zero, List.set_cons_succ]
          refine wpAnyH_take (i := 6) (v := .int .i64 (n : Int)) rfl (by kernel_rfl) (by kernel_rfl) (by kernel_rfl) (fun _ _ _ h => h) (Or.inl ⟨by simp [Region.wanted], fun W _ => by go_simp⟩) hT ?_
          simp only [List.getElem_toArray, List.getElem_cons_zero, List.getElem_cons_succ, Act.put, List.setIfInBounds_toArray, List.set_cons_zero, List.set_cons_succ]
          refine wpAnyH_take (i := 8) (v := .bool V) rfl (by kernel_rfl) (by kernel_rfl) (by kernel_rfl) (fun _ _ _ h => h) (Or.inl ⟨by simp [Region.wanted], fun W _ => by go_simp⟩) hT ?_
          simp only [List.getElem_toArray, List.getElem_cons_zero, List.getElem_cons_succ, Act.put, List.setIfInBounds_toArray, List.set_cons_zero, List.set_cons_succ]
          refine wpAnyH_ready (rs := [7]) (by kernel_rfl) (by simp) ?_
          refine AllReadyH.cons rfl (fun K1 hK1 => ?_) AllReadyH.nil
          refine wanted_go rfl ?_
          simp only [List.getElem_toArray, List.getElem_cons_zero, List.getElem_cons_succ]
          go_wp2_with (go_at_call 24; refine (HN.out _).mono ?_; rintro e w2 ⟨rfl, hb2⟩; have HB2 := Lib.hid hb2; clear hb2)
          refine hK1.out _ _ (hT.below HB2.out) (fun hT1 => ?_)
          refine wpAnyH_take (i := 9) (v := .string D) rfl (by kernel_rfl) (by kernel_rfl) (by kernel_rfl) (fun _ _ _ h => h) (Or.inl ⟨by simp [Region.wanted], fun W _ => by go_simp⟩) hT1 ?_
          simp only [List.getElem_toArray, List.getElem_cons_zero, List.getElem_cons_succ, Act.put, List.setIfInBounds_toArray, List.set_cons_zero, List.set_cons_succ]
          refine wpAnyH_take (i := 10) (v := .bool V) rfl (by kernel_rfl) (by kernel_rfl) (by kernel_rfl) (fun _ _ _ h => h) (Or.inl ⟨by simp [Region.wanted], fun W _ => by go_simp⟩) hT1 ?_
          simp only [List.getElem_toArray, List.getElem_cons_zero, List.getElem_cons_succ, Act.put, List.setIfInBounds_toArray, List.set_cons_zero, List.set_cons_succ]
          refine wpAnyH_done (by kernel_rfl) ?_ _
          go_wp2
          go_ret2
          exact ⟨rfl, hT1.2.1⟩
        · have hks2 : ¬ (k : Int) < (spl c : Int) := by omega
          have hks3 : (0 : Int) ≤ (k : Int) - (spl c : Int) := by omega
          have hkw : IntKind.i64.wrap ((k : Int) - (spl c : Int)) = (k : Int) - (spl c : Int) := IntWalk.i64_in _ (by omega)
          have hcw : IntKind.i64.wrap ((c : Int) - (spl c : Int)) = (c : Int) - (spl c : Int) := IntWalk.i64_in _ (by omega)
          have e : comesS (cutH n) n x k c ([q].reverse ++ p'.reverse) = (nodeS (cutH n) q (comesS (cutH n) n x (k - spl c) (c - spl c) p'.reverse).1, (comesS (cutH n) n x (k - spl c) (c - spl c) p'.reverse).2) := by
            show comesS _ _ _ _ _ (q :: p'.reverse) = _
            simp [comesS, e1, hq, hks]
          rw [e]
          have hys := comes_size (cutH n) n 1000 x hx (fun s => by rw [cutH_size n h1]; omega) p'.reverse (k - spl c) (c - spl c)
          have HI := Lib.hid (fun (W : World) (hb : Below w.heap.size w W) => ih p' _ cap (k - spl c) (c - spl c) W hl' (by omega) (by omega) (by omega) (by omega) (hr'.below hb) (by omega))
          have ek : ((k - spl c : Nat) : Int) = (k : Int) - (spl c : Int) := by omega
          have ec : ((c - spl c : Nat) : Int) = (c : Int) - (spl c : Int) := by omega
          rw [ek, ec] at HI
          obtain ⟨C, hC⟩ : ∃ C, comesS (cutH n) n x (k - spl c) (c - spl c) p'.reverse = C := ⟨_, rfl⟩
          rw [hC] at HI hys ⊢
          obtain ⟨Y, V⟩ := C
          simp only at HI hys ⊢
          have HN := Lib.hid (fun (W : World) => node24 q Y n W h1 (by omega) hys)
          generalize nodeS (cutH n) q Y = D at *
          clear e hC ih hr' ek ec
          generalize spl c = s at *
          generalize keyCells = kc at *
          go_enter Tryd.func15, Tryd.ntmps15
          go_upto_region 1 with (fail)
          refine at_world (Φ := KeyS w kc) (KeyS.box w kc) ?_
          rintro W hW
          have HW := Lib.hid hW
          have cW := (HW.out.2.1.cell (p := ⟨b, off + L, none⟩) HBW.out).trans HC1.out
          clear hW
          go_upto_region 10 with (go_at_call 23; refine (HS.out _).mono ?_; rintro e w1 ⟨rfl, rfl⟩)
          clear cW
          refine wp_region_held_drew (S := KeyS w kc) (by kernel_rfl) (HW.out.drew) (fun hS => ?_)
          refine wpAnyH_take (i := 0) (v := .agg kc) rfl (by kernel_rfl) (by kernel_rfl) (by kernel_rfl) (fun _ _ _ h => h) (yieldsIf_load rfl 34 (.tmp 6) rfl _ _ rfl (fun W hW => load_key HKS.out hW.1)) hS ?_
          simp only [List.getElem_toArray, List.getElem_cons_zero, Act.put, List.setIfInBounds_toArray, List.set_cons_zero, List.set_cons_succ]
          refine wpAnyH_take (i := 1) (v := .string x) rfl (by kernel_rfl) (by kernel_rfl) (by kernel_rfl) (fun _ _ _ h => h) (Or.inl ⟨by simp [Region.wanted], fun W _ => by go_simp⟩) hS ?_
          simp only [List.getElem_toArray, List.getElem_cons_zero, List.getElem_cons_succ, Act.put, List.setIfInBounds_toArray, List.set_cons_zero, List.set_cons_succ]
          refine wpAnyH_take (i := 2) (v := .int .i64 (k : Int)) rfl (by kernel_rfl) (by kernel_rfl) (by kernel_rfl) (fun _ _ _ h => h) (Or.inl ⟨by simp [Region.wanted], fun W _ => by go_simp⟩) hS ?_
          simp only [List.getElem_toArray, List.getElem_cons_zero, List.getElem_cons_succ, Act.put, List.setIfInBounds_toArray, List.set_cons_zero, List.set_cons_succ]
          refine wpAnyH_take (i := 3) (v := .int .i64 (s : Int)) rfl (by kernel_rfl) (by kernel_rfl) (by kernel_rfl) (fun _ _ _ h => h) (Or.inl ⟨by simp [Region.wanted], fun W _ => by go_simp⟩) hS ?_
          simp only [List.getElem_toArray, List.getElem_cons_zero, List.getElem_cons_succ, Act.put, List.setIfInBounds_toArray, List.set_cons_zero, List.set_cons_succ]
          refine wpAnyH_take (i := 4) (v := .int .i64 ((k : Int) - (s : Int))) rfl (by kernel_rfl) (by kernel_rfl) (by kernel_rfl) (fun _ _ _ h => h) (Or.inl ⟨by simp [Region.wanted], fun W _ => by go_simp⟩) hS ?_
          simp only [List.getElem_toArray, List.getElem_cons_zero, List.getElem_cons_succ, Act.put, List.setIfInBounds_toArray, List.set_cons_zero, List.set_cons_succ]
          refine wpAnyH_take (i := 5) (v := .int .i64 (c : Int)) rfl (by kernel_rfl) (by kernel_rfl) (by kernel_rfl) (fun _ _ _ h => h) (Or.inl ⟨by simp [Region.wanted], fun W _ => by go_simp⟩) hS ?_
          simp only [List.getElem_toArray, List.getElem_cons_zero, List.getElem_cons_succ, Act.put, List.setIfInBounds_toArray, List.set_cons_zero, List.set_cons_succ]
          refine wpAnyH_take (i := 6) (v := .int .i64 (s : Int)) rfl (by kernel_rfl) (by kernel_rfl) (by kernel_rfl) (fun _ _ _ h => h) (Or.inl ⟨by simp [Region.wanted], fun W _ => by go_simp⟩) hS ?_
          simp only [List.getElem_toArray, List.getElem_cons_zero, List.getElem_cons_succ, Act.put, List.setIfInBounds_toArray, List.set_cons_zero, List.set_cons_succ]
          refine wpAnyH_take (i := 7) (v := .int .i64 ((c : Int) - (s : Int))) rfl (by kernel_rfl) (by kernel_rfl) (by kernel_rfl) (fun _ _ _ h => h) (Or.inl ⟨by simp [Region.wanted], fun W _ => by go_simp⟩) hS ?_
          simp only [List.getElem_toArray, List.getElem_cons_zero, List.getElem_cons_succ, Act.put, List.setIfInBounds_toArray, List.set_cons_zero, List.set_cons_succ]
          refine wpAnyH_take (i := 8) (v := .slice (some ⟨b, off, none⟩) N cap) rfl (by kernel_rfl) (by kernel_rfl) (by kernel_rfl) (fun _ _ _ h => h) (Or.inl ⟨by simp [Region.wanted], fun W _ => by go_simp⟩) hS ?_
          simp only [List.getElem_toArray, List.getElem_cons_zero, List.getElem_cons_succ, Act.put, List.setIfInBounds_toArray, List.set_cons_zero, List.set_cons_succ]
          refine wpAnyH_take (i := 9) (v := .int .i64 (L : Int)) rfl (by kernel_rfl) (by kernel_rfl) (by kernel_rfl) (fun _ _ _ h => h) (Or.inl ⟨by simp [Region.wanted], fun W _ => by go_simp⟩) hS ?_
          simp only [List.getElem_toArray, List.getElem_cons_zero, List.getElem_cons_succ, Act.put, List.setIfInBounds_toArray, List.set_cons_zero, List.set_cons_succ]
          refine wpAnyH_take (i := 10) (v := .slice (some ⟨b, off, none⟩) L cap) rfl (by kernel_rfl) (by kernel_rfl) (by kernel_rfl) (fun _ _ _ h => h) (Or.inl ⟨by simp [Region.wanted], fun W _ => by go_simp⟩) hS ?_
          simp only [List.getElem_toArray, List.getElem_cons_zero, List.getElem_cons_succ, Act.put, List.setIfInBounds_toArray, List.set_cons_zero, List.set_cons_succ]
          refine wpAnyH_take (i := 11) (v := .int .i64 (n : Int)) rfl (by kernel_rfl) (by kernel_rfl) (by kernel_rfl) (fun _ _ _ h => h) (Or.inl ⟨by simp [Region.wanted], fun W _ => by go_simp⟩) hS ?_
          simp only [List.getElem_toArray, List.getElem_cons_zero, List.getElem_cons_succ, Act.put, List.setIfInBounds_toArray, List.set_cons_zero, List.set_cons_succ]
          refine wpAnyH_ready (rs := [12]) (by kernel_rfl) (by simp) ?_
          refine AllReadyH.cons rfl (fun K1 hK1 => ?_) AllReadyH.nil
          refine wanted_go rfl ?_
          simp only [List.getElem_toArray, List.getElem_cons_zero, List.getElem_cons_succ]
          go_wp2_with (go_at_call 15; refine (HI.out _ hS.2.1).mono ?_; rintro e w1 ⟨rfl, hb1⟩; have HB1 := Lib.hid hb1; clear hb1)
          refine hK1.out _ _ (hS.below HB1.out) (fun hS1 => ?_)
          refine wpAnyH_take (i := 13) (v := .tuple #[.string Y, .bool V]) rfl (by kernel_rfl) (by kernel_rfl) (by kernel_rfl) (fun _ _ _ h => h) (Or.inl ⟨by simp [Region.wanted], fun W _ => by go_simp⟩) hS1 ?_
          simp only [List.getElem_toArray, List.getElem_cons_zero, List.getElem_cons_succ, Act.put, List.setIfInBounds_toArray, List.set_cons_zero, List.set_cons_succ]
          refine wpAnyH_take (i := 14) (v := .string Y) rfl (by kernel_rfl) (by kernel_rfl) (by kernel_rfl) (fun _ _ _ h => h) (Or.inl ⟨by simp [Region.wanted], fun W _ => by go_simp⟩) hS1 ?_
          simp only [List.getElem_toArray, List.getElem_cons_zero, List.getElem_cons_succ, Act.put, List.setIfInBounds_toArray, List.set_cons_zero, List.set_cons_succ]
          refine wpAnyH_take (i := 15) (v := .bool V) rfl (by kernel_rfl) (by kernel_rfl) (by kernel_rfl) (fun _ _ _ h => h) (Or.inl ⟨by simp [Region.wanted], fun W _ => by go_simp⟩) hS1 ?_
          simp only [List.getElem_toArray, List.getElem_cons_zero, List.getElem_cons_succ, Act.put, List.setIfInBounds_toArray, List.set_cons_zero, List.set_cons_succ]
          refine wpAnyH_take (i := 16) (v := .string Y) rfl (by kernel_rfl) (by kernel_rfl) (by kernel_rfl) (fun _ _ _ h => h) (Or.inl ⟨by simp [Region.wanted], fun W _ => by go_simp⟩) hS1 ?_
          simp only [List.getElem_toArray, List.getElem_cons_zero, List.getElem_cons_succ, Act.put, List.setIfInBounds_toArray, List.set_cons_zero, List.set_cons_succ]
          refine wpAnyH_take (i := 17) (v := .bool V) rfl (by kernel_rfl) (by kernel_rfl) (by kernel_rfl) (fun _ _ _ h => h) (Or.inl ⟨by simp [Region.wanted], fun W _ => by go_simp⟩) hS1 ?_
          simp only [List.getElem_toArray, List.getElem_cons_zero, List.getElem_cons_succ, Act.put, List.setIfInBounds_toArray, List.set_cons_zero, List.set_cons_succ]
          refine wpAnyH_done (by kernel_rfl) ?_ _
          go_upto_region 11 with (fail)
          have HS1 := Lib.hid hS1
          clear hS hS1
          refine wp_region_held_drew (S := KeyS w kc) (by kernel_rfl) (HS1.out.drew) (fun hT => ?_)
          refine wpAnyH_take (i := 0) (v := .agg kc) rfl (by kernel_rfl) (by kernel_rfl) (by kernel_rfl) (fun _ _ _ h => h) (yieldsIf_load rfl 34 (.tmp 6) rfl _ _ rfl (fun W hW => load_key HKS.out hW.1)) hT ?_
          simp only [List.getElem_toArray, List.getElem_cons_zero, Act.put, List.setIfInBounds_toArray, List.set_cons_zero, List.set_cons_succ]
          refine wpAnyH_take (i := 1) (v := .slice (some ⟨b, off, none⟩) N cap) rfl (by kernel_rfl) (by kernel_rfl) (by kernel_rfl) (fun _ _ _ h => h) (Or.inl ⟨by simp [Region.wanted], fun W _ => by go_simp⟩) hT ?_
          simp only [List.getElem_toArray, List.getElem_cons_zero, List.getElem_cons_succ, Act.put, List.setIfInBounds_toArray, List.set_cons_zero, List.set_cons_succ]
          refine wpAnyH_take (i := 2) (v := .int .i64 (L : Int)) rfl (by kernel_rfl) (by kernel_rfl) (by kernel_rfl) (fun _ _ _ h => h) (Or.inl ⟨by simp [Region.wanted], fun W _ => by go_simp⟩) hT ?_
          simp only [List.getElem_toArray, List.getElem_cons_zero, List.getElem_cons_succ, Act.put, List.setIfInBounds_toArray, List.set_cons_zero, List.set_cons_succ]
          refine wpAnyH_take (i := 3) (v := .pointer (some ⟨b, off + L, none⟩)) rfl (by kernel_rfl) (by kernel_rfl) (by kernel_rfl) (fun _ _ _ h => h) (Or.inl ⟨by simp [Region.wanted], fun W _ => by go_simp⟩) hT ?_
          simp only [List.getElem_toArray, List.getElem_cons_zero, List.getElem_cons_succ, Act.put, List.setIfInBounds_toArray, List.set_cons_zero, List.set_cons_succ]
          refine wpAnyH_take (i := 4) (v := .string q) rfl (by kernel_rfl) (by kernel_rfl) (by kernel_rfl) (fun _ _ _ h => h) (Or.inl ⟨by simp [Region.wanted], fun W hW => by have h1 := (hW.2.1.cell (p := ⟨b, off + L, none⟩) HBW.out).trans HC1.out; go_simp⟩) hT ?_
          simp only [List.getElem_toArray, List.getElem_cons_zero, List.getElem_cons_succ, Act.put, List.setIfInBounds_toArray, List.set_cons_zero, List.set_cons_succ]
          refine wpAnyH_take (i := 5) (v := .string Y) rfl (by kernel_rfl) (by kernel_rfl) (by kernel_rfl) (fun _ _ _ h => h) (Or.inl ⟨by simp [Region.wanted], fun W _ => by go_simp⟩) hT ?_
          simp only [List.getElem_toArray, List.getElem_cons_zero, List.getElem_cons_succ, Act.put, List.setIfInBounds_toArray, List.set_cons_zero, List.set_cons_succ]
          refine wpAnyH_take (i := 6) (v := .int .i64 (n : Int)) rfl (by kernel_rfl) (by kernel_rfl) (by kernel_rfl) (fun _ _ _ h => h) (Or.inl ⟨by simp [Region.wanted], fun W _ => by go_simp⟩) hT ?_
          simp only [List.getElem_toArray, List.getElem_cons_zero, List.getElem_cons_succ, Act.put, List.setIfInBounds_toArray, List.set_cons_zero, List.set_cons_succ]
          refine wpAnyH_take (i := 8) (v := .bool V) rfl (by kernel_rfl) (by kernel_rfl) (by kernel_rfl) (fun _ _ _ h => h) (Or.inl ⟨by simp [Region.wanted], fun W _ => by go_simp⟩) hT ?_
          simp only [List.getElem_toArray, List.getElem_cons_zero, List.getElem_cons_succ, Act.put, List.setIfInBounds_toArray, List.set_cons_zero, List.set_cons_succ]
          refine wpAnyH_ready (rs := [7]) (by kernel_rfl) (by simp) ?_
          refine AllReadyH.cons rfl (fun K1 hK1 => ?_) AllReadyH.nil
          refine wanted_go rfl ?_
          simp only [List.getElem_toArray, List.getElem_cons_zero, List.getElem_cons_succ]
          go_wp2_with (go_at_call 24; refine (HN.out _).mono ?_; rintro e w2 ⟨rfl, hb2⟩; have HB2 := Lib.hid hb2; clear hb2)
          refine hK1.out _ _ (hT.below HB2.out) (fun hT1 => ?_)
          refine wpAnyH_take (i := 9) (v := .string D) rfl (by kernel_rfl) (by kernel_rfl) (by kernel_rfl) (fun _ _ _ h => h) (Or.inl ⟨by simp [Region.wanted], fun W _ => by go_simp⟩) hT1 ?_
          simp only [List.getElem_toArray, List.getElem_cons_zero, List.getElem_cons_succ, Act.put, List.setIfInBounds_toArray, List.set_cons_zero, List.set_cons_succ]
          refine wpAnyH_take (i := 10) (v := .bool V) rfl (by kernel_rfl) (by kernel_rfl) (by kernel_rfl) (fun _ _ _ h => h) (Or.inl ⟨by simp [Region.wanted], fun W _ => by go_simp⟩) hT1 ?_
          simp only [List.getElem_toArray, List.getElem_cons_zero, List.getElem_cons_succ, Act.put, List.setIfInBounds_toArray, List.set_cons_zero, List.set_cons_succ]
          refine wpAnyH_done (by kernel_rfl) ?_ _
          go_wp2
          go_ret2
          exact ⟨rfl, hT1.2.1⟩
      · have bq : ((q.size : Int) != (n : Int)) = true := by simp; omega
        have e : comesS (cutH n) n x k c ([q].reverse ++ p'.reverse) = (⟨#[]⟩, false) := by
          show comesS _ _ _ _ _ (q :: p'.reverse) = _
          simp [comesS, e1, hq]
        rw [e]
        clear e ih hr'
        generalize keyCells = kc at *
        go_enter Tryd.func15, Tryd.ntmps15
        go_upto_region 1 with (fail)
        refine at_world (Φ := KeyS w kc) (KeyS.box w kc) ?_
        rintro W hW
        have HW := Lib.hid hW
        have cW := (HW.out.2.1.cell (p := ⟨b, off + L, none⟩) HBW.out).trans HC1.out
        clear hW
        go_wp2
        go_ret2
        exact ⟨rfl, HW.out.2.1⟩
end Go.Proofs.YtgpebamadhabnaaDoor
