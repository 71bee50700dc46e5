/- The law's Plain: the contract. -/
import Derived.Test.YtellifcjamedkaaDfRef5
namespace Go.Proofs.Ytellifcjamedkaa
open Go.RowKit Base Base2

theorem take_oneD {α : Type} {l : List α} {i : Nat} {x : α} (h : l[i]? = some x) : l.take (i + 1) = l.take i ++ [x] := by rw [List.take_add_one, h]; rfl
/-- Changes that lie in a row of structs. -/
def ChAt (W : World) (a : Option Addr) (l : List ChV) : Prop := ∀ (i : Nat) (x : ChV), l[i]? = some x → ∃ g o, a = some ⟨g, o, none⟩ ∧ W.cell? ⟨g, o + i * 5, none⟩ = some (.int .i64 x.c.l) ∧ W.cell? ⟨g, o + i * 5 + 1, none⟩ = some (.int .i64 x.c.a) ∧ W.cell? ⟨g, o + i * 5 + 2, none⟩ = some (.int .i64 x.c.b) ∧ W.cell? ⟨g, o + i * 5 + 3, none⟩ = some (.slice x.a1 x.c.was.length x.c1) ∧ W.cell? ⟨g, o + i * 5 + 4, none⟩ = some (.slice x.a2 x.c.now.length x.c2)
set_option maxRecDepth 100000 in
set_option maxHeartbeats 8000000 in
theorem plain11 (a : Option Addr) (p : Nat) (l : List ChV) (w : World) (h8 : l.length ≤ 100000) (hc : ∀ W, Below w.heap.size w W → ChAt W a l) (hv : ∀ x ∈ l, ValAt w x.a1 x.c.was ∧ ValAt w x.a2 x.c.now) :
    Calls Try.prog 10 #[.slice a l.length p] w fun e w' => ∃ vo, e = .returned vo ∧ ChS w.heap.size w l vo w' := by
  obtain ⟨i0, hi0, hz0, hz1, hz2⟩ := info_parts infoCh
  have HC := Lib.hid hc
  have HV := Lib.hid hv
  have HS0 := Lib.hid (ChS.nil (W0 := w) (Nat.le_refl w.heap.size))
  obtain ⟨n, hn⟩ : ∃ n, l.length = n := ⟨_, rfl⟩
  have HN := Lib.hid hn
  have HNX := Lib.hid (show ∀ i, i < n → ∃ x, l[i]? = some x from fun i h => ⟨l[i]'(by omega), by simp [show i < l.length by omega]⟩)
  rw [hn] at h8 ⊢
  clear hc hv hn
  go_enter Try.func10, Try.ntmps10
  go_wp2
  go_loopw [3, 4] (fun vo vi W => ∃ i : Nat, vi = .int .i64 (i : Int) ∧ i ≤ n ∧ ChS w.heap.size w (l.take i) vo W) (fun _ vi _ => n - (intOf vi).toNat)
  case atStart => exact ⟨0, rfl, Nat.zero_le _, HS0.out⟩
  case round =>
    clear HS0
    obtain ⟨i, rfl, hi, hs⟩ := hrel
    have HS := Lib.hid hs
    clear hs
    by_cases hlx : i < n
    · obtain ⟨⟨⟨xl, xa, xb, xv, yv⟩, A1, C1, A2, C2⟩, hx⟩ := HNX.out i hlx
      obtain ⟨g, o, ha, _⟩ := HC.out w (Below.refl _ _) i _ hx
      have HCC := Lib.hid (fun W (h : Below w.heap.size w W) => show W.cell? ⟨g, o + i * 5, none⟩ = some (.int .i64 xl) ∧ W.cell? ⟨g, o + i * 5 + 1, none⟩ = some (.int .i64 xa) ∧ W.cell? ⟨g, o + i * 5 + 2, none⟩ = some (.int .i64 xb) ∧ W.cell? ⟨g, o + i * 5 + 3, none⟩ = some (.slice A1 xv.length C1) ∧ W.cell? ⟨g, o + i * 5 + 4, none⟩ = some (.slice A2 yv.length C2) by
        obtain ⟨g', o', ha', h'⟩ := HC.out W h i _ hx
        rw [ha] at ha'
        obtain ⟨rfl, rfl⟩ : g = g' ∧ o = o' := by simpa using ha'
        exact h')
      have HVX := Lib.hid (HV.out _ (List.mem_of_getElem? hx))
      have HTK := Lib.hid (take_oneD hx)
      have HLN := Lib.hid (show (l.take i).length = i by rw [List.length_take, HN.out]; omega)
      subst ha
      clear hx
      go_upto_region 5 with (fail)
      refine at_world (Φ := fun W => ChS w.heap.size w (l.take i) u3 W) HS.out ?_
      clear HS
      rintro W9 hs9
      have HSD := Lib.hid (show ChS w.heap.size w (l.take i) u3 W9.drew from hs9.below ((Below.refl _ _).drew))
      clear hs9
      have b1 : (l.take i).length + 1 ≤ maxLen := by rw [HLN.out]; unfold maxLen; omega
      have b2 : ((l.take i).length + 1) * 72 ≤ 140737488355328 := by rw [HLN.out]; omega
      have HVA := Lib.hid (show ValAt W9.drew A1 xv ∧ ValAt W9.drew A2 yv from ⟨HVX.out.1.below HSD.out.lo, HVX.out.2.below HSD.out.lo⟩)
      refine wp_region_held_drew (S := fun W => Below w.heap.size w W) (by kernel_rfl) (HSD.out.lo) (fun hS => ?_)
      refine wpAnyH_take (i := 0) (v := u3) rfl (by kernel_rfl) (by kernel_rfl) (by kernel_rfl) (fun _ _ _ h => h) (Or.inl ⟨by simp [Region.wanted], fun W _ => by go_simp⟩) hS ?_
      simp only [List.getElem_toArray, List.getElem_cons_zero, Act.put, List.setIfInBounds_toArray, List.set_cons_zero, List.set_cons_succ]
      refine wpAnyH_take (i := 1) (v := .slice (some ⟨g, o, none⟩) n p) rfl (by kernel_rfl) (by kernel_rfl) (by kernel_rfl) (fun _ _ _ h => h) (Or.inl ⟨by simp [Region.wanted], fun W _ => by go_simp⟩) hS ?_
      simp only [List.getElem_toArray, List.getElem_cons_zero, List.getElem_cons_succ, Act.put, List.setIfInBounds_toArray, List.set_cons_zero, List.set_cons_succ]
      refine wpAnyH_take (i := 2) (v := .int .i64 (i : Int)) rfl (by kernel_rfl) (by kernel_rfl) (by kernel_rfl) (fun _ _ _ h => h) (Or.inl ⟨by simp [Region.wanted], fun W _ => by go_simp⟩) hS ?_
      simp only [List.getElem_toArray, List.getElem_cons_zero, List.getElem_cons_succ, Act.put, List.setIfInBounds_toArray, List.set_cons_zero, List.set_cons_succ]
      refine wpAnyH_take (i := 3) (v := .pointer (some ⟨g, o + i * 5, none⟩)) rfl (by kernel_rfl) (by kernel_rfl) (by kernel_rfl) (fun _ _ _ h => h) (Or.inl ⟨by simp [Region.wanted], fun W _ => by go_simp⟩) hS ?_
      simp only [List.getElem_toArray, List.getElem_cons_zero, List.getElem_cons_succ, Act.put, List.setIfInBounds_toArray, List.set_cons_zero, List.set_cons_succ]
      refine wpAnyH_take (i := 4) (v := .pointer (some ⟨g, o + i * 5, none⟩)) rfl (by kernel_rfl) (by kernel_rfl) (by kernel_rfl) (fun _ _ _ h => h) (Or.inl ⟨by simp [Region.wanted], fun W _ => by go_simp⟩) hS ?_
      simp only [List.getElem_toArray, List.getElem_cons_zero, List.getElem_cons_succ, Act.put, List.setIfInBounds_toArray, List.set_cons_zero, List.set_cons_succ]
      refine wpAnyH_take (i := 5) (v := .int .i64 xl) rfl (by kernel_rfl) (by kernel_rfl) (by kernel_rfl) (fun _ _ _ h => h) (Or.inl ⟨by simp [Region.wanted], fun W hW => by have kc := (HCC.out W hW).1; go_simp⟩) hS ?_
      simp only [List.getElem_toArray, List.getElem_cons_zero, List.getElem_cons_succ, Act.put, List.setIfInBounds_toArray, List.set_cons_zero, List.set_cons_succ]
      refine wpAnyH_take (i := 6) (v := .slice (some ⟨g, o, none⟩) n p) rfl (by kernel_rfl) (by kernel_rfl) (by kernel_rfl) (fun _ _ _ h => h) (Or.inl ⟨by simp [Region.wanted], fun W _ => by go_simp⟩) hS ?_
      simp only [List.getElem_toArray, List.getElem_cons_zero, List.getElem_cons_succ, Act.put, List.setIfInBounds_toArray, List.set_cons_zero, List.set_cons_succ]
      refine wpAnyH_take (i := 7) (v := .int .i64 (i : Int)) rfl (by kernel_rfl) (by kernel_rfl) (by kernel_rfl) (fun _ _ _ h => h) (Or.inl ⟨by simp [Region.wanted], fun W _ => by go_simp⟩) hS ?_
      simp only [List.getElem_toArray, List.getElem_cons_zero, List.getElem_cons_succ, Act.put, List.setIfInBounds_toArray, List.set_cons_zero, List.set_cons_succ]
      refine wpAnyH_take (i := 8) (v := .pointer (some ⟨g, o + i * 5, none⟩)) rfl (by kernel_rfl) (by kernel_rfl) (by kernel_rfl) (fun _ _ _ h => h) (Or.inl ⟨by simp [Region.wanted], fun W _ => by go_simp⟩) hS ?_
      simp only [List.getElem_toArray, List.getElem_cons_zero, List.getElem_cons_succ, Act.put, List.setIfInBounds_toArray, List.set_cons_zero, List.set_cons_succ]
      refine wpAnyH_take (i := 9) (v := .pointer (some ⟨g, o + i * 5 + 1, none⟩)) rfl (by kernel_rfl) (by kernel_rfl) (by kernel_rfl) (fun _ _ _ h => h) (Or.inl ⟨by simp [Region.wanted], fun W _ => by go_simp⟩) hS ?_
      simp only [List.getElem_toArray, List.getElem_cons_zero, List.getElem_cons_succ, Act.put, List.setIfInBounds_toArray, List.set_cons_zero, List.set_cons_succ]
      refine wpAnyH_take (i := 10) (v := .int .i64 xa) rfl (by kernel_rfl) (by kernel_rfl) (by kernel_rfl) (fun _ _ _ h => h) (Or.inl ⟨by simp [Region.wanted], fun W hW => by have kc := (HCC.out W hW).2.1; go_simp⟩) hS ?_
      simp only [List.getElem_toArray, List.getElem_cons_zero, List.getElem_cons_succ, Act.put, List.setIfInBounds_toArray, List.set_cons_zero, List.set_cons_succ]
      refine wpAnyH_take (i := 11) (v := .slice (some ⟨g, o, none⟩) n p) rfl (by kernel_rfl) (by kernel_rfl) (by kernel_rfl) (fun _ _ _ h => h) (Or.inl ⟨by simp [Region.wanted], fun W _ => by go_simp⟩) hS ?_
      simp only [List.getElem_toArray, List.getElem_cons_zero, List.getElem_cons_succ, Act.put, List.setIfInBounds_toArray, List.set_cons_zero, List.set_cons_succ]
      refine wpAnyH_take (i := 12) (v := .int .i64 (i : Int)) rfl (by kernel_rfl) (by kernel_rfl) (by kernel_rfl) (fun _ _ _ h => h) (Or.inl ⟨by simp [Region.wanted], fun W _ => by go_simp⟩) hS ?_
      simp only [List.getElem_toArray, List.getElem_cons_zero, List.getElem_cons_succ, Act.put, List.setIfInBounds_toArray, List.set_cons_zero, List.set_cons_succ]
      refine wpAnyH_take (i := 13) (v := .pointer (some ⟨g, o + i * 5, none⟩)) rfl (by kernel_rfl) (by kernel_rfl) (by kernel_rfl) (fun _ _ _ h => h) (Or.inl ⟨by simp [Region.wanted], fun W _ => by go_simp⟩) hS ?_
      simp only [List.getElem_toArray, List.getElem_cons_zero, List.getElem_cons_succ, Act.put, List.setIfInBounds_toArray, List.set_cons_zero, List.set_cons_succ]
      refine wpAnyH_take (i := 14) (v := .pointer (some ⟨g, o + i * 5 + 2, none⟩)) rfl (by kernel_rfl) (by kernel_rfl) (by kernel_rfl) (fun _ _ _ h => h) (Or.inl ⟨by simp [Region.wanted], fun W _ => by go_simp⟩) hS ?_
      simp only [List.getElem_toArray, List.getElem_cons_zero, List.getElem_cons_succ, Act.put, List.setIfInBounds_toArray, List.set_cons_zero, List.set_cons_succ]
      refine wpAnyH_take (i := 15) (v := .int .i64 xb) rfl (by kernel_rfl) (by kernel_rfl) (by kernel_rfl) (fun _ _ _ h => h) (Or.inl ⟨by simp [Region.wanted], fun W hW => by have kc := (HCC.out W hW).2.2.1; go_simp⟩) hS ?_
      simp only [List.getElem_toArray, List.getElem_cons_zero, List.getElem_cons_succ, Act.put, List.setIfInBounds_toArray, List.set_cons_zero, List.set_cons_succ]
      refine wpAnyH_take (i := 16) (v := .slice (some ⟨g, o, none⟩) n p) rfl (by kernel_rfl) (by kernel_rfl) (by kernel_rfl) (fun _ _ _ h => h) (Or.inl ⟨by simp [Region.wanted], fun W _ => by go_simp⟩) hS ?_
      simp only [List.getElem_toArray, List.getElem_cons_zero, List.getElem_cons_succ, Act.put, List.setIfInBounds_toArray, List.set_cons_zero, List.set_cons_succ]
      refine wpAnyH_take (i := 17) (v := .int .i64 (i : Int)) rfl (by kernel_rfl) (by kernel_rfl) (by kernel_rfl) (fun _ _ _ h => h) (Or.inl ⟨by simp [Region.wanted], fun W _ => by go_simp⟩) hS ?_
      simp only [List.getElem_toArray, List.getElem_cons_zero, List.getElem_cons_succ, Act.put, List.setIfInBounds_toArray, List.set_cons_zero, List.set_cons_succ]
      refine wpAnyH_take (i := 18) (v := .pointer (some ⟨g, o + i * 5, none⟩)) rfl (by kernel_rfl) (by kernel_rfl) (by kernel_rfl) (fun _ _ _ h => h) (Or.inl ⟨by simp [Region.wanted], fun W _ => by go_simp⟩) hS ?_
      simp only [List.getElem_toArray, List.getElem_cons_zero, List.getElem_cons_succ, Act.put, List.setIfInBounds_toArray, List.set_cons_zero, List.set_cons_succ]
      refine wpAnyH_take (i := 19) (v := .pointer (some ⟨g, o + i * 5 + 3, none⟩)) rfl (by kernel_rfl) (by kernel_rfl) (by kernel_rfl) (fun _ _ _ h => h) (Or.inl ⟨by simp [Region.wanted], fun W _ => by go_simp⟩) hS ?_
      simp only [List.getElem_toArray, List.getElem_cons_zero, List.getElem_cons_succ, Act.put, List.setIfInBounds_toArray, List.set_cons_zero, List.set_cons_succ]
      refine wpAnyH_take (i := 20) (v := .slice A1 xv.length C1) rfl (by kernel_rfl) (by kernel_rfl) (by kernel_rfl) (fun _ _ _ h => h) (Or.inl ⟨by simp [Region.wanted], fun W hW => by have kc := (HCC.out W hW).2.2.2.1; go_simp⟩) hS ?_
      simp only [List.getElem_toArray, List.getElem_cons_zero, List.getElem_cons_succ, Act.put, List.setIfInBounds_toArray, List.set_cons_zero, List.set_cons_succ]
      refine wpAnyH_take (i := 21) (v := .slice (some ⟨g, o, none⟩) n p) rfl (by kernel_rfl) (by kernel_rfl) (by kernel_rfl) (fun _ _ _ h => h) (Or.inl ⟨by simp [Region.wanted], fun W _ => by go_simp⟩) hS ?_
      simp only [List.getElem_toArray, List.getElem_cons_zero, List.getElem_cons_succ, Act.put, List.setIfInBounds_toArray, List.set_cons_zero, List.set_cons_succ]
      refine wpAnyH_take (i := 22) (v := .int .i64 (i : Int)) rfl (by kernel_rfl) (by kernel_rfl) (by kernel_rfl) (fun _ _ _ h => h) (Or.inl ⟨by simp [Region.wanted], fun W _ => by go_simp⟩) hS ?_
      simp only [List.getElem_toArray, List.getElem_cons_zero, List.getElem_cons_succ, Act.put, List.setIfInBounds_toArray, List.set_cons_zero, List.set_cons_succ]
      refine wpAnyH_take (i := 23) (v := .pointer (some ⟨g, o + i * 5, none⟩)) rfl (by kernel_rfl) (by kernel_rfl) (by kernel_rfl) (fun _ _ _ h => h) (Or.inl ⟨by simp [Region.wanted], fun W _ => by go_simp⟩) hS ?_
      simp only [List.getElem_toArray, List.getElem_cons_zero, List.getElem_cons_succ, Act.put, List.setIfInBounds_toArray, List.set_cons_zero, List.set_cons_succ]
      refine wpAnyH_take (i := 24) (v := .pointer (some ⟨g, o + i * 5 + 4, none⟩)) rfl (by kernel_rfl) (by kernel_rfl) (by kernel_rfl) (fun _ _ _ h => h) (Or.inl ⟨by simp [Region.wanted], fun W _ => by go_simp⟩) hS ?_
      simp only [List.getElem_toArray, List.getElem_cons_zero, List.getElem_cons_succ, Act.put, List.setIfInBounds_toArray, List.set_cons_zero, List.set_cons_succ]
      refine wpAnyH_take (i := 25) (v := .slice A2 yv.length C2) rfl (by kernel_rfl) (by kernel_rfl) (by kernel_rfl) (fun _ _ _ h => h) (Or.inl ⟨by simp [Region.wanted], fun W hW => by have kc := (HCC.out W hW).2.2.2.2; go_simp⟩) hS ?_
      simp only [List.getElem_toArray, List.getElem_cons_zero, List.getElem_cons_succ, Act.put, List.setIfInBounds_toArray, List.set_cons_zero, List.set_cons_succ]
      refine wpAnyH_take (i := 26) (v := .agg #[.int .i64 xl, .int .i64 xa, .int .i64 xb, .slice A1 xv.length C1, .slice A2 yv.length C2]) rfl (by kernel_rfl) (by kernel_rfl) (by kernel_rfl) (fun _ _ _ h => h) (Or.inl ⟨by simp [Region.wanted], fun W _ => by go_simp⟩) hS ?_
      simp only [List.getElem_toArray, List.getElem_cons_zero, List.getElem_cons_succ, Act.put, List.setIfInBounds_toArray, List.set_cons_zero, List.set_cons_succ]
      refine wpAnyH_ready (rs := [27]) (by kernel_rfl) (by simp) ?_
      refine AllReadyH.cons rfl (fun K1 hK1 => ?_) AllReadyH.nil
      refine wanted_go rfl ?_
      simp only [List.getElem_toArray, List.getElem_cons_zero, List.getElem_cons_succ]
      go_wp2
      refine hK1.out _ _ ((hS).alloc HSD.out.sz _) (fun hS1 => ?_)
      refine wpAnyH_ready (rs := [28]) (by kernel_rfl) (by simp) ?_
      refine AllReadyH.cons rfl (fun K2 hK2 => ?_) AllReadyH.nil
      refine wanted_go rfl ?_
      simp only [List.getElem_toArray, List.getElem_cons_zero, List.getElem_cons_succ]
      (obtain ⟨v', w9, hr, hown, hgrow, _⟩ := run_append_own (P := Try.prog) (w := W9.drew.alloc (.cells #[.int .i64 xl, .int .i64 xa, .int .i64 xb, .slice A1 xv.length C1, .slice A2 yv.length C2] 47)) w.heap.size 35 35 47 i0 _ 5 72 Try.underlying35 hi0 hz0 hz1 hz2 rfl (by decide) _ _ _ (HSD.out.row.alloc _) ⟨W9.heap.size, 0, none⟩ 1 1 [.int .i64 xl, .int .i64 xa, .int .i64 xb, .slice A1 xv.length C1, .slice A2 yv.length C2] rfl (fun j u hu => new_cells W9.drew [.int .i64 xl, .int .i64 xa, .int .i64 xb, .slice A1 xv.length C1, .slice A2 yv.length C2] 47 j u hu) (one_chV ⟨⟨xl, xa, xb, xv, yv⟩, A1, C1, A2, C2⟩) b1 b2 (by have := HSD.out.sz; rw [World.size_alloc]; omega); have HA := Lib.hid (HSD.out.app (x := ⟨⟨xl, xa, xb, xv, yv⟩, A1, C1, A2, C2⟩) HVA.out hown hgrow); refine Lib.wp_append_run _ _ _ _ _ rfl _ _ rfl rfl _ _ hr ?_)
      refine hK2.out _ _ (HA.out.lo) (fun hS2 => ?_)
      refine wpAnyH_take (i := 29) (v := v') rfl (by kernel_rfl) (by kernel_rfl) (by kernel_rfl) (fun _ _ _ h => h) (Or.inl ⟨by simp [Region.wanted], fun W _ => by go_simp⟩) hS2 ?_
      simp only [List.getElem_toArray, List.getElem_cons_zero, List.getElem_cons_succ, Act.put, List.setIfInBounds_toArray, List.set_cons_zero, List.set_cons_succ]
      refine wpAnyH_done (by kernel_rfl) ?_ _
      have HT := Lib.hid HA.out
      clear HA
      go_wp2
      go_roundw
      case rel => exact ⟨i + 1, by go_num, by omega, by rw [HTK.out]; exact HT.out⟩
      case measure => simp [intOf]; omega
    · have HF := Lib.hid (show l.take i = l by rw [List.take_of_length_le]; rw [HN.out]; omega)
      go_wp2
      go_ret
      exact ⟨_, rfl, by have h := HS.out; rw [HF.out] at h; exact h⟩
end Go.Proofs.Ytellifcjamedkaa
