/- The document's hashes, roots and proofs: the contracts of its Leaf, Node, Root, Proof. -/
import Derived.Test.YtalgailclcefdaaDoorTreeRoot
namespace Go.Proofs.YtalgailclcefdaaDoor
open Go.RowKit

theorem load_key {W : World} {g : Nat} {kc : Array Value} (hs : kc.size = 72) (h : W.heap[g]? = some (.cells kc 32 (0, 0))) : (Instr.loadAt 32 (.pointer (some ⟨g, 0, none⟩))).run Tryd.prog W = .ok (.agg kc) W := by
  have hr := World.rangeAt_of_block h 0 72
  have e : (kc.extract 0 (0 + 72)).toList = kc.toList := by
    rw [show 0 + 72 = kc.size by omega, Array.extract_size]
  rw [e] at hr
  have := load_at (P := Tryd.prog) W g 0 32 kc.toList _ hr Tryd.underlying32 rfl (by rw [info33]; simp [hs])
  simpa using this
/-- The key lies in its box. -/
def KeyS (w : World) (kc : Array Value) (W : World) : Prop := W.heap[w.heap.size]? = some (.cells kc 32 (0, 0)) ∧ Below w.heap.size w W ∧ w.heap.size < W.heap.size
theorem KeyS.below {w W W' : World} {kc : Array Value} (h : KeyS w kc W) (hb : Below W.heap.size W W') : KeyS w kc W' :=
  ⟨(hb.block _ h.2.2).trans h.1, h.2.1.trans (hb.mono (Nat.le_of_lt h.2.2)), Nat.lt_of_lt_of_le h.2.2 hb.size⟩
theorem KeyS.drew {w W : World} {kc : Array Value} (h : KeyS w kc W) : KeyS w kc W.drew := ⟨h.1, h.2.1.drew, h.2.2⟩
theorem KeyS.box (w : World) (kc : Array Value) : KeyS w kc (w.alloc (.cells kc 32)) := ⟨heap_alloc_new w _, (Below.refl _ w).alloc (Nat.le_refl _) _, by simp⟩
theorem KeyS.alloc {w W : World} {kc : Array Value} (h : KeyS w kc W) (o : Obj) : KeyS w kc (W.alloc o) :=
  ⟨(Below.heap_alloc _ _ _ h.2.2).trans h.1, h.2.1.alloc (Nat.le_of_lt h.2.2) _, by simp; have := h.2.2; omega⟩
theorem KeyS.grown {w W W' : World} {kc : Array Value} {r : Option Nat} (h : KeyS w kc W) (hg : W.grownBy W' r) (hr : ∀ k, r = some k → w.heap.size < k) : KeyS w kc W' :=
  ⟨(hg.block _ h.2.2 (fun e => by have := hr _ e.symm; omega)).trans h.1, h.2.1.grown hg (Nat.le_of_lt h.2.2) (fun k hk => Nat.le_of_lt (hr k hk)), Nat.lt_of_lt_of_le h.2.2 hg.size⟩

theorem leaf16 (s : ByteArray) (n : Nat) (w : World) (h1 : n ≤ 32) (hs : s.size ≤ 90000) :
    Calls Tryd.prog 21 #[.agg keyCells, .string s, .int .i64 (n : Int)] w fun e w' => e = .returned (.string (leafS (cutH n) s)) ∧ Below w.heap.size w w' := by
  have e : (⟨#[0]⟩ ++ s : ByteArray).size = 1 + s.size := by rw [size_add]; rfl
  have HC := Lib.hid (fun W => cut22 (⟨#[0]⟩ ++ s) n W h1 (by omega))
  rw [show cutH n (⟨#[0]⟩ ++ s) = leafS (cutH n) s from rfl] at HC
  have HI := Lib.hid (show (Tryd.prog.info? 32).map (·.size) = some keyCells.size by rw [key_size]; exact info33)
  generalize leafS (cutH n) s = D at *
  generalize keyCells = kc at *
  go_enter Tryd.func21, Tryd.ntmps21
  go_upto_region 1 with (fail)
  refine at_world (Φ := KeyS w kc) (KeyS.box w kc) ?_
  rintro W hW
  have HW := Lib.hid hW
  clear hW
  go_wp2_with (first
    | (refine wpList_load_row rfl 32 (.tmp 3) rfl w.heap.size rfl 32 kc (0, 0) _ HW.out.1 Tryd.underlying32 rfl HI.out ?_)
    | (go_at_call 16; refine (HC.out _).mono ?_; rintro e w1 ⟨rfl, hb1⟩; have HB1 := Lib.hid hb1; clear hb1))
  go_ret
  exact ⟨rfl, bt2 HW.out.2.1 HB1.out⟩
theorem node24 (s t : ByteArray) (n : Nat) (w : World) (h1 : n ≤ 32) (hs : s.size ≤ 1000) (ht : t.size ≤ 1000) :
    Calls Tryd.prog 23 #[.agg keyCells, .string s, .string t, .int .i64 (n : Int)] w fun e w' => e = .returned (.string (nodeS (cutH n) s t)) ∧ Below w.heap.size w w' := by
  have e : (⟨#[1]⟩ ++ s : ByteArray).size = 1 + s.size := by rw [size_add]; rfl
  have e2 : ((⟨#[1]⟩ ++ s) ++ t : ByteArray).size = 1 + s.size + t.size := by rw [size_add, e]
  have HC := Lib.hid (fun W => cut22 ((⟨#[1]⟩ ++ s) ++ t) n W h1 (by omega))
  rw [show cutH n ((⟨#[1]⟩ ++ s) ++ t) = nodeS (cutH n) s t from rfl] at HC
  have HI := Lib.hid (show (Tryd.prog.info? 32).map (·.size) = some keyCells.size by rw [key_size]; exact info33)
  generalize nodeS (cutH n) s t = D at *
  generalize keyCells = kc at *
  go_enter Tryd.func23, Tryd.ntmps23
  go_upto_region 1 with (fail)
  refine at_world (Φ := KeyS w kc) (KeyS.box w kc) ?_
  rintro W hW
  have HW := Lib.hid hW
  clear hW
  go_wp2_with (first
    | (refine wpList_load_row rfl 32 (.tmp 4) rfl w.heap.size rfl 32 kc (0, 0) _ HW.out.1 Tryd.underlying32 rfl HI.out ?_)
    | (go_at_call 16; refine (HC.out _).mono ?_; rintro e w1 ⟨rfl, hb1⟩; have HB1 := Lib.hid hb1; clear hb1))
  go_ret
  exact ⟨rfl, bt2 HW.out.2.1 HB1.out⟩

set_option maxRecDepth 100000 in
set_option maxHeartbeats 1000000 in
theorem root11 (n : Nat) (h1 : n ≤ 32) : ∀ (m : Nat) (l : List ByteArray) (a : Option Addr) (cap : Nat) (w : World), l.length = m → m ≤ 4096 → (∀ t ∈ l, t.size ≤ 90000) → StrsAt w a l → m ≤ cap →
    Calls Tryd.prog 10 #[.agg keyCells, .slice a m cap, .int .i64 (n : Int)] w fun e w' => e = .returned (.string (rootS (cutH n) l)) ∧ Below w.heap.size w w' := by
  intro m
  induction m using Nat.strongRecOn with
  | ind m ih =>
  intro l a cap w hl hm hz hr hcap
  by_cases e0 : m = 0
  · subst e0
    rw [rootS_nil _ hl]
    have HC := Lib.hid (fun W => cut22 ⟨#[]⟩ n W h1 (by decide))
    have HI := Lib.hid (show (Tryd.prog.info? 32).map (·.size) = some keyCells.size by rw [key_size]; exact info33)
    generalize cutH n ⟨#[]⟩ = D at *
    clear hr ih
    generalize keyCells = kc at *
    go_enter Tryd.func10, Tryd.ntmps10
    go_upto_region 1 with (fail)
    refine at_world (Φ := KeyS w kc) (KeyS.box w kc) ?_
    rintro W hW
    have HW := Lib.hid hW
    clear hW
    go_wp2_with (first
      | (refine wpList_load_row rfl 32 (.tmp 3) rfl w.heap.size rfl 32 kc (0, 0) _ HW.out.1 Tryd.underlying32 rfl HI.out ?_)
      | (go_at_call 16; refine (HC.out _).mono ?_; rintro e w1 ⟨rfl, hb1⟩; have HB1 := Lib.hid hb1; clear hb1))
    go_ret
    exact ⟨rfl, bt2 HW.out.2.1 HB1.out⟩
  · by_cases e1 : m = 1
    · subst e1
      rw [rootS_one _ hl]
      obtain ⟨t, ht⟩ : ∃ t, l = [t] := List.length_eq_one_iff.1 hl
      subst ht
      have hts := hz t (by simp)
      obtain ⟨b, off, rfl, hbw, hcell⟩ := hr.some (by simp)
      have c1 := hcell 0 t rfl
      rw [Nat.add_zero] at c1
      have HC1 := Lib.hid c1
      have HBW := Lib.hid hbw
      have HC := Lib.hid (fun W => leaf16 t n W h1 hts)
      have HKS := Lib.hid key_size
      rw [show [t].getD 0 ⟨#[]⟩ = t from rfl]
      generalize leafS (cutH n) t = D at *
      generalize keyCells = kc at *
      clear hr ih hcell c1 hbw
      go_enter Tryd.func10, Tryd.ntmps10
      go_upto_region 1 with (fail)
      refine at_world (Φ := KeyS w kc) (KeyS.box w kc) ?_
      rintro W hW
      have HW := Lib.hid hW
      clear hW
      go_upto_region 4 with (fail)
      refine wp_region_held_drew (S := KeyS w kc) (by kernel_rfl) (HW.out.drew) (fun hS => ?_)
      refine wpAnyH_take (i := 0) (v := .agg kc) rfl (by kernel_rfl) (by kernel_rfl) (by kernel_rfl) (fun _ _ _ h => h) (yieldsIf_load rfl 32 (.tmp 3) rfl _ _ rfl (fun W hW => load_key HKS.out hW.1)) hS ?_
      simp only [List.getElem_toArray, List.getElem_cons_zero, Act.put, List.setIfInBounds_toArray, List.set_cons_zero, List.set_cons_succ]
      refine wpAnyH_take (i := 1) (v := .slice (some ⟨b, off, none⟩) 1 cap) rfl (by kernel_rfl) (by kernel_rfl) (by kernel_rfl) (fun _ _ _ h => h) (Or.inl ⟨by simp [Region.wanted], fun W _ => by go_simp⟩) hS ?_
      simp only [List.getElem_toArray, List.getElem_cons_zero, List.getElem_cons_succ, Act.put, List.setIfInBounds_toArray, List.set_cons_zero, List.set_cons_succ]
      refine wpAnyH_take (i := 2) (v := .pointer (some ⟨b, off, none⟩)) rfl (by kernel_rfl) (by kernel_rfl) (by kernel_rfl) (fun _ _ _ h => h) (Or.inl ⟨by simp [Region.wanted], fun W _ => by go_simp⟩) hS ?_
      simp only [List.getElem_toArray, List.getElem_cons_zero, List.getElem_cons_succ, Act.put, List.setIfInBounds_toArray, List.set_cons_zero, List.set_cons_succ]
      refine wpAnyH_take (i := 3) (v := .string t) rfl (by kernel_rfl) (by kernel_rfl) (by kernel_rfl) (fun _ _ _ h => h) (Or.inl ⟨by simp [Region.wanted], fun W hW => by have h1 := (hW.2.1.cell (p := ⟨b, off, none⟩) HBW.out).trans HC1.out; go_simp⟩) hS ?_
      simp only [List.getElem_toArray, List.getElem_cons_zero, List.getElem_cons_succ, Act.put, List.setIfInBounds_toArray, List.set_cons_zero, List.set_cons_succ]
      refine wpAnyH_take (i := 4) (v := .int .i64 (n : Int)) rfl (by kernel_rfl) (by kernel_rfl) (by kernel_rfl) (fun _ _ _ h => h) (Or.inl ⟨by simp [Region.wanted], fun W _ => by go_simp⟩) hS ?_
      simp only [List.getElem_toArray, List.getElem_cons_zero, List.getElem_cons_succ, Act.put, List.setIfInBounds_toArray, List.set_cons_zero, List.set_cons_succ]
      refine wpAnyH_ready (rs := [5]) (by kernel_rfl) (by simp) ?_
      refine AllReadyH.cons rfl (fun K1 hK1 => ?_) AllReadyH.nil
      refine wanted_go rfl ?_
      simp only [List.getElem_toArray, List.getElem_cons_zero, List.getElem_cons_succ]
      go_wp2_with (go_at_call 21; refine (HC.out _).mono ?_; rintro e w1 ⟨rfl, hb1⟩; have HB1 := Lib.hid hb1; clear hb1)
      refine hK1.out _ _ (hS.below HB1.out) (fun hS1 => ?_)
      refine wpAnyH_ready (rs := [6]) (by kernel_rfl) (by simp) ?_
      refine AllReadyH.cons rfl (fun K2 hK2 => ?_) AllReadyH.nil
      refine wanted_go rfl ?_
      simp only [List.getElem_toArray, List.getElem_cons_zero, List.getElem_cons_succ]
      go_wp2
      refine hK2.out _ _ hS1 (fun _ => ?_)
      refine wpAnyH_done (by kernel_rfl) ?_ _
      go_wp2
      go_ret
      exact ⟨rfl, hS1.2.1⟩
    · have h2 : 2 ≤ m := by omega
      rw [rootS_two _ (by omega), hl]
      obtain ⟨b, off, rfl, hbw, hcell⟩ := hr.some (by omega)
      clear hcell
      have p1 := spl_pos h2
      have p2 := spl_lt h2
      have HS := Lib.hid (fun W => splitR m W (by omega))
      have HI1 := Lib.hid (fun (W : World) (hb : Below w.heap.size w W) => ih (spl m) p2 (l.take (spl m)) _ cap W (by simp; omega) (by omega) (mem_take' hz) ((hr.take (spl m)).below hb) (by omega))
      have HI2 := Lib.hid (fun (W : World) (hb : Below w.heap.size w W) => ih (m - spl m) (by omega) (l.drop (spl m)) _ (cap - spl m) W (by simp; omega) (by omega) (mem_drop' hz) ((hr.drop (spl m)).below hb) (by omega))
      have s1 := rootS_size (cutH n) n (cutH_size n h1) (l.take (spl m))
      have s2 := rootS_size (cutH n) n (cutH_size n h1) (l.drop (spl m))
      generalize rootS (cutH n) (l.take (spl m)) = R1 at *
      generalize rootS (cutH n) (l.drop (spl m)) = R2 at *
      have HN := Lib.hid (fun (W : World) => node24 R1 R2 n W h1 (by omega) (by omega))
      generalize nodeS (cutH n) R1 R2 = D at *
      generalize spl m = s at *
      have HKS := Lib.hid key_size
      generalize keyCells = kc at *
      have b0 : ((m : Int) == 0) = false := by simpa using e0
      have b1 : ((m : Int) == 1) = false := by simp; omega
      have q1 : ¬ cap = s := by omega
      have q2 : (s : Int) ≤ (cap : Int) := by omega
      have q3 : (s : Int) ≤ (m : Int) := by omega
      have q4 : (m : Int) ≤ (cap : Int) := by omega
      clear hr ih hz hl s1 s2
      go_enter Tryd.func10, Tryd.ntmps10
      go_upto_region 1 with (fail)
      refine at_world (Φ := KeyS w kc) (KeyS.box w kc) ?_
      rintro W hW
      have HW := Lib.hid hW
      clear hW
      go_upto_region 6 with (go_at_call 22; refine (HS.out _).mono ?_; rintro e w1 ⟨rfl, rfl⟩)
      refine wp_region_held_drew (S := KeyS w kc) (by kernel_rfl) (HW.out.drew) (fun hS => ?_)
      refine wpAnyH_take (i := 0) (v := .agg kc) rfl (by kernel_rfl) (by kernel_rfl) (by kernel_rfl) (fun _ _ _ h => h) (yieldsIf_load rfl 32 (.tmp 3) rfl _ _ rfl (fun W hW => load_key HKS.out hW.1)) hS ?_
      simp only [List.getElem_toArray, List.getElem_cons_zero, Act.put, List.setIfInBounds_toArray, List.set_cons_zero, List.set_cons_succ]
      refine wpAnyH_take (i := 1) (v := .agg kc) rfl (by kernel_rfl) (by kernel_rfl) (by kernel_rfl) (fun _ _ _ h => h) (yieldsIf_load rfl 32 (.tmp 3) rfl _ _ rfl (fun W hW => load_key HKS.out hW.1)) hS ?_
      simp only [List.getElem_toArray, List.getElem_cons_zero, List.getElem_cons_succ, Act.put, List.setIfInBounds_toArray, List.set_cons_zero, List.set_cons_succ]
      refine wpAnyH_take (i := 2) (v := .slice (some ⟨b, off, none⟩) m cap) rfl (by kernel_rfl) (by kernel_rfl) (by kernel_rfl) (fun _ _ _ h => h) (Or.inl ⟨by simp [Region.wanted], fun W _ => by go_simp⟩) hS ?_
      simp only [List.getElem_toArray, List.getElem_cons_zero, List.getElem_cons_succ, Act.put, List.setIfInBounds_toArray, List.set_cons_zero, List.set_cons_succ]
      refine wpAnyH_take (i := 3) (v := .int .i64 (s : Int)) rfl (by kernel_rfl) (by kernel_rfl) (by kernel_rfl) (fun _ _ _ h => h) (Or.inl ⟨by simp [Region.wanted], fun W _ => by go_simp⟩) hS ?_
      simp only [List.getElem_toArray, List.getElem_cons_zero, List.getElem_cons_succ, Act.put, List.setIfInBounds_toArray, List.set_cons_zero, List.set_cons_succ]
      refine wpAnyH_take (i := 4) (v := .slice (some ⟨b, off, none⟩) s cap) rfl (by kernel_rfl) (by kernel_rfl) (by kernel_rfl) (fun _ _ _ h => h) (Or.inl ⟨by simp [Region.wanted], fun W _ => by go_simp⟩) hS ?_
      simp only [List.getElem_toArray, List.getElem_cons_zero, List.getElem_cons_succ, Act.put, List.setIfInBounds_toArray, List.set_cons_zero, List.set_cons_succ]
      refine wpAnyH_take (i := 5) (v := .int .i64 (n : Int)) rfl (by kernel_rfl) (by kernel_rfl) (by kernel_rfl) (fun _ _ _ h => h) (Or.inl ⟨by simp [Region.wanted], fun W _ => by go_simp⟩) hS ?_
      simp only [List.getElem_toArray, List.getElem_cons_zero, List.getElem_cons_succ, Act.put, List.setIfInBounds_toArray, List.set_cons_zero, List.set_cons_succ]
      refine wpAnyH_take (i := 7) (v := .agg kc) rfl (by kernel_rfl) (by kernel_rfl) (by kernel_rfl) (fun _ _ _ h => h) (yieldsIf_load rfl 32 (.tmp 3) rfl _ _ rfl (fun W hW => load_key HKS.out hW.1)) hS ?_
      simp only [List.getElem_toArray, List.getElem_cons_zero, List.getElem_cons_succ, Act.put, List.setIfInBounds_toArray, List.set_cons_zero, List.set_cons_succ]
      refine wpAnyH_take (i := 8) (v := .slice (some ⟨b, off, none⟩) m cap) rfl (by kernel_rfl) (by kernel_rfl) (by kernel_rfl) (fun _ _ _ h => h) (Or.inl ⟨by simp [Region.wanted], fun W _ => by go_simp⟩) hS ?_
      simp only [List.getElem_toArray, List.getElem_cons_zero, List.getElem_cons_succ, Act.put, List.setIfInBounds_toArray, List.set_cons_zero, List.set_cons_succ]
      refine wpAnyH_take (i := 9) (v := .int .i64 (s : Int)) rfl (by kernel_rfl) (by kernel_rfl) (by kernel_rfl) (fun _ _ _ h => h) (Or.inl ⟨by simp [Region.wanted], fun W _ => by go_simp⟩) hS ?_
      simp only [List.getElem_toArray, List.getElem_cons_zero, List.getElem_cons_succ, Act.put, List.setIfInBounds_toArray, List.set_cons_zero, List.set_cons_succ]
      refine wpAnyH_take (i := 10) (v := .slice (some ⟨b, off + s, none⟩) (m - s) (cap - s)) rfl (by kernel_rfl) (by kernel_rfl) (by kernel_rfl) (fun _ _ _ h => h) (Or.inl ⟨by simp [Region.wanted], fun W _ => by go_simp⟩) hS ?_
      simp only [List.getElem_toArray, List.getElem_cons_zero, List.getElem_cons_succ, Act.put, List.setIfInBounds_toArray, List.set_cons_zero, List.set_cons_succ]
      refine wpAnyH_take (i := 11) (v := .int .i64 (n : Int)) rfl (by kernel_rfl) (by kernel_rfl) (by kernel_rfl) (fun _ _ _ h => h) (Or.inl ⟨by simp [Region.wanted], fun W _ => by go_simp⟩) hS ?_
      simp only [List.getElem_toArray, List.getElem_cons_zero, List.getElem_cons_succ, Act.put, List.setIfInBounds_toArray, List.set_cons_zero, List.set_cons_succ]
      refine wpAnyH_take (i := 13) (v := .int .i64 (n : Int)) rfl (by kernel_rfl) (by kernel_rfl) (by kernel_rfl) (fun _ _ _ h => h) (Or.inl ⟨by simp [Region.wanted], fun W _ => by go_simp⟩) hS ?_
      simp only [List.getElem_toArray, List.getElem_cons_zero, List.getElem_cons_succ, Act.put, List.setIfInBounds_toArray, List.set_cons_zero, List.set_cons_succ]
      refine wpAnyH_ready (rs := [6]) (by kernel_rfl) (by simp) ?_
      refine AllReadyH.cons rfl (fun K1 hK1 => ?_) AllReadyH.nil
      refine wanted_go rfl ?_
      simp only [List.getElem_toArray, List.getElem_cons_zero, List.getElem_cons_succ]
      go_wp2_with (go_at_call 10; refine (HI1.out _ hS.2.1).mono ?_; rintro e w1 ⟨rfl, hb1⟩; have HB1 := Lib.hid hb1; clear hb1)
      refine hK1.out _ _ (hS.below HB1.out) (fun hS1 => ?_)
      refine wpAnyH_ready (rs := [12]) (by kernel_rfl) (by simp) ?_
      refine AllReadyH.cons rfl (fun K2 hK2 => ?_) AllReadyH.nil
      refine wanted_go rfl ?_
      simp only [List.getElem_toArray, List.getElem_cons_zero, List.getElem_cons_succ]
      go_wp2_with (go_at_call 10; refine (HI2.out _ hS1.2.1).mono ?_; rintro e w2 ⟨rfl, hb2⟩; have HB2 := Lib.hid hb2; clear hb2)
      refine hK2.out _ _ (hS1.below HB2.out) (fun hS2 => ?_)
      refine wpAnyH_ready (rs := [14]) (by kernel_rfl) (by simp) ?_
      refine AllReadyH.cons rfl (fun K3 hK3 => ?_) AllReadyH.nil
      refine wanted_go rfl ?_
      simp only [List.getElem_toArray, List.getElem_cons_zero, List.getElem_cons_succ]
      go_wp2_with (go_at_call 23; refine (HN.out _).mono ?_; rintro e w3 ⟨rfl, hb3⟩; have HB3 := Lib.hid hb3; clear hb3)
      refine hK3.out _ _ (hS2.below HB3.out) (fun hS3 => ?_)
      refine wpAnyH_ready (rs := [15]) (by kernel_rfl) (by simp) ?_
      refine AllReadyH.cons rfl (fun K4 hK4 => ?_) AllReadyH.nil
      refine wanted_go rfl ?_
      simp only [List.getElem_toArray, List.getElem_cons_zero, List.getElem_cons_succ]
      go_wp2
      refine hK4.out _ _ hS3 (fun _ => ?_)
      refine wpAnyH_done (by kernel_rfl) ?_ _
      go_wp2
      go_ret
      exact ⟨rfl, hS3.2.1⟩
end Go.Proofs.YtalgailclcefdaaDoor
