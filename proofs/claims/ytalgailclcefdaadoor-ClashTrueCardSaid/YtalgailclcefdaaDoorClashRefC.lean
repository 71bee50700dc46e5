/- Chains, and the clash of two, by the document: the contracts of its Last, Hash, Chain. -/
import Derived.Test.YtalgailclcefdaaDoorClashRef
import Derived.Test.YtalgailclcefdaaDoorClashDownC
namespace Go.Proofs.YtalgailclcefdaaDoor
open Go.RowKit

/-- What is hashed last, given the hash of the chain without the last text. -/
theorem last27_of (n : Nat) (h1 : n ≤ 32) (l : List ByteArray) (b off i cap : Nat) (w : World) (hi : i < l.length) (hl : l.length ≤ 4096) (hz : ∀ t ∈ l, t.size ≤ 60000) (hr : StrsAt w (some ⟨b, off, none⟩) l) (hcap : i + 1 ≤ cap)
    (hH : ∀ W, Below w.heap.size w W → Calls Tryd.prog 14 #[.agg keyCells, .slice (some ⟨b, off, none⟩) i cap, .int .i64 (n : Int)] W fun e w' => e = .returned (.string (chainS (cutH n) (l.take i))) ∧ Below W.heap.size W w') :
    Calls Tryd.prog 27 #[.agg keyCells, .slice (some ⟨b, off, none⟩) (i + 1) cap, .int .i64 (n : Int)] w fun e w' => e = .returned (.string (hashedC (cutH n) l (i + 1))) ∧ Below w.heap.size w w' := by
  rw [hashedC_pos _ _ (by omega), Nat.add_sub_cancel]
  obtain ⟨b', off', e, hbw, hcell⟩ := hr.some (by omega)
  simp only [Option.some.injEq, Addr.mk.injEq, and_true] at e
  obtain ⟨rfl, rfl⟩ := e
  obtain ⟨t, ht⟩ : ∃ t, l[i]? = some t := ⟨_, List.getElem?_eq_getElem hi⟩
  have hts := hz t (List.mem_of_getElem? ht)
  rw [show l.getD i ⟨#[]⟩ = t by rw [List.getD_eq_getElem?_getD, ht]; rfl]
  have hcs := chain_size (cutH n) n (cutH_size n h1) (l.take i)
  have HT := Lib.hid (hcell i t ht)
  have HBW := Lib.hid hbw
  have HH := Lib.hid hH
  generalize chainS (cutH n) (l.take i) = C at *
  have HR1 := Lib.hid (fun W => row42 C W (by omega))
  have HR2 := Lib.hid (fun W => row42 t W (by omega))
  have z1 := rowBy_size C
  have z2 := rowBy_size t
  have HD := Lib.hid (show rowBy C ++ rowBy t = lastS C t from rfl)
  have z3 : (rowBy C ++ rowBy t).size = (rowBy C).size + (rowBy t).size := size_add _ _
  generalize lastS C t = D at *
  generalize rowBy C = X at *
  generalize rowBy t = Y at *
  have HKS := Lib.hid key_size
  generalize keyCells = kc at *
  have iadd : ((i + 1 : Nat) : Int) = (i : Int) + 1 := by omega
  have qq1 : ¬ cap < i := by omega
  have qq2 : ¬ (i : Int) + 1 ≤ (i : Int) := by omega
  clear hr hH hcell ht hz
  go_enter Tryd.func27, Tryd.ntmps27
  go_upto_region 1 with (fail)
  refine at_world (Φ := KeyS w kc) (KeyS.box w kc) ?_
  rintro W hW
  have HW := Lib.hid hW
  clear hW
  go_upto_region 2 with (fail)
  refine wp_region_held_drew (S := KeyS w kc) (by kernel_rfl) (HW.out.drew) (fun hS => ?_)
  refine wpAnyH_take (i := 0) (v := .agg kc) rfl (by kernel_rfl) (by kernel_rfl) (by kernel_rfl) (fun _ _ _ h => h) (yieldsIf_load rfl 32 (.tmp 3) rfl _ _ rfl (fun W hW => load_key HKS.out hW.1)) hS ?_
  simp only [List.getElem_toArray, List.getElem_cons_zero, Act.put, List.setIfInBounds_toArray, List.set_cons_zero, List.set_cons_succ]
  refine wpAnyH_take (i := 1) (v := .slice (some ⟨b, off, none⟩) (i + 1) cap) rfl (by kernel_rfl) (by kernel_rfl) (by kernel_rfl) (fun _ _ _ h => h) (Or.inl ⟨by simp [Region.wanted], fun W _ => by go_simp⟩) hS ?_
  simp only [List.getElem_toArray, List.getElem_cons_zero, List.getElem_cons_succ, Act.put, List.setIfInBounds_toArray, List.set_cons_zero, List.set_cons_succ]
  refine wpAnyH_take (i := 2) (v := .int .i64 (i : Int)) rfl (by kernel_rfl) (by kernel_rfl) (by kernel_rfl) (fun _ _ _ h => h) (Or.inl ⟨by simp [Region.wanted], fun W _ => by go_simp⟩) hS ?_
  simp only [List.getElem_toArray, List.getElem_cons_zero, List.getElem_cons_succ, Act.put, List.setIfInBounds_toArray, List.set_cons_zero, List.set_cons_succ]
  refine wpAnyH_take (i := 3) (v := .slice (some ⟨b, off, none⟩) i cap) rfl (by kernel_rfl) (by kernel_rfl) (by kernel_rfl) (fun _ _ _ h => h) (Or.inl ⟨by simp [Region.wanted], fun W _ => by go_simp⟩) hS ?_
  simp only [List.getElem_toArray, List.getElem_cons_zero, List.getElem_cons_succ, Act.put, List.setIfInBounds_toArray, List.set_cons_zero, List.set_cons_succ]
  refine wpAnyH_take (i := 4) (v := .int .i64 (n : Int)) rfl (by kernel_rfl) (by kernel_rfl) (by kernel_rfl) (fun _ _ _ h => h) (Or.inl ⟨by simp [Region.wanted], fun W _ => by go_simp⟩) hS ?_
  simp only [List.getElem_toArray, List.getElem_cons_zero, List.getElem_cons_succ, Act.put, List.setIfInBounds_toArray, List.set_cons_zero, List.set_cons_succ]
  refine wpAnyH_take (i := 7) (v := .slice (some ⟨b, off, none⟩) (i + 1) cap) rfl (by kernel_rfl) (by kernel_rfl) (by kernel_rfl) (fun _ _ _ h => h) (Or.inl ⟨by simp [Region.wanted], fun W _ => by go_simp⟩) hS ?_
  simp only [List.getElem_toArray, List.getElem_cons_zero, List.getElem_cons_succ, Act.put, List.setIfInBounds_toArray, List.set_cons_zero, List.set_cons_succ]
  refine wpAnyH_take (i := 8) (v := .int .i64 (i : Int)) rfl (by kernel_rfl) (by kernel_rfl) (by kernel_rfl) (fun _ _ _ h => h) (Or.inl ⟨by simp [Region.wanted], fun W _ => by go_simp⟩) hS ?_
  simp only [List.getElem_toArray, List.getElem_cons_zero, List.getElem_cons_succ, Act.put, List.setIfInBounds_toArray, List.set_cons_zero, List.set_cons_succ]
  refine wpAnyH_take (i := 9) (v := .pointer (some ⟨b, off + i, none⟩)) rfl (by kernel_rfl) (by kernel_rfl) (by kernel_rfl) (fun _ _ _ h => h) (Or.inl ⟨by simp [Region.wanted], fun W _ => by go_simp⟩) hS ?_
  simp only [List.getElem_toArray, List.getElem_cons_zero, List.getElem_cons_succ, Act.put, List.setIfInBounds_toArray, List.set_cons_zero, List.set_cons_succ]
  refine wpAnyH_take (i := 10) (v := .string t) rfl (by kernel_rfl) (by kernel_rfl) (by kernel_rfl) (fun _ _ _ h => h) (Or.inl ⟨by simp [Region.wanted], fun W hW => by have h1 := (hW.2.1.cell (p := ⟨b, off + i, none⟩) HBW.out).trans HT.out; go_simp⟩) hS ?_
  simp only [List.getElem_toArray, List.getElem_cons_zero, List.getElem_cons_succ, Act.put, List.setIfInBounds_toArray, List.set_cons_zero, List.set_cons_succ]
  refine wpAnyH_ready (rs := [5]) (by kernel_rfl) (by simp) ?_
  refine AllReadyH.cons rfl (fun K1 hK1 => ?_) AllReadyH.nil
  refine wanted_go rfl ?_
  simp only [List.getElem_toArray, List.getElem_cons_zero, List.getElem_cons_succ]
  go_wp2_with (go_at_call 14; refine (HH.out _ hS.2.1).mono ?_; rintro e w1 ⟨rfl, hb1⟩; have HB1 := Lib.hid hb1; clear hb1)
  refine hK1.out _ _ (hS.below HB1.out) (fun hS1 => ?_)
  refine wpAnyH_ready (rs := [6]) (by kernel_rfl) (by simp) ?_
  refine AllReadyH.cons rfl (fun K2 hK2 => ?_) AllReadyH.nil
  refine wanted_go rfl ?_
  simp only [List.getElem_toArray, List.getElem_cons_zero, List.getElem_cons_succ]
  go_wp2_with (go_at_call 42; refine (HR1.out _).mono ?_; rintro e w2 ⟨rfl, hb2⟩; have HB2 := Lib.hid hb2; clear hb2)
  refine hK2.out _ _ (hS1.below HB2.out) (fun hS2 => ?_)
  refine wpAnyH_ready (rs := [11]) (by kernel_rfl) (by simp) ?_
  refine AllReadyH.cons rfl (fun K3 hK3 => ?_) AllReadyH.nil
  refine wanted_go rfl ?_
  simp only [List.getElem_toArray, List.getElem_cons_zero, List.getElem_cons_succ]
  go_wp2_with (go_at_call 42; refine (HR2.out _).mono ?_; rintro e w3 ⟨rfl, hb3⟩; have HB3 := Lib.hid hb3; clear hb3)
  refine hK3.out _ _ (hS2.below HB3.out) (fun hS3 => ?_)
  refine wpAnyH_take (i := 12) (v := .string (X ++ Y)) rfl (by kernel_rfl) (by kernel_rfl) (by kernel_rfl) (fun _ _ _ h => h) (Or.inl ⟨by simp [Region.wanted], fun W _ => by go_simp; omega⟩) hS3 ?_
  simp only [List.getElem_toArray, List.getElem_cons_zero, List.getElem_cons_succ, Act.put, List.setIfInBounds_toArray, List.set_cons_zero, List.set_cons_succ]
  refine wpAnyH_take (i := 13) (v := .string (X ++ Y)) rfl (by kernel_rfl) (by kernel_rfl) (by kernel_rfl) (fun _ _ _ h => h) (Or.inl ⟨by simp [Region.wanted], fun W _ => by go_simp⟩) hS3 ?_
  simp only [List.getElem_toArray, List.getElem_cons_zero, List.getElem_cons_succ, Act.put, List.setIfInBounds_toArray, List.set_cons_zero, List.set_cons_succ]
  refine wpAnyH_done (by kernel_rfl) ?_ _
  go_wp2
  go_ret
  exact ⟨ret_str HD.out, hS3.2.1⟩

theorem strs_any {W : World} {b off : Nat} {l : List ByteArray} (h : StrsAt W (some ⟨b, off, none⟩) l) : StrsAt W (some ⟨b, off, none⟩) l := h
/-- The document's hash of a chain's first j texts. -/
theorem hash14 (n : Nat) (h1 : n ≤ 32) (l : List ByteArray) (hl : l.length ≤ 4096) (hz : ∀ t ∈ l, t.size ≤ 60000) : ∀ (j : Nat) (a : Option Addr) (cap : Nat) (w : World), j ≤ l.length → StrsAt w a l → j ≤ cap →
    Calls Tryd.prog 14 #[.agg keyCells, .slice a j cap, .int .i64 (n : Int)] w fun e w' => e = .returned (.string (chainS (cutH n) (l.take j))) ∧ Below w.heap.size w w' := by
  intro j
  induction j with
  | zero =>
    intro a cap w _ hr _
    rw [List.take_zero, chain_nil]
    have HC := Lib.hid (fun W => cut22 ⟨#[]⟩ n W h1 (by decide))
    have HI := Lib.hid (show (Tryd.prog.info? 32).map (·.size) = some keyCells.size by rw [key_size]; exact info33)
    generalize cutH n ⟨#[]⟩ = D at *
    clear hr
    generalize keyCells = kc at *
    go_enter Tryd.func14, Tryd.ntmps14
    go_upto_region 1 with (fail)
    refine at_world (Φ := KeyS w kc) (KeyS.box w kc) ?_
    rintro W hW
    have HW := Lib.hid hW
    clear hW
    go_wp2_with (first
      | (refine wpList_load_row rfl 32 (.tmp 3) rfl w.heap.size rfl 32 kc (0, 0) _ HW.out.1 Tryd.underlying32 rfl HI.out ?_)
      | (go_at_call 16; refine (HC.out _).mono ?_; rintro e w1 ⟨rfl, hb1⟩; have HB1 := Lib.hid hb1; clear hb1))
    go_ret
    exact ⟨rfl, bt2 HW.out.2.1 HB1.out⟩
  | succ i ih =>
    intro a cap w hj hr hcap
    obtain ⟨b, off, rfl, _, _⟩ := hr.some (by omega)
    have HL := Lib.hid (fun (W : World) (hb : Below w.heap.size w W) => last27_of n h1 l b off i cap W (by omega) hl hz (hr.below hb) hcap (fun W2 hb2 => ih _ cap W2 (by omega) ((hr.below hb).below hb2) (by omega)))
    have hzC : (hashedC (cutH n) l (i + 1)).size ≤ 61000 := by
      rw [hashedC_pos _ _ (by omega), Nat.add_sub_cancel]
      have := lastS_size (chainS (cutH n) (l.take i)) (l.getD i ⟨#[]⟩)
      rw [chain_size (cutH n) n (cutH_size n h1)] at this
      have g : (l.getD i ⟨#[]⟩).size ≤ 60000 := by rw [List.getD_eq_getElem?_getD, List.getElem?_eq_getElem (by omega)]; exact hz _ (List.getElem_mem _)
      omega
    rw [chain_hashed (cutH n) l (i + 1) hj]
    generalize hashedC (cutH n) l (i + 1) = X at *
    have HC := Lib.hid (fun W => cut22 X n W h1 (by omega))
    generalize cutH n X = D at *
    have HKS := Lib.hid key_size
    generalize keyCells = kc at *
    have iadd : ((i + 1 : Nat) : Int) = (i : Int) + 1 := by omega
    have b0 : (((i + 1 : Nat) : Int) == 0) = false := by simp; omega
    clear hr ih hz
    go_enter Tryd.func14, Tryd.ntmps14
    go_upto_region 1 with (fail)
    refine at_world (Φ := KeyS w kc) (KeyS.box w kc) ?_
    rintro W hW
    have HW := Lib.hid hW
    clear hW
    go_upto_region 3 with (fail)
    refine wp_region_held_drew (S := KeyS w kc) (by kernel_rfl) (HW.out.drew) (fun hS => ?_)
    refine wpAnyH_take (i := 0) (v := .agg kc) rfl (by kernel_rfl) (by kernel_rfl) (by kernel_rfl) (fun _ _ _ h => h) (yieldsIf_load rfl 32 (.tmp 3) rfl _ _ rfl (fun W hW => load_key HKS.out hW.1)) hS ?_
    simp only [List.getElem_toArray, List.getElem_cons_zero, Act.put, List.setIfInBounds_toArray, List.set_cons_zero, List.set_cons_succ]
    refine wpAnyH_take (i := 1) (v := .agg kc) rfl (by kernel_rfl) (by kernel_rfl) (by kernel_rfl) (fun _ _ _ h => h) (yieldsIf_load rfl 32 (.tmp 3) rfl _ _ rfl (fun W hW => load_key HKS.out hW.1)) hS ?_
    simp only [List.getElem_toArray, List.getElem_cons_zero, List.getElem_cons_succ, Act.put, List.setIfInBounds_toArray, List.set_cons_zero, List.set_cons_succ]
    refine wpAnyH_take (i := 2) (v := .slice (some ⟨b, off, none⟩) (i + 1) cap) rfl (by kernel_rfl) (by kernel_rfl) (by kernel_rfl) (fun _ _ _ h => h) (Or.inl ⟨by simp [Region.wanted], fun W _ => by go_simp⟩) hS ?_
    simp only [List.getElem_toArray, List.getElem_cons_zero, List.getElem_cons_succ, Act.put, List.setIfInBounds_toArray, List.set_cons_zero, List.set_cons_succ]
    refine wpAnyH_take (i := 3) (v := .int .i64 (n : Int)) rfl (by kernel_rfl) (by kernel_rfl) (by kernel_rfl) (fun _ _ _ h => h) (Or.inl ⟨by simp [Region.wanted], fun W _ => by go_simp⟩) hS ?_
    simp only [List.getElem_toArray, List.getElem_cons_zero, List.getElem_cons_succ, Act.put, List.setIfInBounds_toArray, List.set_cons_zero, List.set_cons_succ]
    refine wpAnyH_take (i := 5) (v := .int .i64 (n : Int)) rfl (by kernel_rfl) (by kernel_rfl) (by kernel_rfl) (fun _ _ _ h => h) (Or.inl ⟨by simp [Region.wanted], fun W _ => by go_simp⟩) hS ?_
    simp only [List.getElem_toArray, List.getElem_cons_zero, List.getElem_cons_succ, Act.put, List.setIfInBounds_toArray, List.set_cons_zero, List.set_cons_succ]
    refine wpAnyH_ready (rs := [4]) (by kernel_rfl) (by simp) ?_
    refine AllReadyH.cons rfl (fun K1 hK1 => ?_) AllReadyH.nil
    refine wanted_go rfl ?_
    simp only [List.getElem_toArray, List.getElem_cons_zero, List.getElem_cons_succ]
    go_wp2_with (go_at_call 27; refine (HL.out _ hS.2.1).mono ?_; rintro e w1 ⟨rfl, hb1⟩; have HB1 := Lib.hid hb1; clear hb1)
    refine hK1.out _ _ (hS.below HB1.out) (fun hS1 => ?_)
    refine wpAnyH_ready (rs := [6]) (by kernel_rfl) (by simp) ?_
    refine AllReadyH.cons rfl (fun K2 hK2 => ?_) AllReadyH.nil
    refine wanted_go rfl ?_
    simp only [List.getElem_toArray, List.getElem_cons_zero, List.getElem_cons_succ]
    go_wp2_with (go_at_call 16; refine (HC.out _).mono ?_; rintro e w2 ⟨rfl, hb2⟩; have HB2 := Lib.hid hb2; clear hb2)
    refine hK2.out _ _ (hS1.below HB2.out) (fun hS2 => ?_)
    refine wpAnyH_take (i := 7) (v := .string D) rfl (by kernel_rfl) (by kernel_rfl) (by kernel_rfl) (fun _ _ _ h => h) (Or.inl ⟨by simp [Region.wanted], fun W _ => by go_simp⟩) hS2 ?_
    simp only [List.getElem_toArray, List.getElem_cons_zero, List.getElem_cons_succ, Act.put, List.setIfInBounds_toArray, List.set_cons_zero, List.set_cons_succ]
    refine wpAnyH_done (by kernel_rfl) ?_ _
    go_wp2
    go_ret
    exact ⟨rfl, hS2.2.1⟩
theorem last27 (n : Nat) (h1 : n ≤ 32) (l : List ByteArray) (hl : l.length ≤ 4096) (hz : ∀ t ∈ l, t.size ≤ 60000) (i b off cap : Nat) (w : World) (hi : i < l.length) (hr : StrsAt w (some ⟨b, off, none⟩) l) (hcap : i + 1 ≤ cap) :
    Calls Tryd.prog 27 #[.agg keyCells, .slice (some ⟨b, off, none⟩) (i + 1) cap, .int .i64 (n : Int)] w fun e w' => e = .returned (.string (hashedC (cutH n) l (i + 1))) ∧ Below w.heap.size w w' :=
  last27_of n h1 l b off i cap w hi hl hz hr hcap (fun W hb => hash14 n h1 l hl hz i _ cap W (by omega) (hr.below hb) (by omega))

set_option maxRecDepth 100000 in
set_option maxHeartbeats 1000000 in
theorem chain15 (n : Nat) (h1 : n ≤ 32) (la lb : List ByteArray) (hll : la.length = lb.length) (hm : la.length ≤ 4096) (hza : ∀ t ∈ la, t.size ≤ 60000) (hzb : ∀ t ∈ lb, t.size ≤ 60000) : ∀ (j : Nat) (a a2 : Option Addr) (ca cb : Nat) (w : World),
    StrsAt w a la → StrsAt w a2 lb → j ≤ la.length → j ≤ ca → j ≤ cb → la.take j ≠ lb.take j →
    Calls Tryd.prog 15 #[.agg keyCells, .slice a j ca, .slice a2 j cb, .int .i64 (n : Int)] w fun e w' => e = .returned (.tuple #[.string (chainF (cutH n) (la.take j).reverse (lb.take j).reverse).1, .string (chainF (cutH n) (la.take j).reverse (lb.take j).reverse).2]) ∧ Below w.heap.size w w' := by
  intro j
  induction j with
  | zero => intro a a2 ca cb w _ _ _ _ _ hne; simp at hne
  | succ i ih =>
  intro a a2 ca cb w hra hrb hj hca hcb hne
  have hfn := chainF_now (cutH n) (la := la) (lb := lb) (j := i) (by omega) (by omega)
  have hfe := chainF_next (cutH n) (la := la) (lb := lb) (j := i) (by omega) (by omega)
  have hft : hashedC (cutH n) la (i + 1) = hashedC (cutH n) lb (i + 1) → la.take i ≠ lb.take i := fun e ht => by
    rw [hashedC_pos _ la (by omega), hashedC_pos _ lb (by omega), Nat.add_sub_cancel] at e
    have s1 := chain_size (cutH n) n (cutH_size n h1)
    have ga : (la.getD i ⟨#[]⟩).size ≤ 60000 := by rw [List.getD_eq_getElem?_getD, List.getElem?_eq_getElem (by omega)]; exact hza _ (List.getElem_mem _)
    have gb : (lb.getD i ⟨#[]⟩).size ≤ 60000 := by rw [List.getD_eq_getElem?_getD, List.getElem?_eq_getElem (by omega)]; exact hzb _ (List.getElem_mem _)
    have := (last_inj (by rw [s1]; omega) (by rw [s1]; omega) (by omega) (by omega) e).2
    exact hne (by rw [take_snocL (by omega), take_snocL (by omega), ht, this])
  obtain ⟨b1, o1, rfl, _, _⟩ := hra.some (by omega)
  obtain ⟨b2, o2, rfl, _, _⟩ := hrb.some (by omega)
  have HA := Lib.hid (fun (W : World) (hb : Below w.heap.size w W) => last27 n h1 la hm hza i b1 o1 ca W (by omega) (hra.below hb) hca)
  have HB := Lib.hid (fun (W : World) (hb : Below w.heap.size w W) => last27 n h1 lb (by omega) hzb i b2 o2 cb W (by omega) (hrb.below hb) hcb)
  obtain ⟨RES, hRES⟩ : ∃ R, chainF (cutH n) (la.take (i + 1)).reverse (lb.take (i + 1)).reverse = R := ⟨_, rfl⟩
  rw [hRES] at hfn hfe ⊢
  clear hRES
  obtain ⟨X, hX⟩ : ∃ X, hashedC (cutH n) la (i + 1) = X := ⟨_, rfl⟩
  obtain ⟨Y, hY⟩ : ∃ Y, hashedC (cutH n) lb (i + 1) = Y := ⟨_, rfl⟩
  rw [hX] at HA
  rw [hY] at HB
  rw [hX, hY] at hfn hfe hft
  have HNOW := Lib.hid hfn; have HNEXT := Lib.hid hfe; have HNE := Lib.hid hft
  have IH := Lib.hid (fun (ne : la.take i ≠ lb.take i) (W : World) (hb : Below w.heap.size w W) => ih (some ⟨b1, o1, none⟩) (some ⟨b2, o2, none⟩) ca cb W (hra.below hb) (hrb.below hb) (by omega) (by omega) (by omega) ne)
  obtain ⟨RR, hRR⟩ : ∃ R, chainF (cutH n) (la.take i).reverse (lb.take i).reverse = R := ⟨_, rfl⟩
  rw [hRR] at IH HNEXT
  have HKS := Lib.hid key_size
  generalize keyCells = kc at *
  have iadd : ((i + 1 : Nat) : Int) = (i : Int) + 1 := by omega
  have q3 : (i : Int) ≤ (ca : Int) := by omega
  have q3' : (i : Int) ≤ (cb : Int) := by omega
  have q5 : ¬ ca < i := by omega
  have q5' : ¬ cb < i := by omega
  clear hfn hfe hft hne hra hrb ih hza hzb hX hY hRR
  go_enter Tryd.func15, Tryd.ntmps15
  go_upto_region 1 with (fail)
  refine at_world (Φ := KeyS w kc) (KeyS.box w kc) ?_
  rintro W hW
  have HW := Lib.hid hW
  clear hW
  refine wp_region_held_drew (S := KeyS w kc) (by kernel_rfl) (HW.out.drew) (fun hS => ?_)
  refine wpAnyH_take (i := 0) (v := .agg kc) rfl (by kernel_rfl) (by kernel_rfl) (by kernel_rfl) (fun _ _ _ h => h) (yieldsIf_load rfl 32 (.tmp 4) rfl _ _ rfl (fun W hW => load_key HKS.out hW.1)) hS ?_
  simp only [List.getElem_toArray, List.getElem_cons_zero, Act.put, List.setIfInBounds_toArray, List.set_cons_zero, List.set_cons_succ]
  refine wpAnyH_take (i := 1) (v := .slice (some ⟨b1, o1, none⟩) (i + 1) ca) rfl (by kernel_rfl) (by kernel_rfl) (by kernel_rfl) (fun _ _ _ h => h) (Or.inl ⟨by simp [Region.wanted], fun W _ => by go_simp⟩) hS ?_
  simp only [List.getElem_toArray, List.getElem_cons_zero, List.getElem_cons_succ, Act.put, List.setIfInBounds_toArray, List.set_cons_zero, List.set_cons_succ]
  refine wpAnyH_take (i := 2) (v := .int .i64 (n : Int)) rfl (by kernel_rfl) (by kernel_rfl) (by kernel_rfl) (fun _ _ _ h => h) (Or.inl ⟨by simp [Region.wanted], fun W _ => by go_simp⟩) hS ?_
  simp only [List.getElem_toArray, List.getElem_cons_zero, List.getElem_cons_succ, Act.put, List.setIfInBounds_toArray, List.set_cons_zero, List.set_cons_succ]
  refine wpAnyH_take (i := 4) (v := .agg kc) rfl (by kernel_rfl) (by kernel_rfl) (by kernel_rfl) (fun _ _ _ h => h) (yieldsIf_load rfl 32 (.tmp 4) rfl _ _ rfl (fun W hW => load_key HKS.out hW.1)) hS ?_
  simp only [List.getElem_toArray, List.getElem_cons_zero, List.getElem_cons_succ, Act.put, List.setIfInBounds_toArray, List.set_cons_zero, List.set_cons_succ]
  refine wpAnyH_take (i := 5) (v := .slice (some ⟨b2, o2, none⟩) (i + 1) cb) rfl (by kernel_rfl) (by kernel_rfl) (by kernel_rfl) (fun _ _ _ h => h) (Or.inl ⟨by simp [Region.wanted], fun W _ => by go_simp⟩) hS ?_
  simp only [List.getElem_toArray, List.getElem_cons_zero, List.getElem_cons_succ, Act.put, List.setIfInBounds_toArray, List.set_cons_zero, List.set_cons_succ]
  refine wpAnyH_take (i := 6) (v := .int .i64 (n : Int)) rfl (by kernel_rfl) (by kernel_rfl) (by kernel_rfl) (fun _ _ _ h => h) (Or.inl ⟨by simp [Region.wanted], fun W _ => by go_simp⟩) hS ?_
  simp only [List.getElem_toArray, List.getElem_cons_zero, List.getElem_cons_succ, Act.put, List.setIfInBounds_toArray, List.set_cons_zero, List.set_cons_succ]
  refine wpAnyH_ready (rs := [3]) (by kernel_rfl) (by simp) ?_
  refine AllReadyH.cons rfl (fun K1 hK1 => ?_) AllReadyH.nil
  refine wanted_go rfl ?_
  simp only [List.getElem_toArray, List.getElem_cons_zero, List.getElem_cons_succ]
  go_wp2_with (go_at_call 27; refine (HA.out _ hS.2.1).mono ?_; rintro e w1 ⟨rfl, hb1⟩; have HB1 := Lib.hid hb1; clear hb1)
  refine hK1.out _ _ (hS.below HB1.out) (fun hS1 => ?_)
  refine wpAnyH_ready (rs := [7]) (by kernel_rfl) (by simp) ?_
  refine AllReadyH.cons rfl (fun K2 hK2 => ?_) AllReadyH.nil
  refine wanted_go rfl ?_
  simp only [List.getElem_toArray, List.getElem_cons_zero, List.getElem_cons_succ]
  go_wp2_with (go_at_call 27; refine (HB.out _ hS1.2.1).mono ?_; rintro e w2 ⟨rfl, hb2⟩; have HB2 := Lib.hid hb2; clear hb2)
  refine hK2.out _ _ (hS1.below HB2.out) (fun hS2 => ?_)
  refine wpAnyH_take (i := 8) (v := .string X) rfl (by kernel_rfl) (by kernel_rfl) (by kernel_rfl) (fun _ _ _ h => h) (Or.inl ⟨by simp [Region.wanted], fun W _ => by go_simp⟩) hS2 ?_
  simp only [List.getElem_toArray, List.getElem_cons_zero, List.getElem_cons_succ, Act.put, List.setIfInBounds_toArray, List.set_cons_zero, List.set_cons_succ]
  refine wpAnyH_take (i := 9) (v := .string Y) rfl (by kernel_rfl) (by kernel_rfl) (by kernel_rfl) (fun _ _ _ h => h) (Or.inl ⟨by simp [Region.wanted], fun W _ => by go_simp⟩) hS2 ?_
  simp only [List.getElem_toArray, List.getElem_cons_zero, List.getElem_cons_succ, Act.put, List.setIfInBounds_toArray, List.set_cons_zero, List.set_cons_succ]
  refine wpAnyH_done (by kernel_rfl) ?_ _
  have HW2 := Lib.hid hS2
  clear hS hS1 hS2 hK1 hK2 HW
  by_cases hxy : X = Y
  · subst hxy
    have HEND := Lib.hid (HNEXT.out rfl)
    have HI := Lib.hid (IH.out (HNE.out rfl))
    clear HNOW HNEXT HNE HA HB IH
    have ne0 : (X.toList == X.toList) = true := by simp
    go_upto_region 4 with (fail)
    clear ne0
    refine wp_region_held_drew (S := KeyS w kc) (by kernel_rfl) (HW2.out.drew) (fun hS => ?_)
    refine wpAnyH_take (i := 0) (v := .agg kc) rfl (by kernel_rfl) (by kernel_rfl) (by kernel_rfl) (fun _ _ _ h => h) (yieldsIf_load rfl 32 (.tmp 4) rfl _ _ rfl (fun W hW => load_key HKS.out hW.1)) hS ?_
    simp only [List.getElem_toArray, List.getElem_cons_zero, Act.put, List.setIfInBounds_toArray, List.set_cons_zero, List.set_cons_succ]
    refine wpAnyH_take (i := 1) (v := .slice (some ⟨b1, o1, none⟩) (i + 1) ca) rfl (by kernel_rfl) (by kernel_rfl) (by kernel_rfl) (fun _ _ _ h => h) (Or.inl ⟨by simp [Region.wanted], fun W _ => by go_simp⟩) hS ?_
    simp only [List.getElem_toArray, List.getElem_cons_zero, List.getElem_cons_succ, Act.put, List.setIfInBounds_toArray, List.set_cons_zero, List.set_cons_succ]
    refine wpAnyH_take (i := 2) (v := .slice (some ⟨b1, o1, none⟩) (i + 1) ca) rfl (by kernel_rfl) (by kernel_rfl) (by kernel_rfl) (fun _ _ _ h => h) (Or.inl ⟨by simp [Region.wanted], fun W _ => by go_simp⟩) hS ?_
    simp only [List.getElem_toArray, List.getElem_cons_zero, List.getElem_cons_succ, Act.put, List.setIfInBounds_toArray, List.set_cons_zero, List.set_cons_succ]
    refine wpAnyH_take (i := 3) (v := .int .i64 ((i : Int) + 1)) rfl (by kernel_rfl) (by kernel_rfl) (by kernel_rfl) (fun _ _ _ h => h) (Or.inl ⟨by simp [Region.wanted], fun W _ => by go_simp⟩) hS ?_
    simp only [List.getElem_toArray, List.getElem_cons_zero, List.getElem_cons_succ, Act.put, List.setIfInBounds_toArray, List.set_cons_zero, List.set_cons_succ]
    refine wpAnyH_take (i := 4) (v := .int .i64 (i : Int)) rfl (by kernel_rfl) (by kernel_rfl) (by kernel_rfl) (fun _ _ _ h => h) (Or.inl ⟨by simp [Region.wanted], fun W _ => by go_simp; rw [IntKind.wrap_i64]; omega⟩) hS ?_
    simp only [List.getElem_toArray, List.getElem_cons_zero, List.getElem_cons_succ, Act.put, List.setIfInBounds_toArray, List.set_cons_zero, List.set_cons_succ]
    refine wpAnyH_take (i := 5) (v := .slice (some ⟨b1, o1, none⟩) i ca) rfl (by kernel_rfl) (by kernel_rfl) (by kernel_rfl) (fun _ _ _ h => h) (Or.inl ⟨by simp [Region.wanted], fun W _ => by go_simp⟩) hS ?_
    simp only [List.getElem_toArray, List.getElem_cons_zero, List.getElem_cons_succ, Act.put, List.setIfInBounds_toArray, List.set_cons_zero, List.set_cons_succ]
    refine wpAnyH_take (i := 6) (v := .slice (some ⟨b2, o2, none⟩) (i + 1) cb) rfl (by kernel_rfl) (by kernel_rfl) (by kernel_rfl) (fun _ _ _ h => h) (Or.inl ⟨by simp [Region.wanted], fun W _ => by go_simp⟩) hS ?_
    simp only [List.getElem_toArray, List.getElem_cons_zero, List.getElem_cons_succ, Act.put, List.setIfInBounds_toArray, List.set_cons_zero, List.set_cons_succ]
    refine wpAnyH_take (i := 7) (v := .slice (some ⟨b2, o2, none⟩) (i + 1) cb) rfl (by kernel_rfl) (by kernel_rfl) (by kernel_rfl) (fun _ _ _ h => h) (Or.inl ⟨by simp [Region.wanted], fun W _ => by go_simp⟩) hS ?_
    simp only [List.getElem_toArray, List.getElem_cons_zero, List.getElem_cons_succ, Act.put, List.setIfInBounds_toArray, List.set_cons_zero, List.set_cons_succ]
    refine wpAnyH_take (i := 8) (v := .int .i64 ((i : Int) + 1)) rfl (by kernel_rfl) (by kernel_rfl) (by kernel_rfl) (fun _ _ _ h => h) (Or.inl ⟨by simp [Region.wanted], fun W _ => by go_simp⟩) hS ?_
    simp only [List.getElem_toArray, List.getElem_cons_zero, List.getElem_cons_succ, Act.put, List.setIfInBounds_toArray, List.set_cons_zero, List.set_cons_succ]
    refine wpAnyH_take (i := 9) (v := .int .i64 (i : Int)) rfl (by kernel_rfl) (by kernel_rfl) (by kernel_rfl) (fun _ _ _ h => h) (Or.inl ⟨by simp [Region.wanted], fun W _ => by go_simp; rw [IntKind.wrap_i64]; omega⟩) hS ?_
    simp only [List.getElem_toArray, List.getElem_cons_zero, List.getElem_cons_succ, Act.put, List.setIfInBounds_toArray, List.set_cons_zero, List.set_cons_succ]
    refine wpAnyH_take (i := 10) (v := .slice (some ⟨b2, o2, none⟩) i cb) rfl (by kernel_rfl) (by kernel_rfl) (by kernel_rfl) (fun _ _ _ h => h) (Or.inl ⟨by simp [Region.wanted], fun W _ => by go_simp⟩) hS ?_
    simp only [List.getElem_toArray, List.getElem_cons_zero, List.getElem_cons_succ, Act.put, List.setIfInBounds_toArray, List.set_cons_zero, List.set_cons_succ]
    refine wpAnyH_take (i := 11) (v := .int .i64 (n : Int)) rfl (by kernel_rfl) (by kernel_rfl) (by kernel_rfl) (fun _ _ _ h => h) (Or.inl ⟨by simp [Region.wanted], fun W _ => by go_simp⟩) hS ?_
    simp only [List.getElem_toArray, List.getElem_cons_zero, List.getElem_cons_succ, Act.put, List.setIfInBounds_toArray, List.set_cons_zero, List.set_cons_succ]
    refine wpAnyH_ready (rs := [12]) (by kernel_rfl) (by simp) ?_
    refine AllReadyH.cons rfl (fun K1 hK1 => ?_) AllReadyH.nil
    refine wanted_go rfl ?_
    simp only [List.getElem_toArray, List.getElem_cons_zero, List.getElem_cons_succ]
    go_wp2_with (go_at_call 15; refine (HI.out _ hS.2.1).mono ?_; rintro e w3 ⟨rfl, hb3⟩; have HB3 := Lib.hid hb3; clear hb3)
    refine hK1.out _ _ (hS.below HB3.out) (fun hS1 => ?_)
    refine wpAnyH_take (i := 13) (v := .string RR.1) rfl (by kernel_rfl) (by kernel_rfl) (by kernel_rfl) (fun _ _ _ h => h) (Or.inl ⟨by simp [Region.wanted], fun W _ => by go_simp⟩) hS1 ?_
    simp only [List.getElem_toArray, List.getElem_cons_zero, List.getElem_cons_succ, Act.put, List.setIfInBounds_toArray, List.set_cons_zero, List.set_cons_succ]
    refine wpAnyH_take (i := 14) (v := .string RR.2) rfl (by kernel_rfl) (by kernel_rfl) (by kernel_rfl) (fun _ _ _ h => h) (Or.inl ⟨by simp [Region.wanted], fun W _ => by go_simp⟩) hS1 ?_
    simp only [List.getElem_toArray, List.getElem_cons_zero, List.getElem_cons_succ, Act.put, List.setIfInBounds_toArray, List.set_cons_zero, List.set_cons_succ]
    refine wpAnyH_take (i := 15) (v := .string RR.1) rfl (by kernel_rfl) (by kernel_rfl) (by kernel_rfl) (fun _ _ _ h => h) (Or.inl ⟨by simp [Region.wanted], fun W _ => by go_simp⟩) hS1 ?_
    simp only [List.getElem_toArray, List.getElem_cons_zero, List.getElem_cons_succ, Act.put, List.setIfInBounds_toArray, List.set_cons_zero, List.set_cons_succ]
    refine wpAnyH_take (i := 16) (v := .string RR.2) rfl (by kernel_rfl) (by kernel_rfl) (by kernel_rfl) (fun _ _ _ h => h) (Or.inl ⟨by simp [Region.wanted], fun W _ => by go_simp⟩) hS1 ?_
    simp only [List.getElem_toArray, List.getElem_cons_zero, List.getElem_cons_succ, Act.put, List.setIfInBounds_toArray, List.set_cons_zero, List.set_cons_succ]
    refine wpAnyH_done (by kernel_rfl) ?_ _
    have HF := Lib.hid hS1.2.1
    clear hS hS1 hK1
    go_wp2
    go_ret2
    exact ⟨by have h := HEND.out; subst h; rfl, HF.out⟩
  · have hxb : (X.toList == Y.toList) = false := eqB_ne hxy
    have HEND := Lib.hid (HNOW.out hxy)
    clear hxy
    go_wp2
    go_ret2
    exact ⟨by have h := HEND.out; subst h; rfl, HW2.out.2.1⟩
end Go.Proofs.YtalgailclcefdaaDoor
