/- The way up: the contracts of Check and of its closure. -/
import Derived.Test.YtgpebamadhabnaaDoorTreeCalls
namespace Go.Proofs.YtgpebamadhabnaaDoor
open Go.RowKit

theorem up30 (t : Bool) (q x : ByteArray) (g1 g0 n : Nat) (w : World) (h0 : 1 ≤ n) (h1 : n ≤ 32) (hq : q.size ≤ 1000) (hx : x.size ≤ 1000) (hK : KHeld w)
    (hn : w.cell? ⟨g0, 0, none⟩ = some (.int .i64 (n : Int))) (hc : w.heap[g1]? = some (.cells #[.string x] 9 (0, 0))) :
    Calls Tryd.prog 30 #[.bool t, .string q, .pointer (some ⟨g1, 0, none⟩), .pointer (some ⟨g0, 0, none⟩)] w fun e w' => e = .returned (.tuple #[]) ∧ w'.heap[g1]? = some (.cells #[.string (stepU (cutH n) t q x)] 9 (0, 0)) ∧ w.grownBy w' (some g1) := by
  have c1 : w.cell? ⟨g1, 0, none⟩ = some (.string x) := by rw [cell_of_row w g1 0 _ 9 (0, 0) hc]; rfl
  have HC := Lib.hid hc
  clear hc
  cases t
  · have HN := Lib.hid (node31 x q n w h0 h1 hx hq hK)
    rw [show stepU (cutH n) false q x = nodeS (cutH n) x q from rfl]
    generalize nodeS (cutH n) x q = D at *
    clear hK
    go_enter Tryd.func30, Tryd.ntmps30
    go_wp2_with (go_at_call 31; refine HN.out.mono ?_; rintro e w1 ⟨rfl, hb1⟩; have HG1 := Lib.hid ((hb1.block g1 (lt_of_block HC.out)).trans HC.out); have fg := free_of_blk HG1.out 0; have cg : w1.cell? ⟨g1, 0, none⟩ = some (.string x) := by rw [cell_of_row w1 g1 0 _ 9 (0, 0) HG1.out]; rfl)
    go_end0
    refine ⟨rfl, set_blk HG1.out 0 (.string D), ?_⟩
    have this := grown_set w1 g1 0 (.string D)
    exact ⟨this.os.trans hb1.os, this.tape.trans hb1.tape, this.output.trans hb1.output, Nat.le_trans hb1.size this.size, fun i hi hne => (this.block i (by have := hb1.size; omega) hne).trans (hb1.block i hi)⟩
  · have HN := Lib.hid (node31 q x n w h0 h1 hq hx hK)
    rw [show stepU (cutH n) true q x = nodeS (cutH n) q x from rfl]
    generalize nodeS (cutH n) q x = D at *
    clear hK
    go_enter Tryd.func30, Tryd.ntmps30
    go_wp2_with (go_at_call 31; refine HN.out.mono ?_; rintro e w1 ⟨rfl, hb1⟩; have HG1 := Lib.hid ((hb1.block g1 (lt_of_block HC.out)).trans HC.out); have fg := free_of_blk HG1.out 0; have cg : w1.cell? ⟨g1, 0, none⟩ = some (.string x) := by rw [cell_of_row w1 g1 0 _ 9 (0, 0) HG1.out]; rfl)
    go_end0
    refine ⟨rfl, set_blk HG1.out 0 (.string D), ?_⟩
    have this := grown_set w1 g1 0 (.string D)
    exact ⟨this.os.trans hb1.os, this.tape.trans hb1.tape, this.output.trans hb1.output, Nat.le_trans hb1.size this.size, fun i hi hne => (this.block i (by have := hb1.size; omega) hne).trans (hb1.block i hi)⟩

theorem drew_grown' {W W' : World} {r : Option Nat} (h : W.drew.grownBy W' r) : W.grownBy W' r := ⟨h.os, h.tape, h.output, h.size, h.block⟩
theorem upT_size (h : ByteArray → ByteArray) (n : Nat) (hn : ∀ s, (h s).size = n) (x : ByteArray) (hx : x.size = n) (T : List Bool) (r : List ByteArray) : (upT h x T r).size = n := by
  unfold upT
  split
  · unfold stepU; split <;> exact hn _
  · exact hx
theorem Below.heap_alloc_cell (w : World) (o : Obj) (a : Addr) (h : a.block < w.heap.size) : (w.alloc o).cell? a = w.cell? a := World.cell?_of_block (w := w) (Below.heap_alloc w o a.block h)

/-- Check, where it may not be. -/
theorem check14_no (leaf root : ByteArray) (a : Option Addr) (len cap : Nat) (k c n : Int) (w : World) (h : ¬ (1 ≤ n ∧ n ≤ 32) ∨ 4096 < c ∨ k < 0 ∨ c ≤ k) :
    Calls Tryd.prog 14 #[.string leaf, .int .i64 k, .int .i64 c, .slice a len cap, .string root, .int .i64 n] w fun e w' => e = .returned (.bool false) ∧ Below w.heap.size w w' := by
  have HM := Lib.hid (fun W => may25 n W)
  by_cases hm : 1 ≤ n ∧ n ≤ 32
  · rw [decide_eq_true hm] at HM
    by_cases h1 : c > 4096
    · clear h
      go_enter Tryd.func14, Tryd.ntmps14
      go_wp2_with (go_at_call 25; refine (HM.out _).mono ?_; rintro e w' ⟨rfl, rfl⟩)
      go_ret
      exact ⟨rfl, (Below.refl _ w).alloc (Nat.le_refl _) _⟩
    · by_cases h2 : k < 0
      · clear h
        go_enter Tryd.func14, Tryd.ntmps14
        go_wp2_with (go_at_call 25; refine (HM.out _).mono ?_; rintro e w' ⟨rfl, rfl⟩)
        go_ret
        exact ⟨rfl, (Below.refl _ w).alloc (Nat.le_refl _) _⟩
      · have h3 : k ≥ c := by omega
        clear h
        go_enter Tryd.func14, Tryd.ntmps14
        go_wp2_with (go_at_call 25; refine (HM.out _).mono ?_; rintro e w' ⟨rfl, rfl⟩)
        go_ret
        exact ⟨rfl, (Below.refl _ w).alloc (Nat.le_refl _) _⟩
  · rw [decide_eq_false hm] at HM
    clear h
    go_enter Tryd.func14, Tryd.ntmps14
    go_wp2_with (go_at_call 25; refine (HM.out _).mono ?_; rintro e w' ⟨rfl, rfl⟩)
    go_ret
    exact ⟨rfl, (Below.refl _ w).alloc (Nat.le_refl _) _⟩

theorem bools_form {W : World} {B : Nat} {v : Value} {n : Nat} {xs : List Value} (h : W.ownsRow B 4 1 v n xs) : ∃ a cap, v = .slice a n cap := by
  rcases h.2 with ⟨rfl, h0⟩ | ⟨g, cap, cur, rfl, _⟩
  · subst h0; exact ⟨none, 0, rfl⟩
  · exact ⟨_, cap, rfl⟩
/-- What stands while one goes up. -/
def ChkW (w : World) (g1 n : Nat) (T : List Bool) (v : Value) (x : ByteArray) (W : World) : Prop :=
  W.cell? ⟨w.heap.size, 0, none⟩ = some (.int .i64 (n : Int)) ∧ W.ownsRow (w.heap.size + 1) 4 1 v T.length (T.map Value.bool) ∧ W.heap[g1]? = some (.cells #[.string x] 9 (0, 0)) ∧ Below w.heap.size w W ∧ v.ownBlock ≠ some g1 ∧ w.heap.size < g1 ∧ w.heap.size < W.heap.size

set_option maxRecDepth 100000 in
set_option maxHeartbeats 1000000 in
theorem check14 (leaf root : ByteArray) (a : Option Addr) (p : List ByteArray) (cap k c n : Nat) (w : World) (h0 : 1 ≤ n) (h1 : n ≤ 32) (hc : c ≤ 4096) (hk : k < c) (hz : leaf.size ≤ 700000) (hr : StrsAt w a p) (hp : p.length ≤ 60000) (hK : KHeld w) :
    Calls Tryd.prog 14 #[.string leaf, .int .i64 (k : Int), .int .i64 (c : Int), .slice a p.length cap, .string root, .int .i64 (n : Int)] w fun e w' => e = .returned (.bool (checkS (cutH n) n (leafS (cutH n) leaf) k c p root)) ∧ Below w.heap.size w w' := by
  obtain ⟨V, hV⟩ : ∃ V, checkS (cutH n) n (leafS (cutH n) leaf) k c p root = V := ⟨_, rfl⟩
  rw [hV]
  have HM := Lib.hid (fun W => may25 n W)
  rw [decide_eq_true (show 1 ≤ (n : Int) ∧ (n : Int) ≤ 32 by omega)] at HM
  have HT := Lib.hid (fun W => turns26 k c W (by omega) (by omega))
  have HTL := Lib.hid (turnsS_len k c)
  obtain ⟨T, hT⟩ : ∃ T, turnsS k c = T := ⟨_, rfl⟩
  rw [hT] at HT HTL
  obtain ⟨x0, hx0⟩ : ∃ x0, leafS (cutH n) leaf = x0 := ⟨_, rfl⟩
  have HLF := Lib.hid (fun W (h : KHeld W) => leaf29 leaf n W h0 h1 hz h)
  rw [hx0] at HLF hV
  have hx0s : x0.size = n := by rw [← hx0]; exact cutH_size n h1 _
  have HX0 := Lib.hid hx0s
  have HV := Lib.hid hV; have HTT := Lib.hid hT; have HR := Lib.hid hr; have HK := Lib.hid hK
  have g1 : ¬ (c : Int) > 4096 := by omega
  have g2 : ¬ (k : Int) < 0 := by omega
  have g3 : ¬ (k : Int) ≥ (c : Int) := by omega
  obtain ⟨L, hL⟩ : ∃ L, p.length = L := ⟨_, rfl⟩
  have HL := Lib.hid hL
  rw [hL] at hp ⊢
  have hml : p.length ≤ maxLen := by unfold maxLen; omega
  have HML := Lib.hid hml
  clear hV hT hx0 hx0s hr hK hL hml
  go_enter Tryd.func14, Tryd.ntmps14
  go_upto_region 4 with (first
    | (go_at_call 25; refine (HM.out _).mono ?_; rintro e w' ⟨rfl, rfl⟩)
    | (go_at_call 26; refine (HT.out _).mono ?_; rintro e w1 ⟨v, rfl, ho, hb1⟩))
  obtain ⟨M, hM⟩ : ∃ M, T.length = M := ⟨_, rfl⟩
  rw [hM] at ho
  obtain ⟨at_, capT, hv⟩ := bools_form ho
  subst hv
  have HTM := Lib.hid hM
  clear hM
  have e1 : (w.alloc (.cells #[.int .i64 (n : Int)] 3)).heap.size = w.heap.size + 1 := by simp
  rw [e1] at ho hb1
  have hcn : w1.cell? ⟨w.heap.size, 0, none⟩ = some (.int .i64 (n : Int)) := (hb1.cell (p := ⟨w.heap.size, 0, none⟩) (Nat.lt_succ_self _)).trans (cell_new1 _ _ _)
  have HB1 := Lib.hid (show Below w.heap.size w w1 from ((Below.refl _ w).alloc (Nat.le_refl _) _).trans (hb1.mono (Nat.le_succ _)))
  have HS1 := Lib.hid (show w.heap.size < w1.heap.size from by have := hb1.size; simp at this; omega)
  have HO := Lib.hid ho
  clear ho hb1 e1
  by_cases hlen : L = M
  · subst hlen
    have b1 : ((L : Int) != (L : Int)) = false := by simp
    have HCT := Lib.hid (show ∀ g W, Below w.heap.size w W → W.cell? ⟨g, 0, none⟩ = some (.int .i64 (n : Int)) → Calls Tryd.prog 27 #[.slice a L cap, .func (.func 28) #[] #[.pointer (some ⟨g, 0, none⟩)]] W fun e w' => e = .returned (.bool (p.any (fun t => decide ((t.size : Int) ≠ (n : Int))))) ∧ W = w' from fun g W hb hg => by
      have := contains27 a p cap g (n : Int) W (HR.out.below hb) HML.out hg
      rwa [HL.out] at this)
    cases hany : p.any (fun t => decide ((t.size : Int) ≠ (n : Int)))
    · rw [hany] at HCT
      have hall : ∀ (j : Nat) (u : ByteArray), p[j]? = some u → u.size = n := fun j u hj => by
        have := List.any_eq_false.1 hany u (List.mem_of_getElem? hj)
        simp at this; omega
      have HALL := Lib.hid hall
      have HCN := Lib.hid hcn
      clear hany hall
      go_upto_region 7 with (first
        | (go_at_call 27; refine (HCT.out _ _ HB1.out hcn).mono ?_; rintro e w2 ⟨rfl, rfl⟩)
        | (go_at_call 29; refine (HLF.out _ (KHeld_of HK.out HB1.out)).mono ?_; rintro e w3 ⟨rfl, hb3⟩; have HB3 := Lib.hid hb3; clear hb3))
      refine at_world (Φ := fun W => ChkW w w3.heap.size n T (.slice at_ L capT) x0 W) ⟨?_, ?_, heap_alloc_new w3 _, (bt2 HB1.out HB3.out).alloc (bt2 HB1.out HB3.out).size _, ?_, ?_, ?_⟩ ?_
      · exact (Below.heap_alloc_cell w3 _ _ (by have := HB3.out.size; have := HS1.out; show w.heap.size < _; omega)).trans ((HB3.out.cell (p := ⟨w.heap.size, 0, none⟩) HS1.out).trans HCN.out)
      · rw [HTM.out]; exact (own_below HO.out HB3.out).alloc _
      · intro hb
        have := (HO.out.lt _ hb).2
        have := HB3.out.size
        omega
      · have := HB3.out.size; have := HS1.out; omega
      · have := HB3.out.size; have := HS1.out; simp; omega
      obtain ⟨g, hg⟩ : ∃ g, w3.heap.size = g := ⟨_, rfl⟩
      rw [hg]
      intro W hW
      have HW := Lib.hid hW
      have HUS := Lib.hid (fun i => upT_size (cutH n) n (cutH_size n h1) x0 HX0.out (T.drop (L - i)) (p.take i).reverse)
      clear hW hg
      go_upto_region 9 with (fail)
      go_loopw [52] (fun vi W' => ∃ i : Nat, i ≤ L ∧ vi = .int .i64 (i : Int) ∧ ChkW w g n T (.slice at_ L capT) (upT (cutH n) x0 (T.drop (L - i)) (p.take i).reverse) W') (fun vi _ => L - (intOf vi).toNat)
      case atStart => exact ⟨0, by omega, rfl, by simpa [upT, List.drop_of_length_le (show T.length ≤ L from by rw [HTM.out]; exact Nat.le_refl _)] using HW.out⟩
      case round =>
        clear HW
        obtain ⟨i, hi, rfl, hch⟩ := hrel
        have HUX := Lib.hid (HUS.out i)
        have HST := Lib.hid (fun hi => up_step (cutH n) x0 T p (by rw [HL.out, HTM.out]) i hi)
        rw [HTM.out, HL.out] at HST
        obtain ⟨x, hx⟩ : ∃ x, upT (cutH n) x0 (T.drop (L - i)) (p.take i).reverse = x := ⟨_, rfl⟩
        rw [hx] at HST hch HUX
        have HX := Lib.hid hx
        clear hx
        by_cases hlt : i < L
        · have hlt2 : (i : Int) < (L : Int) := by omega
          obtain ⟨k1, k2, k3, k4, k5, k6, k7⟩ := hch
          obtain ⟨gt, hat, hgt, hcells⟩ : ∃ gt, at_ = some ⟨gt, 0, none⟩ ∧ gt < wr.heap.size ∧ ∀ j b, T[j]? = some b → wr.cell? ⟨gt, j, none⟩ = some (.bool b) := by
            rw [HTM.out] at k2
            rcases k2.2 with ⟨_, h0⟩ | ⟨gt, cap', cur, hv, q1, q2, q3⟩
            · omega
            · simp only [Value.slice.injEq] at hv
              obtain ⟨rfl, _, rfl⟩ := hv
              refine ⟨gt, rfl, lt_of_block q2, fun j b hj => ?_⟩
              have := k2.cells (g := gt) rfl j (.bool b) (by simp [hj])
              rwa [Addr.add_mid, Nat.zero_add] at this
          subst hat
          obtain ⟨bq, off, ha, hbq, hcq⟩ := HR.out.some (by rw [HL.out]; omega)
          subst ha
          obtain ⟨j, hj⟩ : ∃ j, L - 1 - i = j := ⟨_, rfl⟩
          have hj2 : (L : Int) - 1 - (i : Int) = (j : Int) := by omega
          have hjL : (j : Int) < (L : Int) := by omega
          have hw1 : IntKind.i64.wrap ((L : Int) - 1) = (L : Int) - 1 := IntWalk.i64_in _ (by omega)
          have hw2 : IntKind.i64.wrap (j : Int) = (j : Int) := IntWalk.i64_in _ (by omega)
          obtain ⟨b, hb⟩ : ∃ b, T[j]? = some b := ⟨_, List.getElem?_eq_getElem (by rw [HTM.out]; omega)⟩
          obtain ⟨q, hq⟩ : ∃ q, p[i]? = some q := ⟨_, List.getElem?_eq_getElem (by rw [HL.out]; omega)⟩
          have HNX := Lib.hid (show upT (cutH n) x0 (T.drop (L - (i + 1))) (p.take (i + 1)).reverse = stepU (cutH n) b q x from by
            rw [HST.out hlt, hj, List.getD_eq_getElem?_getD, List.getD_eq_getElem?_getD, hb, hq]; rfl)
          have HCB := Lib.hid (hcells j b hb)
          have HCQ := Lib.hid ((k4.cell (p := ⟨bq, off + i, none⟩) hbq).trans (hcq i q hq))
          have hqs := HALL.out i q hq
          have HU := Lib.hid (up30 b q x g w.heap.size n wr.drew h0 h1 (by omega) (by rw [HUX.out]; omega) (KHeld_of HK.out k4.drew) k1 k3)
          have HCH := Lib.hid (show ChkW w g n T (.slice (some ⟨gt, 0, none⟩) L capT) x wr from ⟨k1, k2, k3, k4, k5, k6, k7⟩)
          have HNE := Lib.hid (show gt ≠ g from fun h => k5 (by rw [h]; rfl))
          have HGL := Lib.hid k6
          have HGT := Lib.hid hgt
          have HBW := Lib.hid hbq
          have HBQ := Lib.hid (show bq < wr.heap.size from Nat.lt_trans hbq k7)
          clear k1 k2 k3 k4 k5 k6 k7 hcells hcq hb hq hj hgt hbq
          generalize stepU (cutH n) b q x = x2 at *
          go_upto_region 11 with (fail)
          refine wp_region_held_drew (S := fun W => W.cell? ⟨gt, j, none⟩ = some (.bool b) ∧ W.cell? ⟨bq, off + i, none⟩ = some (.string q)) (by kernel_rfl) (⟨HCB.out, HCQ.out⟩) (fun hS => ?_)
          refine wpAnyH_take (i := 0) (v := .func (.func 30) #[] #[.pointer (some ⟨g, 0, none⟩), .pointer (some ⟨w.heap.size, 0, none⟩)]) rfl (by kernel_rfl) (by kernel_rfl) (by kernel_rfl) (fun _ _ _ h => h) (Or.inl ⟨by simp [Region.wanted], fun W _ => by go_simp⟩) hS ?_
          simp only [List.getElem_toArray, List.getElem_cons_zero, Act.put, List.setIfInBounds_toArray, List.set_cons_zero, List.set_cons_succ]
          refine wpAnyH_take (i := 1) (v := .slice (some ⟨gt, 0, none⟩) L capT) rfl (by kernel_rfl) (by kernel_rfl) (by kernel_rfl) (fun _ _ _ h => h) (Or.inl ⟨by simp [Region.wanted], fun W _ => by go_simp⟩) hS ?_
          simp only [List.getElem_toArray, List.getElem_cons_zero, List.getElem_cons_succ, Act.put, List.setIfInBounds_toArray, List.set_cons_zero, List.set_cons_succ]
          refine wpAnyH_take (i := 2) (v := .slice (some ⟨gt, 0, none⟩) L capT) rfl (by kernel_rfl) (by kernel_rfl) (by kernel_rfl) (fun _ _ _ h => h) (Or.inl ⟨by simp [Region.wanted], fun W _ => by go_simp⟩) hS ?_
          simp only [List.getElem_toArray, List.getElem_cons_zero, List.getElem_cons_succ, Act.put, List.setIfInBounds_toArray, List.set_cons_zero, List.set_cons_succ]
          refine wpAnyH_take (i := 3) (v := .int .i64 (L : Int)) rfl (by kernel_rfl) (by kernel_rfl) (by kernel_rfl) (fun _ _ _ h => h) (Or.inl ⟨by simp [Region.wanted], fun W _ => by go_simp⟩) hS ?_
          simp only [List.getElem_toArray, List.getElem_cons_zero, List.getElem_cons_succ, Act.put, List.setIfInBounds_toArray, List.set_cons_zero, List.set_cons_succ]
          refine wpAnyH_take (i := 4) (v := .int .i64 ((L : Int) - 1)) rfl (by kernel_rfl) (by kernel_rfl) (by kernel_rfl) (fun _ _ _ h => h) (Or.inl ⟨by simp [Region.wanted], fun W _ => by go_simp⟩) hS ?_
          simp only [List.getElem_toArray, List.getElem_cons_zero, List.getElem_cons_succ, Act.put, List.setIfInBounds_toArray, List.set_cons_zero, List.set_cons_succ]
          refine wpAnyH_take (i := 5) (v := .int .i64 (i : Int)) rfl (by kernel_rfl) (by kernel_rfl) (by kernel_rfl) (fun _ _ _ h => h) (Or.inl ⟨by simp [Region.wanted], fun W _ => by go_simp⟩) hS ?_
          simp only [List.getElem_toArray, List.getElem_cons_zero, List.getElem_cons_succ, Act.put, List.setIfInBounds_toArray, List.set_cons_zero, List.set_cons_succ]
          refine wpAnyH_take (i := 6) (v := .int .i64 (j : Int)) rfl (by kernel_rfl) (by kernel_rfl) (by kernel_rfl) (fun _ _ _ h => h) (Or.inl ⟨by simp [Region.wanted], fun W _ => by go_simp⟩) hS ?_
          simp only [List.getElem_toArray, List.getElem_cons_zero, List.getElem_cons_succ, Act.put, List.setIfInBounds_toArray, List.set_cons_zero, List.set_cons_succ]
          refine wpAnyH_take (i := 7) (v := .pointer (some ⟨gt, j, none⟩)) rfl (by kernel_rfl) (by kernel_rfl) (by kernel_rfl) (fun _ _ _ h => h) (Or.inl ⟨by simp [Region.wanted], fun W _ => by go_simp⟩) hS ?_
          simp only [List.getElem_toArray, List.getElem_cons_zero, List.getElem_cons_succ, Act.put, List.setIfInBounds_toArray, List.set_cons_zero, List.set_cons_succ]
          refine wpAnyH_take (i := 8) (v := .bool b) rfl (by kernel_rfl) (by kernel_rfl) (by kernel_rfl) (fun _ _ _ h => h) (Or.inl ⟨by simp [Region.wanted], fun W hW => by have h1 := hW.1; go_simp⟩) hS ?_
          simp only [List.getElem_toArray, List.getElem_cons_zero, List.getElem_cons_succ, Act.put, List.setIfInBounds_toArray, List.set_cons_zero, List.set_cons_succ]
          refine wpAnyH_take (i := 9) (v := .slice (some ⟨bq, off, none⟩) L cap) rfl (by kernel_rfl) (by kernel_rfl) (by kernel_rfl) (fun _ _ _ h => h) (Or.inl ⟨by simp [Region.wanted], fun W _ => by go_simp⟩) hS ?_
          simp only [List.getElem_toArray, List.getElem_cons_zero, List.getElem_cons_succ, Act.put, List.setIfInBounds_toArray, List.set_cons_zero, List.set_cons_succ]
          refine wpAnyH_take (i := 10) (v := .int .i64 (i : Int)) rfl (by kernel_rfl) (by kernel_rfl) (by kernel_rfl) (fun _ _ _ h => h) (Or.inl ⟨by simp [Region.wanted], fun W _ => by go_simp⟩) hS ?_
          simp only [List.getElem_toArray, List.getElem_cons_zero, List.getElem_cons_succ, Act.put, List.setIfInBounds_toArray, List.set_cons_zero, List.set_cons_succ]
          refine wpAnyH_take (i := 11) (v := .pointer (some ⟨bq, off + i, none⟩)) rfl (by kernel_rfl) (by kernel_rfl) (by kernel_rfl) (fun _ _ _ h => h) (Or.inl ⟨by simp [Region.wanted], fun W _ => by go_simp⟩) hS ?_
          simp only [List.getElem_toArray, List.getElem_cons_zero, List.getElem_cons_succ, Act.put, List.setIfInBounds_toArray, List.set_cons_zero, List.set_cons_succ]
          refine wpAnyH_take (i := 12) (v := .string q) rfl (by kernel_rfl) (by kernel_rfl) (by kernel_rfl) (fun _ _ _ h => h) (Or.inl ⟨by simp [Region.wanted], fun W hW => by have h1 := hW.2; go_simp⟩) hS ?_
          simp only [List.getElem_toArray, List.getElem_cons_zero, List.getElem_cons_succ, Act.put, List.setIfInBounds_toArray, List.set_cons_zero, List.set_cons_succ]
          refine wpAnyH_ready (rs := [13]) (by kernel_rfl) (by simp) ?_
          refine AllReadyH.cons rfl (fun K1 hK1 => ?_) AllReadyH.nil
          refine wanted_go rfl ?_
          simp only [List.getElem_toArray, List.getElem_cons_zero, List.getElem_cons_succ]
          go_wp2_with (go_at_call 30; refine HU.out.mono ?_; rintro e w4 ⟨rfl, hc4, hg4⟩; have HC4 := Lib.hid hc4; have HG4 := Lib.hid hg4; clear hc4 hg4)
          refine hK1.out _ _ (⟨(World.cell?_of_block (HG4.out.block gt HGT.out (by have := HNE.out; simpa using this))).trans hS.1, (World.cell?_of_block (HG4.out.block bq HBQ.out (by have := HGL.out; have := HBW.out; simp; omega))).trans hS.2⟩) (fun hS1 => ?_)
          refine wpAnyH_done (by kernel_rfl) ?_ _
          go_wp2
          go_roundw
          case rel =>
            obtain ⟨k1, k2, k3, k4, k5, k6, k7⟩ := HCH.out
            have HGD := Lib.hid (drew_grown' HG4.out)
            refine ⟨i + 1, by omega, by go_num, ?_⟩
            rw [HNX.out]
            exact ⟨(World.cell?_of_block (HGD.out.block w.heap.size k7 (by simp; omega))).trans k1, k2.kept HGD.out (.inr k5), HC4.out, k4.grown HGD.out (by omega) (by intro k hk; simp at hk; omega), k5, k6, by have := HGD.out.size; omega⟩
          case measure => simp [intOf]; omega
        · have hiL : i = L := by omega
          have hlt2 : ¬ (i : Int) < (L : Int) := by omega
          have hV2 : V = eqB x root := by
            rw [← HV.out, ← HX.out, hiL, Nat.sub_self, List.drop_zero, List.take_of_length_le (by rw [HL.out]; exact Nat.le_refl _)]
            unfold checkS
            rw [HTT.out, decide_eq_true (by rw [HL.out, HTM.out]), show p.all (fun q => q.size == n) = true from List.all_eq_true.2 fun u hu => by
              obtain ⟨j, hj⟩ := List.mem_iff_getElem?.1 hu
              simp [HALL.out j u hj]]
            simp
          have c1 : wr.cell? ⟨g, 0, none⟩ = some (.string x) := by rw [cell_of_row wr g 0 _ 9 (0, 0) hch.2.2.1]; rfl
          have HCH := Lib.hid hch
          have HV2 := Lib.hid hV2
          clear hch hV2
          go_wp2
          go_ret
          exact ⟨ret_bool HV2.out.symm, HCH.out.2.2.2.1⟩
    · rw [hany] at HCT
      have hVf : V = false := by
        rw [← HV.out]
        unfold checkS
        rw [show p.all (fun q => q.size == n) = false from by
          obtain ⟨u, hu, hu2⟩ := List.any_eq_true.1 hany
          rw [List.all_eq_false]
          exact ⟨u, hu, by simp at hu2 ⊢; omega⟩]
        simp
      subst hVf
      go_wp2_with (go_at_call 27; refine (HCT.out _ _ HB1.out hcn).mono ?_; rintro e w2 ⟨rfl, rfl⟩)
      go_ret
      exact ⟨rfl, HB1.out⟩
  · have b1 : ((L : Int) != (M : Int)) = true := by simp; omega
    have hVf : V = false := by rw [← HV.out]; exact check_len _ _ _ _ _ _ _ (by rw [HL.out, HTT.out, HTM.out]; exact hlen)
    subst hVf
    go_wp2
    go_ret
    exact ⟨rfl, HB1.out⟩
end Go.Proofs.YtgpebamadhabnaaDoor
