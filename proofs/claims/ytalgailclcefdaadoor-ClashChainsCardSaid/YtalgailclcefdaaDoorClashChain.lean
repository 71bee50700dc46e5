/- Chains, as the program tells them: the contracts of Row (both), of the closures of ofChain, and of ofChain. -/
import Derived.Test.YtalgailclcefdaaDoorClashRows
import Derived.Test.YtalgailclcefdaaDoorNums
import Derived.Laws.EntriesVeiled
namespace Go.Proofs.YtalgailclcefdaaDoor
open Go.RowKit

theorem encB_size (n : Nat) : (M.encB n).size ≤ 10 := by
  rw [← size_data, encB_data]; exact (M.encF_len 9 n).2
theorem rowBy_size (s : ByteArray) : (rowBy s).size ≤ 10 + s.size := by
  unfold rowBy; rw [size_add]; have := encB_size s.size; omega
theorem lastS_size (x t : ByteArray) : (lastS x t).size ≤ 20 + x.size + t.size := by
  unfold lastS; rw [size_add]; have := rowBy_size x; have := rowBy_size t; omega
theorem row40 (s : ByteArray) (w : World) (hs : s.size ≤ 800000) :
    Calls Tryd.prog 40 #[.string s] w fun e w' => e = .returned (.string (rowBy s)) ∧ Below w.heap.size w w' := by
  have HN := Lib.hid (num8 (s.size : Int) w (by omega) (by omega))
  rw [Int.toNat_natCast] at HN
  have HZ := encB_size s.size
  have HD := Lib.hid (show M.encB s.size ++ s = rowBy s from rfl)
  generalize M.encB s.size = E at *
  have hz2 : ((E ++ s).size : Int) ≤ 9223372036854775807 := by rw [size_add]; omega
  go_enter Tryd.func40, Tryd.ntmps40
  go_wp2_with (go_at_call 52; refine HN.out.mono ?_; rintro e w1 ⟨rfl, hb1⟩; have HB1 := Lib.hid hb1; clear hb1)
  go_ret
  exact ⟨ret_str HD.out, HB1.out⟩
theorem row42 (s : ByteArray) (w : World) (hs : s.size ≤ 800000) :
    Calls Tryd.prog 42 #[.string s] w fun e w' => e = .returned (.string (rowBy s)) ∧ Below w.heap.size w w' := by
  have HN := Lib.hid (ref9 (s.size : Int) w (by omega) (by omega))
  rw [Int.toNat_natCast] at HN
  have HZ := encB_size s.size
  have HD := Lib.hid (show M.encB s.size ++ s = rowBy s from rfl)
  generalize M.encB s.size = E at *
  have hz2 : ((E ++ s).size : Int) ≤ 9223372036854775807 := by rw [size_add]; omega
  go_enter Tryd.func42, Tryd.ntmps42
  go_wp2_with (go_at_call 53; refine HN.out.mono ?_; rintro e w1 ⟨rfl, hb1⟩; have HB1 := Lib.hid hb1; clear hb1)
  go_ret
  exact ⟨ret_str HD.out, HB1.out⟩

set_option maxRecDepth 100000 in
/-- A link: the bytes behind a hash and a text. -/
theorem link39 (x t : ByteArray) (k cnt m cp cap g5 g2 b d off : Nat) (w : World) (hx : x.size ≤ 1000) (ht : t.size ≤ 700000) (hk : k < cnt) (hkm : k < m)
    (c5 : w.cell? ⟨g5, 0, none⟩ = some (.slice (some ⟨b, 0, none⟩) cnt cp)) (cx : w.cell? ⟨b, k, none⟩ = some (.string x))
    (c2 : w.cell? ⟨g2, 0, none⟩ = some (.slice (some ⟨d, off, none⟩) m cap)) (ct : w.cell? ⟨d, off + k, none⟩ = some (.string t)) :
    Calls Tryd.prog 39 #[.int .i64 (k : Int), .pointer (some ⟨g5, 0, none⟩), .pointer (some ⟨g2, 0, none⟩)] w fun e w' => e = .returned (.string (lastS x t)) ∧ Below w.heap.size w w' := by
  have HX := Lib.hid (fun W => row40 x W (by omega))
  have HT := Lib.hid (fun W => row40 t W (by omega))
  have HJ := Lib.hid (fun (W : World) (bk : Nat) (hs : StrsAt W (some ⟨bk, 0, none⟩) [rowBy x, rowBy t]) => joined34 bk 0 [rowBy x, rowBy t] 2 2 W rfl (by omega) (by omega) hs (by rw [catS_two, size_add]; have := rowBy_size x; have := rowBy_size t; omega) (by omega))
  rw [catS_two] at HJ
  have HD := Lib.hid (show rowBy x ++ rowBy t = lastS x t from rfl)
  rw [HD.out] at HJ
  clear HD
  generalize lastS x t = D at *
  generalize rowBy x = X at *
  generalize rowBy t = T at *
  have L5 := Lib.hid (World.block_lt_of_cell? w _ c5); have L2 := Lib.hid (World.block_lt_of_cell? w _ c2); have LX := Lib.hid (World.block_lt_of_cell? w _ cx); have LT := Lib.hid (World.block_lt_of_cell? w _ ct)
  have C5 := Lib.hid c5; have C2 := Lib.hid c2; have CX := Lib.hid cx; have CT := Lib.hid ct
  clear c5 c2 cx ct
  have k1 : (k : Int) < (cnt : Int) := by omega
  have k2 : (k : Int) < (m : Int) := by omega
  go_enter Tryd.func39, Tryd.ntmps39
  go_upto_region 1 with (fail)
  refine wp_region_held_drew (S := fun W => Below w.heap.size w W) (by kernel_rfl) ((Below.refl _ w).drew) (fun hS => ?_)
  refine wpAnyH_take (i := 0) (v := .slice (some ⟨b, 0, none⟩) cnt cp) rfl (by kernel_rfl) (by kernel_rfl) (by kernel_rfl) (fun _ _ _ h => h) (Or.inl ⟨by simp [Region.wanted], fun W hW => by have h1 := (hW.cell (p := ⟨g5, 0, none⟩) L5.out).trans C5.out; go_simp⟩) hS ?_
  simp only [List.getElem_toArray, List.getElem_cons_zero, Act.put, List.setIfInBounds_toArray, List.set_cons_zero, List.set_cons_succ]
  refine wpAnyH_take (i := 1) (v := .int .i64 (k : Int)) rfl (by kernel_rfl) (by kernel_rfl) (by kernel_rfl) (fun _ _ _ h => h) (Or.inl ⟨by simp [Region.wanted], fun W _ => by go_simp⟩) hS ?_
  simp only [List.getElem_toArray, List.getElem_cons_zero, List.getElem_cons_succ, Act.put, List.setIfInBounds_toArray, List.set_cons_zero, List.set_cons_succ]
  refine wpAnyH_take (i := 2) (v := .pointer (some ⟨b, k, none⟩)) rfl (by kernel_rfl) (by kernel_rfl) (by kernel_rfl) (fun _ _ _ h => h) (Or.inl ⟨by simp [Region.wanted], fun W _ => by go_simp⟩) hS ?_
  simp only [List.getElem_toArray, List.getElem_cons_zero, List.getElem_cons_succ, Act.put, List.setIfInBounds_toArray, List.set_cons_zero, List.set_cons_succ]
  refine wpAnyH_take (i := 3) (v := .string x) rfl (by kernel_rfl) (by kernel_rfl) (by kernel_rfl) (fun _ _ _ h => h) (Or.inl ⟨by simp [Region.wanted], fun W hW => by have h1 := (hW.cell (p := ⟨b, k, none⟩) LX.out).trans CX.out; go_simp⟩) hS ?_
  simp only [List.getElem_toArray, List.getElem_cons_zero, List.getElem_cons_succ, Act.put, List.setIfInBounds_toArray, List.set_cons_zero, List.set_cons_succ]
  refine wpAnyH_take (i := 5) (v := .slice (some ⟨d, off, none⟩) m cap) rfl (by kernel_rfl) (by kernel_rfl) (by kernel_rfl) (fun _ _ _ h => h) (Or.inl ⟨by simp [Region.wanted], fun W hW => by have h1 := (hW.cell (p := ⟨g2, 0, none⟩) L2.out).trans C2.out; go_simp⟩) hS ?_
  simp only [List.getElem_toArray, List.getElem_cons_zero, List.getElem_cons_succ, Act.put, List.setIfInBounds_toArray, List.set_cons_zero, List.set_cons_succ]
  refine wpAnyH_take (i := 6) (v := .int .i64 (k : Int)) rfl (by kernel_rfl) (by kernel_rfl) (by kernel_rfl) (fun _ _ _ h => h) (Or.inl ⟨by simp [Region.wanted], fun W _ => by go_simp⟩) hS ?_
  simp only [List.getElem_toArray, List.getElem_cons_zero, List.getElem_cons_succ, Act.put, List.setIfInBounds_toArray, List.set_cons_zero, List.set_cons_succ]
  refine wpAnyH_take (i := 7) (v := .pointer (some ⟨d, off + k, none⟩)) rfl (by kernel_rfl) (by kernel_rfl) (by kernel_rfl) (fun _ _ _ h => h) (Or.inl ⟨by simp [Region.wanted], fun W _ => by go_simp⟩) hS ?_
  simp only [List.getElem_toArray, List.getElem_cons_zero, List.getElem_cons_succ, Act.put, List.setIfInBounds_toArray, List.set_cons_zero, List.set_cons_succ]
  refine wpAnyH_take (i := 8) (v := .string t) rfl (by kernel_rfl) (by kernel_rfl) (by kernel_rfl) (fun _ _ _ h => h) (Or.inl ⟨by simp [Region.wanted], fun W hW => by have h1 := (hW.cell (p := ⟨d, off + k, none⟩) LT.out).trans CT.out; go_simp⟩) hS ?_
  simp only [List.getElem_toArray, List.getElem_cons_zero, List.getElem_cons_succ, Act.put, List.setIfInBounds_toArray, List.set_cons_zero, List.set_cons_succ]
  refine wpAnyH_ready (rs := [4]) (by kernel_rfl) (by simp) ?_
  refine AllReadyH.cons rfl (fun K1 hK1 => ?_) AllReadyH.nil
  refine wanted_go rfl ?_
  simp only [List.getElem_toArray, List.getElem_cons_zero, List.getElem_cons_succ]
  go_wp2_with (go_at_call 40; refine (HX.out _).mono ?_; rintro e w1 ⟨rfl, hb1⟩; have HB1 := Lib.hid hb1; clear hb1)
  refine hK1.out _ _ (bt2 hS HB1.out) (fun hS1 => ?_)
  refine wpAnyH_ready (rs := [9]) (by kernel_rfl) (by simp) ?_
  refine AllReadyH.cons rfl (fun K2 hK2 => ?_) AllReadyH.nil
  refine wanted_go rfl ?_
  simp only [List.getElem_toArray, List.getElem_cons_zero, List.getElem_cons_succ]
  go_wp2_with (go_at_call 40; refine (HT.out _).mono ?_; rintro e w2 ⟨rfl, hb2⟩; have HB2 := Lib.hid hb2; clear hb2)
  refine hK2.out _ _ (bt2 hS1 HB2.out) (fun hS2 => ?_)
  refine wpAnyH_ready (rs := [10]) (by kernel_rfl) (by simp) ?_
  refine AllReadyH.cons rfl (fun K3 hK3 => ?_) AllReadyH.nil
  refine wanted_go rfl ?_
  simp only [List.getElem_toArray, List.getElem_cons_zero, List.getElem_cons_succ]
  go_wp2
  refine hK3.out _ _ (hS2.alloc hS2.size _) (fun hS3 => ?_)
  refine wpAnyH_ready (rs := [11]) (by kernel_rfl) (by simp) ?_
  refine AllReadyH.cons rfl (fun K4 hK4 => ?_) AllReadyH.nil
  refine wanted_go rfl ?_
  simp only [List.getElem_toArray, List.getElem_cons_zero, List.getElem_cons_succ]
  go_wp2_with (go_at_call 34; refine (HJ.out _ _ (strs_new w2 [X, T])).mono ?_; rintro e w3 ⟨rfl, hb3⟩; have HB3 := Lib.hid hb3; clear hb3)
  refine hK4.out _ _ (bt2 hS3 HB3.out) (fun hS4 => ?_)
  refine wpAnyH_take (i := 12) (v := .string D) rfl (by kernel_rfl) (by kernel_rfl) (by kernel_rfl) (fun _ _ _ h => h) (Or.inl ⟨by simp [Region.wanted], fun W _ => by go_simp⟩) hS4 ?_
  simp only [List.getElem_toArray, List.getElem_cons_zero, List.getElem_cons_succ, Act.put, List.setIfInBounds_toArray, List.set_cons_zero, List.set_cons_succ]
  refine wpAnyH_done (by kernel_rfl) ?_ _
  go_wp2
  go_ret
  exact ⟨rfl, by assumption⟩

/-- What is hashed last for a chain's first j texts. -/
def hashedC (h : ByteArray → ByteArray) (l : List ByteArray) (j : Nat) : ByteArray := if j = 0 then ⟨#[]⟩ else lastS (chainS h (l.take (j - 1))) (l.getD (j - 1) ⟨#[]⟩)
theorem hashedC_zero (h : ByteArray → ByteArray) (l : List ByteArray) : hashedC h l 0 = ⟨#[]⟩ := rfl
theorem hashedC_pos (h : ByteArray → ByteArray) (l : List ByteArray) {j : Nat} (hj : j ≠ 0) : hashedC h l j = lastS (chainS h (l.take (j - 1))) (l.getD (j - 1) ⟨#[]⟩) := by unfold hashedC; rw [if_neg hj]
theorem take_snocL {l : List ByteArray} {i : Nat} (hi : i < l.length) : l.take (i + 1) = l.take i ++ [l.getD i ⟨#[]⟩] := by
  rw [List.take_add_one, List.getElem?_eq_getElem hi, List.getD_eq_getElem?_getD, List.getElem?_eq_getElem hi]; rfl
theorem chain_hashed (h : ByteArray → ByteArray) (l : List ByteArray) (j : Nat) (hj : j ≤ l.length) : chainS h (l.take j) = h (hashedC h l j) := by
  by_cases h0 : j = 0
  · subst h0; rw [List.take_zero, chain_nil, hashedC_zero]
  · obtain ⟨i, rfl⟩ : ∃ i, j = i + 1 := ⟨j - 1, by omega⟩
    rw [hashedC_pos h l h0, Nat.add_sub_cancel, take_snocL (by omega), chain_snoc]

/-- A chain's hashes, as the program keeps them: of the closure's variable 'g6'. -/
def ChHeld (h : ByteArray → ByteArray) (l : List ByteArray) (g6 : Nat) (W : World) : Prop :=
  ∃ g5 g2 b cnt cp a cap, W.cell? ⟨g6, 0, none⟩ = some (.func (.func 39) #[] #[.pointer (some ⟨g5, 0, none⟩), .pointer (some ⟨g2, 0, none⟩)]) ∧
    W.cell? ⟨g5, 0, none⟩ = some (.slice (some ⟨b, 0, none⟩) cnt cp) ∧ l.length ≤ cnt ∧ (∀ j, j < l.length → W.cell? ⟨b, j, none⟩ = some (.string (chainS h (l.take j)))) ∧
    W.cell? ⟨g2, 0, none⟩ = some (.slice a l.length cap) ∧ StrsAt W a l
theorem ChHeld.below {h : ByteArray → ByteArray} {l : List ByteArray} {g6 : Nat} {W W' : World} (hc : ChHeld h l g6 W) (hb : Below W.heap.size W W') : ChHeld h l g6 W' := by
  obtain ⟨g5, g2, b, cnt, cp, a, cap, h1, h2, h3, h4, h5, h6⟩ := hc
  have k := fun (p : Addr) (v : Value) (hv : W.cell? p = some v) => (hb.cell (p := p) (World.block_lt_of_cell? W _ hv)).trans hv
  exact ⟨g5, g2, b, cnt, cp, a, cap, k _ _ h1, k _ _ h2, h3, fun j hj => k _ _ (h4 j hj), k _ _ h5, h6.below hb⟩
theorem enters39 (args : Array Value) (w : World) : (callFunc 39 args).run Tryd.prog w = .ok (.enter 39 args) w := by kernel_rfl
theorem enters41 (args : Array Value) (w : World) : (callFunc 41 args).run Tryd.prog w = .ok (.enter 41 args) w := by kernel_rfl
theorem enters33 (args : Array Value) (w : World) : (callFunc 33 args).run Tryd.prog w = .ok (.enter 33 args) w := by kernel_rfl
theorem enters46 (args : Array Value) (w : World) : (callFunc 46 args).run Tryd.prog w = .ok (.enter 46 args) w := by kernel_rfl
theorem enters19 (args : Array Value) (w : World) : (callFunc 19 args).run Tryd.prog w = .ok (.enter 19 args) w := by kernel_rfl
theorem enters26 (args : Array Value) (w : World) : (callFunc 26 args).run Tryd.prog w = .ok (.enter 26 args) w := by kernel_rfl

theorem hashed41 (h : ByteArray → ByteArray) (n : Nat) (hh : ∀ s, (h s).size = n) (hn : n ≤ 100) (l : List ByteArray) (j : Nat) (a2 : Option Addr) (cap g6 : Nat) (w : World) (hj : j ≤ l.length) (hl : l.length ≤ 60000) (hz : ∀ t ∈ l, t.size ≤ 700000) (hc : ChHeld h l g6 w) :
    Calls Tryd.prog 41 #[.slice a2 j cap, .pointer (some ⟨g6, 0, none⟩)] w fun e w' => e = .returned (.string (hashedC h l j)) ∧ Below w.heap.size w w' := by
  by_cases h0 : j = 0
  · subst h0
    rw [hashedC_zero]
    clear hc
    go_enter Tryd.func41, Tryd.ntmps41
    go_wp2
    go_ret
    exact ⟨rfl, Below.refl _ _⟩
  · obtain ⟨i, rfl⟩ : ∃ i, j = i + 1 := ⟨j - 1, by omega⟩
    rw [hashedC_pos h l h0, Nat.add_sub_cancel]
    obtain ⟨g5, g2, b, cnt, cp, a, m, h1, h2, h3, h4, h5, h6⟩ := hc
    obtain ⟨d, off, rfl, hd, hcell⟩ := h6.some (by omega)
    obtain ⟨t, ht⟩ : ∃ t, l[i]? = some t := ⟨_, List.getElem?_eq_getElem (by omega)⟩
    have hts := hz t (List.mem_of_getElem? ht)
    rw [show l.getD i ⟨#[]⟩ = t by rw [List.getD_eq_getElem?_getD, ht]; rfl]
    have hcs := chain_size h n hh (l.take i)
    have HL := Lib.hid (link39 (chainS h (l.take i)) t i cnt l.length cp m g5 g2 b d off w (by omega) hts (by omega) (by omega) h2 (h4 i (by omega)) h5 (hcell i t ht))
    generalize lastS (chainS h (l.take i)) t = D at *
    have HE := enters39
    have e1 : ((i + 1 : Nat) : Int) = (i : Int) + 1 := by omega
    have e0 : (((i + 1 : Nat) : Int) == 0) = false := by simp; omega
    clear h2 h3 h4 h5 h6 hcell hz hh ht
    go_enter Tryd.func41, Tryd.ntmps41
    go_wp2_with (with_reducible refine HL.out.mono ?_; rintro e w1 ⟨rfl, hb1⟩; have HB1 := Lib.hid hb1; clear hb1)
    go_ret
    exact ⟨rfl, HB1.out⟩

/-- The hashes of a chain's beginnings, so many. -/
def begsS (h : ByteArray → ByteArray) (l : List ByteArray) (k : Nat) : List ByteArray := (List.range k).map (fun j => chainS h (l.take j))
theorem begsS_len (h : ByteArray → ByteArray) (l : List ByteArray) (k : Nat) : (begsS h l k).length = k := by simp [begsS]
theorem begsS_succ (h : ByteArray → ByteArray) (l : List ByteArray) (k : Nat) : begsS h l (k + 1) = begsS h l k ++ [chainS h (l.take k)] := by simp [begsS, List.range_succ]
theorem begsS_at (h : ByteArray → ByteArray) (l : List ByteArray) {k j : Nat} (hj : j < k) : (begsS h l k)[j]? = some (chainS h (l.take j)) := by simp [begsS, hj]
/-- What ofChain's loop holds. -/
def ChRel (h : ByteArray → ByteArray) (l : List ByteArray) (a : Option Addr) (cap B g5 g6 : Nat) (w : World) (k : Nat) (v : Value) (W : World) : Prop :=
  W.heap[g5]? = some (.cells #[v] 22 (0, 0)) ∧ W.heap[g6]? = some (.cells #[.func (.func 39) #[] #[.pointer (some ⟨g5, 0, none⟩), .pointer (some ⟨B, 0, none⟩)]] 64 (0, 0)) ∧
    W.heap[B]? = some (.cells #[.slice a l.length cap] 22 (0, 0)) ∧ W.ownsRow B 9 1 v (k + 1) ((begsS h l (k + 1)).map Value.string) ∧ Below B w W ∧ B ≤ W.heap.size
theorem cell_of_one {W : World} {g : Nat} {v : Value} {T : TypeId} (h : W.heap[g]? = some (.cells #[v] T (0, 0))) : W.cell? ⟨g, 0, none⟩ = some v := by
  rw [cell_of_row _ _ _ _ T (0, 0) h]; rfl
theorem ChRel.below {h : ByteArray → ByteArray} {l : List ByteArray} {a : Option Addr} {cap B g5 g6 : Nat} {w : World} {k : Nat} {v : Value} {W W' : World} (r : ChRel h l a cap B g5 g6 w k v W) (hb : Below W.heap.size W W') : ChRel h l a cap B g5 g6 w k v W' := by
  obtain ⟨h1, h2, h3, h4, h5, h6⟩ := r
  exact ⟨(hb.block _ (lt_of_block h1)).trans h1, (hb.block _ (lt_of_block h2)).trans h2, (hb.block _ (lt_of_block h3)).trans h3, own_below h4 hb, h5.trans (hb.mono h6), Nat.le_trans h6 hb.size⟩
theorem ChRel.s {h : ByteArray → ByteArray} {l : List ByteArray} {a : Option Addr} {cap B g5 g6 : Nat} {w : World} {k : Nat} {v : Value} {W : World} (r : ChRel h l a cap B g5 g6 w k v W) :
    Below B w W ∧ B ≤ W.heap.size ∧ W.heap[g6]? = some (.cells #[.func (.func 39) #[] #[.pointer (some ⟨g5, 0, none⟩), .pointer (some ⟨B, 0, none⟩)]] 64 (0, 0)) := ⟨r.2.2.2.2.1, r.2.2.2.2.2, r.2.1⟩
theorem own_shape {W : World} {B n : Nat} {v : Value} {xs : List Value} (h : W.ownsRow B 9 1 v n xs) (hn : 1 ≤ n) : ∃ g cap, v = .slice (some ⟨g, 0, none⟩) n cap := by
  rcases h.2 with ⟨_, h0⟩ | ⟨g, cap, cur, hv, _⟩
  · omega
  · exact ⟨g, cap, hv⟩
theorem heap_setCell_other {W : World} {g k : Nat} (u : Value) (h : k ≠ g) : (W.setCell ⟨g, 0, none⟩ u).heap[k]? = W.heap[k]? := by
  simp [World.setCell, Array.getElem?_modify]; intro e; exact absurd e.symm h
theorem own_set {W : World} {B n g : Nat} {v u x : Value} {xs : List Value} {T : TypeId} (h : W.ownsRow B 9 1 v n xs) (hg : W.heap[g]? = some (.cells #[x] T (0, 0))) (hT : T ≠ 9) : (W.setCell ⟨g, 0, none⟩ u).ownsRow B 9 1 v n xs := by
  have hne := own_ne h hg hT
  refine ⟨h.1, ?_⟩
  rcases h.2 with hn | ⟨b, cap, cur, rfl, h1, h2, rest⟩
  · exact .inl hn
  · refine .inr ⟨b, cap, cur, rfl, h1, ?_, rest⟩
    rw [heap_setCell_other _ (by rintro rfl; exact hne rfl)]; exact h2
/-- Behind the store of the longer row. -/
theorem ChRel.stored {h : ByteArray → ByteArray} {l : List ByteArray} {a : Option Addr} {cap B g5 g6 : Nat} {w : World} {k : Nat} {v v' : Value} {W : World}
    (e5 : W.heap[g5]? = some (.cells #[v] 22 (0, 0))) (e6 : W.heap[g6]? = some (.cells #[.func (.func 39) #[] #[.pointer (some ⟨g5, 0, none⟩), .pointer (some ⟨B, 0, none⟩)]] 64 (0, 0)))
    (e2 : W.heap[B]? = some (.cells #[.slice a l.length cap] 22 (0, 0))) (ho : W.ownsRow B 9 1 v' (k + 1 + 1) ((begsS h l (k + 1 + 1)).map Value.string)) (hb : Below B w W) (hs : B ≤ W.heap.size)
    (n6 : g6 ≠ g5) (n2 : B ≠ g5) (hB : B ≤ g5) : ChRel h l a cap B g5 g6 w (k + 1) v' (W.setCell ⟨g5, 0, none⟩ v') := by
  refine ⟨?_, (heap_setCell_other _ n6).trans e6, (heap_setCell_other _ n2).trans e2, own_set ho e5 (by decide), hb.setCell hB _, by simpa [World.setCell] using hs⟩
  have := set_blkN e5 0 v'
  simpa using this
theorem strs_le {w W : World} {a : Option Addr} {l : List ByteArray} {B : Nat} (h : StrsAt w a l) (hB : B = w.heap.size) (hb : Below B w W) : StrsAt W a l := h.below (hB ▸ hb)

theorem link_rel (n : Nat) (h1 : n ≤ 32) (l : List ByteArray) (a : Option Addr) (cap B g5 g6 : Nat) (w : World) (k gb cpb : Nat) (W : World) (hr : StrsAt w a l) (hB : B = w.heap.size)
    (R : ChRel (cutH n) l a cap B g5 g6 w k (.slice (some ⟨gb, 0, none⟩) (k + 1) cpb) W) (hk : k < l.length) (hz : ∀ t ∈ l, t.size ≤ 700000) :
    Calls Tryd.prog 39 #[.int .i64 (k : Int), .pointer (some ⟨g5, 0, none⟩), .pointer (some ⟨B, 0, none⟩)] W fun e w' => e = .returned (.string (lastS (chainS (cutH n) (l.take k)) (l.getD k ⟨#[]⟩))) ∧ Below W.heap.size W w' := by
  obtain ⟨r1, r2, r3, r4, r5, r6⟩ := R
  obtain ⟨d, off, rfl, _, hcell⟩ := (strs_le hr hB r5).some (by omega)
  obtain ⟨t, ht⟩ : ∃ t, l[k]? = some t := ⟨_, List.getElem?_eq_getElem hk⟩
  rw [show l.getD k ⟨#[]⟩ = t by rw [List.getD_eq_getElem?_getD, ht]; rfl]
  have hx := r4.cells (g := gb) rfl k (.string (chainS (cutH n) (l.take k))) (by rw [List.getElem?_map, begsS_at _ _ (by omega)]; rfl)
  rw [Addr.add_mid] at hx
  exact link39 _ t k (k + 1) l.length cpb cap g5 B gb d off W (by rw [chain_size (cutH n) n (cutH_size n h1)]; omega) (hz t (List.mem_of_getElem? ht)) (by omega) hk (cell_of_one r1) (by simpa using hx) (cell_of_one r3) (hcell k t ht)
theorem held_rel {h : ByteArray → ByteArray} {l : List ByteArray} {a : Option Addr} {cap B g5 g6 : Nat} {w : World} {k : Nat} {v : Value} {W : World} (R : ChRel h l a cap B g5 g6 w k v W) (hr : StrsAt w a l) (hB : B = w.heap.size) (hk : l.length ≤ k + 1) : ChHeld h l g6 W := by
  obtain ⟨r1, r2, r3, r4, r5, r6⟩ := R
  obtain ⟨gb, cpb, rfl⟩ := own_shape r4 (by omega)
  refine ⟨g5, B, gb, k + 1, cpb, a, cap, cell_of_one r2, cell_of_one r1, hk, fun j hj => ?_, cell_of_one r3, strs_le hr hB r5⟩
  have hx := r4.cells (g := gb) rfl j (.string (chainS h (l.take j))) (by rw [List.getElem?_map, begsS_at _ _ (by omega)]; rfl)
  rw [Addr.add_mid] at hx
  simpa using hx

set_option maxRecDepth 100000 in
set_option maxHeartbeats 1000000 in
theorem ofChain25 (n : Nat) (h0 : 1 ≤ n) (h1 : n ≤ 32) (l : List ByteArray) (a : Option Addr) (m cap : Nat) (w : World) (hl : l.length = m) (hm : m ≤ 4096) (hz : ∀ t ∈ l, t.size ≤ 700000) (hr : StrsAt w a l) (hK : KHeld w) :
    Calls Tryd.prog 25 #[.slice a m cap, .int .i64 (n : Int)] w fun e w' => ∃ g6, e = .returned (.func (.func 41) #[] #[.pointer (some ⟨g6, 0, none⟩)]) ∧ ChHeld (cutH n) l g6 w' ∧ Below w.heap.size w w' := by
  obtain ⟨i0, hi, hz0, hz1, hz2⟩ := info_parts info9
  obtain ⟨B, hB⟩ : ∃ B, B = w.heap.size := ⟨_, rfl⟩
  rw [← hB]
  have HD0 := Lib.hid (fun (W : World) (hb : Below B w W) => digest30 ⟨#[]⟩ n W h0 h1 (by decide) (KHeld_of hK (hB ▸ hb)))
  have HC := Lib.hid (show cutH n ⟨#[]⟩ = chainS (cutH n) [] from rfl)
  rw [HC.out] at HD0
  have HDG := Lib.hid (fun (x t : ByteArray) (hx : x.size ≤ 1000) (ht : t.size ≤ 700000) (W : World) (hb : Below B w W) => digest30 (lastS x t) n W h0 h1 (by have := lastS_size x t; omega) (KHeld_of hK (hB ▸ hb)))
  have HR := Lib.hid hr; have HL := Lib.hid hl; have HZ := Lib.hid hz
  have HCS := Lib.hid (chain_size (cutH n) n (cutH_size n h1))
  have HNX := Lib.hid (fun (i : Nat) (hi : i < l.length) => show cutH n (lastS (chainS (cutH n) (l.take i)) (l.getD i ⟨#[]⟩)) = chainS (cutH n) (l.take (i + 1)) by rw [take_snocL hi, chain_snoc])
  have HB := Lib.hid hB
  have HE := enters39
  clear hr hK hz hl hB HC
  go_enter Tryd.func25, Tryd.ntmps25
  go_upto_region 3 with (go_at_call 30; refine (HD0.out _ (by rw [HB.out]; exact (Below.refl _ w).alloc (Nat.le_refl _) _)).mono ?_; rintro e w1 ⟨rfl, hb1⟩; have HB1 := Lib.hid hb1; clear hb1)
  have hs1 : B < w1.heap.size := by have := HB1.out.size; simp at this; have := HB.out; omega
  have hg2 : w1.heap[B]? = some (.cells #[.slice a l.length cap] 22 (0, 0)) := by rw [HB.out, HL.out]; exact (HB1.out.block _ (by simp)).trans (heap_alloc_new w _)
  have hbw : Below B w w1 := ((Below.refl B w).alloc (by rw [HB.out]; exact Nat.le_refl _) _).trans (HB1.out.mono (by simp; have := HB.out; omega))
  rw [← HB.out]
  obtain ⟨g5, hg5⟩ : ∃ g, g = w1.heap.size + 1 := ⟨_, rfl⟩
  obtain ⟨g6, hg6⟩ : ∃ g, g = w1.heap.size + 1 + 1 := ⟨_, rfl⟩
  rw [← hg6, ← hg5]
  refine at_world (Φ := fun W => ChRel (cutH n) l a cap B g5 g6 w 0 (.slice (some ⟨w1.heap.size, 0, none⟩) 1 1) W) ?_ ?_
  · have k := three_alloc (w := w1) (A := .cells #[.string (chainS (cutH n) [])] 9) (B := .cells #[.slice (some ⟨w1.heap.size, 0, none⟩) 1 1] 22) (C := .cells #[.func (.func 39) #[] #[.pointer (some ⟨g5, 0, none⟩), .pointer (some ⟨B, 0, none⟩)]] 64)
    obtain ⟨k1, k2, k3, k4⟩ := k
    exact ⟨by rw [← hg5] at k2; exact k2, by rw [← hg6] at k3; exact k3, (k4.block B hs1).trans hg2, own_made k1 (Nat.le_of_lt hs1), hbw.trans (k4.mono (Nat.le_of_lt hs1)), Nat.le_trans (Nat.le_of_lt hs1) k4.size⟩
  have HG56 := Lib.hid (show g6 ≠ g5 by omega)
  have HG52 := Lib.hid (show B ≠ g5 by omega)
  have hBg : B ≤ g5 := by omega
  rintro W1 hR1
  have c2 := cell_of_one hR1.2.2.1
  rw [HL.out] at c2
  have HR1 := Lib.hid hR1
  clear hR1 HB1 hg2 hbw hg5 hg6
  go_upto_region 4 with (fail)
  clear c2
  go_loopw [15] (fun vi W => ∃ (k : Nat) (v : Value), (k = 0 ∨ k < m) ∧ vi = .int .i64 (k : Int) ∧ ChRel (cutH n) l a cap B g5 g6 w k v W) (fun vi _ => m - (intOf vi).toNat)
  case atStart => exact ⟨0, _, by omega, rfl, HR1.out⟩
  case round =>
    obtain ⟨k, v, hkm, rfl, hR⟩ := hrel
    obtain ⟨gb, cpb, rfl⟩ := own_shape hR.2.2.2.1 (by omega)
    have R0 : ChRel (cutH n) l a cap B g5 g6 w k (.slice (some ⟨gb, 0, none⟩) (k + 1) cpb) wr.drew := hR.below ((Below.refl _ wr).drew)
    by_cases hlt : (k : Int) < (m : Int) - 1
    · have hkl : k < l.length := by rw [HL.out]; omega
      have HLK := Lib.hid (fun (W : World) (R : ChRel (cutH n) l a cap B g5 g6 w k (.slice (some ⟨gb, 0, none⟩) (k + 1) cpb) W) => link_rel n h1 l a cap B g5 g6 w k gb cpb W HR.out HB.out R hkl HZ.out)
      have HDK := Lib.hid (fun (W : World) (R : ChRel (cutH n) l a cap B g5 g6 w k (.slice (some ⟨gb, 0, none⟩) (k + 1) cpb) W) => HDG.out (chainS (cutH n) (l.take k)) (l.getD k ⟨#[]⟩) (by rw [HCS.out]; omega) (by rw [List.getD_eq_getElem?_getD, List.getElem?_eq_getElem hkl]; exact HZ.out _ (List.getElem_mem _)) W R.2.2.2.2.1)
      have HNK := HNX.out k hkl
      obtain ⟨H1, hH1⟩ : ∃ H1, chainS (cutH n) (l.take (k + 1)) = H1 := ⟨_, rfl⟩
      rw [hH1] at HNK
      rw [HNK] at HDK
      have HL1 := Lib.hid hH1
      clear hH1 HNK
      generalize lastS (chainS (cutH n) (l.take k)) (l.getD k ⟨#[]⟩) = D at *
      clear hR
      go_upto_region 6 with (fail)
      refine wp_region_held_drew (S := fun W => Below B w W ∧ B ≤ W.heap.size ∧ W.heap[g6]? = some (.cells #[.func (.func 39) #[] #[.pointer (some ⟨g5, 0, none⟩), .pointer (some ⟨B, 0, none⟩)]] 64 (0, 0))) (by kernel_rfl) R0.s (fun hS => ?_)
      refine wpAnyH_take (i := 1) (v := .func (.func 39) #[] #[.pointer (some ⟨g5, 0, none⟩), .pointer (some ⟨B, 0, none⟩)]) rfl (by kernel_rfl) (by kernel_rfl) (by kernel_rfl) (fun _ _ _ h => h) (Or.inl ⟨by simp [Region.wanted], fun W hW => by have h1 := cell_of_one hW.2.2; go_simp⟩) hS ?_
      simp only [List.getElem_toArray, List.getElem_cons_zero, List.getElem_cons_succ, Act.put, List.setIfInBounds_toArray, List.set_cons_zero, List.set_cons_succ]
      refine wpAnyH_take (i := 2) (v := .int .i64 (k : Int)) rfl (by kernel_rfl) (by kernel_rfl) (by kernel_rfl) (fun _ _ _ h => h) (Or.inl ⟨by simp [Region.wanted], fun W hW => by go_simp⟩) hS ?_
      simp only [List.getElem_toArray, List.getElem_cons_zero, List.getElem_cons_succ, Act.put, List.setIfInBounds_toArray, List.set_cons_zero, List.set_cons_succ]
      refine wpAnyH_take (i := 4) (v := .int .i64 (n : Int)) rfl (by kernel_rfl) (by kernel_rfl) (by kernel_rfl) (fun _ _ _ h => h) (Or.inl ⟨by simp [Region.wanted], fun W hW => by go_simp⟩) hS ?_
      simp only [List.getElem_toArray, List.getElem_cons_zero, List.getElem_cons_succ, Act.put, List.setIfInBounds_toArray, List.set_cons_zero, List.set_cons_succ]
      refine wpAnyH_ready (rs := [0,3]) (by kernel_rfl) (by simp) ?_
      refine AllReadyH.cons rfl (fun K hK => ?_) (AllReadyH.cons rfl (fun K hK => ?_) AllReadyH.nil)
      · refine wanted_go rfl ?_
        simp only [List.getElem_toArray, List.getElem_cons_zero]
        have c5 := cell_of_one R0.1
        go_wp2
        refine hK.out _ _ hS (fun _ => ?_)
        clear c5
        refine wpAnyH_ready (rs := [3]) (by kernel_rfl) (by simp) ?_
        refine AllReadyH.cons rfl (fun K hK => ?_) AllReadyH.nil
        refine wanted_go rfl ?_
        simp only [List.getElem_toArray, List.getElem_cons_zero, List.getElem_cons_succ]
        go_wp2_with (with_reducible refine (HLK.out _ R0).mono ?_; rintro e w2 ⟨rfl, hb2⟩; have HB2 := Lib.hid hb2; clear hb2)
        have R2 := ChRel.below R0 HB2.out
        refine hK.out _ _ R2.s (fun hS2 => ?_)
        refine wpAnyH_ready (rs := [5]) (by kernel_rfl) (by simp) ?_
        refine AllReadyH.cons rfl (fun K hK => ?_) AllReadyH.nil
        refine wanted_go rfl ?_
        simp only [List.getElem_toArray, List.getElem_cons_zero, List.getElem_cons_succ]
        go_wp2_with (go_at_call 30; refine (HDK.out _ R2).mono ?_; rintro e w3 ⟨rfl, hb3⟩; have HB3 := Lib.hid hb3; clear hb3)
        have R3 := ChRel.below R2 HB3.out
        refine hK.out _ _ R3.s (fun hS3 => ?_)
        refine wpAnyH_ready (rs := [6]) (by kernel_rfl) (by simp) ?_
        refine AllReadyH.cons rfl (fun K hK => ?_) AllReadyH.nil
        refine wanted_go rfl ?_
        simp only [List.getElem_toArray, List.getElem_cons_zero, List.getElem_cons_succ]
        go_wp2
        have R4 := ChRel.below R3 ((Below.refl _ w3).alloc (Nat.le_refl _) (.cells #[.string H1] 9))
        refine hK.out _ _ R4.s (fun hS4 => ?_)
        refine wpAnyH_ready (rs := [7]) (by kernel_rfl) (by simp) ?_
        refine AllReadyH.cons rfl (fun K hK => ?_) AllReadyH.nil
        refine wanted_go rfl ?_
        simp only [List.getElem_toArray, List.getElem_cons_zero, List.getElem_cons_succ]
        refine wp_append_own _ _ _ 22 rfl B 9 i0 (.string ⟨#[]⟩) 1 16 Tryd.underlying22 hi hz0 hz1 hz2 rfl (by decide) _ _ _ rfl R4.2.2.2.1 ⟨w3.heap.size, 0, none⟩ 1 1 [.string H1] rfl rfl (new_one _ _ _) (one_cell_str _) (by unfold maxLen; omega) (by omega) R4.2.2.2.2.2 ?_
        intro v' w4 ho4 hg4 _
        obtain ⟨gb', cpb', hv'⟩ := own_shape ho4 (by omega)
        subst hv'
        have e5 := (hg4.block g5 (lt_of_block R4.1) (own_ne R4.2.2.2.1 R4.1 (by decide))).trans R4.1
        have e6 := (hg4.block g6 (lt_of_block R4.2.1) (own_ne R4.2.2.2.1 R4.2.1 (by decide))).trans R4.2.1
        have e2 := (hg4.block B (lt_of_block R4.2.2.1) (own_ne R4.2.2.2.1 R4.2.2.1 (by decide))).trans R4.2.2.1
        have eb := R4.2.2.2.2.1.grown hg4 R4.2.2.2.2.2 (own_block_ge R4.2.2.2.1)
        have es := Nat.le_trans R4.2.2.2.2.2 hg4.size
        refine hK.out _ _ ⟨eb, es, e6⟩ (fun hS5 => ?_)
        refine wpAnyH_ready (rs := [8]) (by kernel_rfl) (by simp) ?_
        refine AllReadyH.cons rfl (fun K hK => ?_) AllReadyH.nil
        refine wanted_go rfl ?_
        simp only [List.getElem_toArray, List.getElem_cons_zero, List.getElem_cons_succ]
        have c5 := cell_of_one e5
        have f5 := free_of_blkN e5 0
        have HE5 := Lib.hid e5; have HE6 := Lib.hid e6; have HE2 := Lib.hid e2; have HO4 := Lib.hid ho4; have HEB := Lib.hid eb
        clear e5 e6 e2 ho4 eb hg4
        go_wp2
        have R6 := ChRel.stored (k := k) HE5.out HE6.out HE2.out (by rw [begsS_succ, HL1.out]; simpa using HO4.out) HEB.out es HG56.out HG52.out (by omega)
        refine hK.out _ _ R6.s (fun hS6 => ?_)
        refine wpAnyH_done (by kernel_rfl) ?_ _
        go_wp2
        go_roundw
        case rel => exact ⟨k + 1, _, by omega, by go_num, R6⟩
        case measure => simp [intOf]; omega
      · refine wanted_go rfl ?_
        simp only [List.getElem_toArray, List.getElem_cons_zero, List.getElem_cons_succ]
        go_wp2_with (with_reducible refine (HLK.out _ R0).mono ?_; rintro e w2 ⟨rfl, hb2⟩; have HB2 := Lib.hid hb2; clear hb2)
        have R2 := ChRel.below R0 HB2.out
        refine hK.out _ _ R2.s (fun hS2 => ?_)
        refine wpAnyH_ready (rs := [0,5]) (by kernel_rfl) (by simp) ?_
        refine AllReadyH.cons rfl (fun K hK => ?_) (AllReadyH.cons rfl (fun K hK => ?_) AllReadyH.nil)
        · refine wanted_go rfl ?_
          simp only [List.getElem_toArray, List.getElem_cons_zero]
          have c5 := cell_of_one R2.1
          go_wp2
          refine hK.out _ _ hS2 (fun _ => ?_)
          clear c5
          refine wpAnyH_ready (rs := [5]) (by kernel_rfl) (by simp) ?_
          refine AllReadyH.cons rfl (fun K hK => ?_) AllReadyH.nil
          refine wanted_go rfl ?_
          simp only [List.getElem_toArray, List.getElem_cons_zero, List.getElem_cons_succ]
          go_wp2_with (go_at_call 30; refine (HDK.out _ R2).mono ?_; rintro e w3 ⟨rfl, hb3⟩; have HB3 := Lib.hid hb3; clear hb3)
          have R3 := ChRel.below R2 HB3.out
          refine hK.out _ _ R3.s (fun hS3 => ?_)
          refine wpAnyH_ready (rs := [6]) (by kernel_rfl) (by simp) ?_
          refine AllReadyH.cons rfl (fun K hK => ?_) AllReadyH.nil
          refine wanted_go rfl ?_
          simp only [List.getElem_toArray, List.getElem_cons_zero, List.getElem_cons_succ]
          go_wp2
          have R4 := ChRel.below R3 ((Below.refl _ w3).alloc (Nat.le_refl _) (.cells #[.string H1] 9))
          refine hK.out _ _ R4.s (fun hS4 => ?_)
          refine wpAnyH_ready (rs := [7]) (by kernel_rfl) (by simp) ?_
          refine AllReadyH.cons rfl (fun K hK => ?_) AllReadyH.nil
          refine wanted_go rfl ?_
          simp only [List.getElem_toArray, List.getElem_cons_zero, List.getElem_cons_succ]
          refine wp_append_own _ _ _ 22 rfl B 9 i0 (.string ⟨#[]⟩) 1 16 Tryd.underlying22 hi hz0 hz1 hz2 rfl (by decide) _ _ _ rfl R4.2.2.2.1 ⟨w3.heap.size, 0, none⟩ 1 1 [.string H1] rfl rfl (new_one _ _ _) (one_cell_str _) (by unfold maxLen; omega) (by omega) R4.2.2.2.2.2 ?_
          intro v' w4 ho4 hg4 _
          obtain ⟨gb', cpb', hv'⟩ := own_shape ho4 (by omega)
          subst hv'
          have e5 := (hg4.block g5 (lt_of_block R4.1) (own_ne R4.2.2.2.1 R4.1 (by decide))).trans R4.1
          have e6 := (hg4.block g6 (lt_of_block R4.2.1) (own_ne R4.2.2.2.1 R4.2.1 (by decide))).trans R4.2.1
          have e2 := (hg4.block B (lt_of_block R4.2.2.1) (own_ne R4.2.2.2.1 R4.2.2.1 (by decide))).trans R4.2.2.1
          have eb := R4.2.2.2.2.1.grown hg4 R4.2.2.2.2.2 (own_block_ge R4.2.2.2.1)
          have es := Nat.le_trans R4.2.2.2.2.2 hg4.size
          refine hK.out _ _ ⟨eb, es, e6⟩ (fun hS5 => ?_)
          refine wpAnyH_ready (rs := [8]) (by kernel_rfl) (by simp) ?_
          refine AllReadyH.cons rfl (fun K hK => ?_) AllReadyH.nil
          refine wanted_go rfl ?_
          simp only [List.getElem_toArray, List.getElem_cons_zero, List.getElem_cons_succ]
          have c5 := cell_of_one e5
          have f5 := free_of_blkN e5 0
          have HE5 := Lib.hid e5; have HE6 := Lib.hid e6; have HE2 := Lib.hid e2; have HO4 := Lib.hid ho4; have HEB := Lib.hid eb
          clear e5 e6 e2 ho4 eb hg4
          go_wp2
          have R6 := ChRel.stored (k := k) HE5.out HE6.out HE2.out (by rw [begsS_succ, HL1.out]; simpa using HO4.out) HEB.out es HG56.out HG52.out (by omega)
          refine hK.out _ _ R6.s (fun hS6 => ?_)
          refine wpAnyH_done (by kernel_rfl) ?_ _
          go_wp2
          go_roundw
          case rel => exact ⟨k + 1, _, by omega, by go_num, R6⟩
          case measure => simp [intOf]; omega
        · refine wanted_go rfl ?_
          simp only [List.getElem_toArray, List.getElem_cons_zero, List.getElem_cons_succ]
          go_wp2_with (go_at_call 30; refine (HDK.out _ R2).mono ?_; rintro e w3 ⟨rfl, hb3⟩; have HB3 := Lib.hid hb3; clear hb3)
          have R3 := ChRel.below R2 HB3.out
          refine hK.out _ _ R3.s (fun hS3 => ?_)
          refine wpAnyH_ready (rs := [0,6]) (by kernel_rfl) (by simp) ?_
          refine AllReadyH.cons rfl (fun K hK => ?_) (AllReadyH.cons rfl (fun K hK => ?_) AllReadyH.nil)
          · refine wanted_go rfl ?_
            simp only [List.getElem_toArray, List.getElem_cons_zero]
            have c5 := cell_of_one R3.1
            go_wp2
            refine hK.out _ _ hS3 (fun _ => ?_)
            clear c5
            refine wpAnyH_ready (rs := [6]) (by kernel_rfl) (by simp) ?_
            refine AllReadyH.cons rfl (fun K hK => ?_) AllReadyH.nil
            refine wanted_go rfl ?_
            simp only [List.getElem_toArray, List.getElem_cons_zero, List.getElem_cons_succ]
            go_wp2
            have R4 := ChRel.below R3 ((Below.refl _ w3).alloc (Nat.le_refl _) (.cells #[.string H1] 9))
            refine hK.out _ _ R4.s (fun hS4 => ?_)
            refine wpAnyH_ready (rs := [7]) (by kernel_rfl) (by simp) ?_
            refine AllReadyH.cons rfl (fun K hK => ?_) AllReadyH.nil
            refine wanted_go rfl ?_
            simp only [List.getElem_toArray, List.getElem_cons_zero, List.getElem_cons_succ]
            refine wp_append_own _ _ _ 22 rfl B 9 i0 (.string ⟨#[]⟩) 1 16 Tryd.underlying22 hi hz0 hz1 hz2 rfl (by decide) _ _ _ rfl R4.2.2.2.1 ⟨w3.heap.size, 0, none⟩ 1 1 [.string H1] rfl rfl (new_one _ _ _) (one_cell_str _) (by unfold maxLen; omega) (by omega) R4.2.2.2.2.2 ?_
            intro v' w4 ho4 hg4 _
            obtain ⟨gb', cpb', hv'⟩ := own_shape ho4 (by omega)
            subst hv'
            have e5 := (hg4.block g5 (lt_of_block R4.1) (own_ne R4.2.2.2.1 R4.1 (by decide))).trans R4.1
            have e6 := (hg4.block g6 (lt_of_block R4.2.1) (own_ne R4.2.2.2.1 R4.2.1 (by decide))).trans R4.2.1
            have e2 := (hg4.block B (lt_of_block R4.2.2.1) (own_ne R4.2.2.2.1 R4.2.2.1 (by decide))).trans R4.2.2.1
            have eb := R4.2.2.2.2.1.grown hg4 R4.2.2.2.2.2 (own_block_ge R4.2.2.2.1)
            have es := Nat.le_trans R4.2.2.2.2.2 hg4.size
            refine hK.out _ _ ⟨eb, es, e6⟩ (fun hS5 => ?_)
            refine wpAnyH_ready (rs := [8]) (by kernel_rfl) (by simp) ?_
            refine AllReadyH.cons rfl (fun K hK => ?_) AllReadyH.nil
            refine wanted_go rfl ?_
            simp only [List.getElem_toArray, List.getElem_cons_zero, List.getElem_cons_succ]
            have c5 := cell_of_one e5
            have f5 := free_of_blkN e5 0
            have HE5 := Lib.hid e5; have HE6 := Lib.hid e6; have HE2 := Lib.hid e2; have HO4 := Lib.hid ho4; have HEB := Lib.hid eb
            clear e5 e6 e2 ho4 eb hg4
            go_wp2
            have R6 := ChRel.stored (k := k) HE5.out HE6.out HE2.out (by rw [begsS_succ, HL1.out]; simpa using HO4.out) HEB.out es HG56.out HG52.out (by omega)
            refine hK.out _ _ R6.s (fun hS6 => ?_)
            refine wpAnyH_done (by kernel_rfl) ?_ _
            go_wp2
            go_roundw
            case rel => exact ⟨k + 1, _, by omega, by go_num, R6⟩
            case measure => simp [intOf]; omega
          · refine wanted_go rfl ?_
            simp only [List.getElem_toArray, List.getElem_cons_zero, List.getElem_cons_succ]
            go_wp2
            have R4 := ChRel.below R3 ((Below.refl _ w3).alloc (Nat.le_refl _) (.cells #[.string H1] 9))
            refine hK.out _ _ R4.s (fun hS4 => ?_)
            refine wpAnyH_ready (rs := [0]) (by kernel_rfl) (by simp) ?_
            refine AllReadyH.cons rfl (fun K hK => ?_) AllReadyH.nil
            refine wanted_go rfl ?_
            simp only [List.getElem_toArray, List.getElem_cons_zero]
            have c5 := cell_of_one R4.1
            go_wp2
            refine hK.out _ _ hS4 (fun _ => ?_)
            clear c5
            refine wpAnyH_ready (rs := [7]) (by kernel_rfl) (by simp) ?_
            refine AllReadyH.cons rfl (fun K hK => ?_) AllReadyH.nil
            refine wanted_go rfl ?_
            simp only [List.getElem_toArray, List.getElem_cons_zero, List.getElem_cons_succ]
            refine wp_append_own _ _ _ 22 rfl B 9 i0 (.string ⟨#[]⟩) 1 16 Tryd.underlying22 hi hz0 hz1 hz2 rfl (by decide) _ _ _ rfl R4.2.2.2.1 ⟨w3.heap.size, 0, none⟩ 1 1 [.string H1] rfl rfl (new_one _ _ _) (one_cell_str _) (by unfold maxLen; omega) (by omega) R4.2.2.2.2.2 ?_
            intro v' w4 ho4 hg4 _
            obtain ⟨gb', cpb', hv'⟩ := own_shape ho4 (by omega)
            subst hv'
            have e5 := (hg4.block g5 (lt_of_block R4.1) (own_ne R4.2.2.2.1 R4.1 (by decide))).trans R4.1
            have e6 := (hg4.block g6 (lt_of_block R4.2.1) (own_ne R4.2.2.2.1 R4.2.1 (by decide))).trans R4.2.1
            have e2 := (hg4.block B (lt_of_block R4.2.2.1) (own_ne R4.2.2.2.1 R4.2.2.1 (by decide))).trans R4.2.2.1
            have eb := R4.2.2.2.2.1.grown hg4 R4.2.2.2.2.2 (own_block_ge R4.2.2.2.1)
            have es := Nat.le_trans R4.2.2.2.2.2 hg4.size
            refine hK.out _ _ ⟨eb, es, e6⟩ (fun hS5 => ?_)
            refine wpAnyH_ready (rs := [8]) (by kernel_rfl) (by simp) ?_
            refine AllReadyH.cons rfl (fun K hK => ?_) AllReadyH.nil
            refine wanted_go rfl ?_
            simp only [List.getElem_toArray, List.getElem_cons_zero, List.getElem_cons_succ]
            have c5 := cell_of_one e5
            have f5 := free_of_blkN e5 0
            have HE5 := Lib.hid e5; have HE6 := Lib.hid e6; have HE2 := Lib.hid e2; have HO4 := Lib.hid ho4; have HEB := Lib.hid eb
            clear e5 e6 e2 ho4 eb hg4
            go_wp2
            have R6 := ChRel.stored (k := k) HE5.out HE6.out HE2.out (by rw [begsS_succ, HL1.out]; simpa using HO4.out) HEB.out es HG56.out HG52.out (by omega)
            refine hK.out _ _ R6.s (fun hS6 => ?_)
            refine wpAnyH_done (by kernel_rfl) ?_ _
            go_wp2
            go_roundw
            case rel => exact ⟨k + 1, _, by omega, by go_num, R6⟩
            case measure => simp [intOf]; omega
    · have hk2 : l.length ≤ k + 1 := by rw [HL.out]; omega
      have HH := Lib.hid (held_rel hR HR.out HB.out hk2)
      have HBB := Lib.hid hR.2.2.2.2.1
      clear R0 hR
      go_wp2
      go_ret
      exact ⟨g6, rfl, HH.out, HBB.out⟩
end Go.Proofs.YtalgailclcefdaaDoor
