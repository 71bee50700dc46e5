/- The library's search in a list of structs by their keys, and its comparer: contracts. -/
import Derived.Test.YtellifcjamedkaaGreatMDp
import Derived.Test.YtellifcjamedkaaGreatMEa
namespace Go.Proofs.YtellifcjamedkaaGreat
open Go.RowKit Base Base2
open List renaming getElem_toArray → lgT, getElem_cons_zero → lgZ, getElem_cons_succ → lgS, setIfInBounds_toArray → lsT, set_cons_zero → lsZ, set_cons_succ → lsS
/-- Structs that lie in a block of their kind. -/
def RowsK (t : TypeId) (n : Nat) (W : World) (a : Option Addr) (L : List (List Value)) : Prop := L = [] ∨ ∃ g o cs, a = some ⟨g, o, none⟩ ∧ W.heap[g]? = some (.cells cs t (0, 0)) ∧ ∀ (i : Nat) (xs : List Value), L[i]? = some xs → ∀ (j : Nat) (u : Value), xs[j]? = some u → cs[o + i * n + j]? = some u
theorem RowsK.turn {t : TypeId} {n : Nat} {W W' : World} {a : Option Addr} {L : List (List Value)} {S : Nat → Obj → Prop} (h : RowsK t n W a L) (hT : NoT [t] S) (ht : TurnsK S W W') : RowsK t n W' a L := by
  rcases h with h | ⟨g, o, cs, h1, h2, h3⟩
  · exact .inl h
  · exact .inr ⟨g, o, cs, h1, hT.at ht h2 (by simp), h3⟩
theorem RowsK.below {t : TypeId} {n : Nat} {W W' : World} {a : Option Addr} {L : List (List Value)} (h : RowsK t n W a L) (hb : Below W.heap.size W W') : RowsK t n W' a L := h.turn (S := fun _ _ => False) (fun _ _ _ _ a => a.elim) (.below hb)
theorem RowsK.at {t : TypeId} {n : Nat} {W : World} {a : Option Addr} {L : List (List Value)} (h : RowsK t n W a L) {i : Nat} {xs : List Value} (hi : L[i]? = some xs) : ∃ g o, a = some ⟨g, o, none⟩ ∧ ∀ W', Below W.heap.size W W' → ∀ (j : Nat) (u : Value), xs[j]? = some u → W'.cell? ⟨g, o + i * n + j, none⟩ = some u := by
  rcases h with h | ⟨g, o, cs, h1, h2, h3⟩
  · rw [h] at hi; cases hi
  · exact ⟨g, o, h1, fun W' hb j u hu => by rw [cell_of_row _ _ _ _ _ _ ((hb.block g (lt_of_blk h2)).trans h2)]; exact h3 i xs hi j u hu⟩
theorem infoChD : (Tryz.prog.info? 59).map (·.size) = some 5 := by kernel_rfl
theorem load_rowD {W : World} {g o : Nat} {u0 u1 u2 u3 : Value} (h0 : W.cell? ⟨g, o, none⟩ = some u0) (h1 : W.cell? ⟨g, o + 1, none⟩ = some u1) (h2 : W.cell? ⟨g, o + 2, none⟩ = some u2) (h3 : W.cell? ⟨g, o + 3, none⟩ = some u3) : (Instr.loadAt 58 (.pointer (some ⟨g, o, none⟩))).run Tryz.prog W = .ok (.agg #[u0, u1, u2, u3]) W := by
  have := load_at (P := Tryz.prog) W g o 58 [u0, u1, u2, u3] _ (fun j u hu => ?_) Tryz.underlying58 rfl (by rw [infoRow]; rfl)
  · simpa using this
  · match j, hu with
    | 0, hu => cases hu; exact h0
    | 1, hu => cases hu; exact h1
    | 2, hu => cases hu; exact h2
    | 3, hu => cases hu; exact h3
    | j + 4, hu => simp at hu
theorem load_chD {W : World} {g o : Nat} {u0 u1 u2 u3 u4 : Value} (h0 : W.cell? ⟨g, o, none⟩ = some u0) (h1 : W.cell? ⟨g, o + 1, none⟩ = some u1) (h2 : W.cell? ⟨g, o + 2, none⟩ = some u2) (h3 : W.cell? ⟨g, o + 3, none⟩ = some u3) (h4 : W.cell? ⟨g, o + 4, none⟩ = some u4) : (Instr.loadAt 59 (.pointer (some ⟨g, o, none⟩))).run Tryz.prog W = .ok (.agg #[u0, u1, u2, u3, u4]) W := by
  have := load_at (P := Tryz.prog) W g o 59 [u0, u1, u2, u3, u4] _ (fun j u hu => ?_) Tryz.underlying59 rfl (by rw [infoChD]; rfl)
  · simpa using this
  · match j, hu with
    | 0, hu => cases hu; exact h0
    | 1, hu => cases hu; exact h1
    | 2, hu => cases hu; exact h2
    | 3, hu => cases hu; exact h3
    | 4, hu => cases hu; exact h4
    | j + 5, hu => simp at hu
theorem load_keyD {W : World} {g : Nat} {l a b : Int} (h : W.heap[g]? = some (.cells #[.int .i64 l, .int .i64 a, .int .i64 b] 56 (0, 0))) : (Instr.loadAt 56 (.pointer (some ⟨g, 0, none⟩))).run Tryz.prog W = .ok (.agg #[.int .i64 l, .int .i64 a, .int .i64 b]) W := by
  have := load_at (P := Tryz.prog) W g 0 56 [.int .i64 l, .int .i64 a, .int .i64 b] _ (fun j u hu => ?_) Tryz.underlying56 rfl (by rw [infoKey]; rfl)
  · simpa using this
  · match j, hu with
    | 0, hu => cases hu; rw [cell_of_row _ _ _ _ _ _ h]; rfl
    | 1, hu => cases hu; rw [cell_of_row _ _ _ _ _ _ h]; rfl
    | 2, hu => cases hu; rw [cell_of_row _ _ _ _ _ _ h]; rfl
    | j + 3, hu => simp at hu
theorem methRow (k : Nat) (u0 u1 u2 u3 : Value) (W : World) : (method (k + 1) 58 (.agg #[u0, u1, u2, u3]) "engross/diff.at").run Tryz.prog W = .ok (119, .agg #[u0, u1, u2, u3]) W := by kernel_rfl
theorem methCh (k : Nat) (u0 u1 u2 u3 u4 : Value) (W : World) : (method (k + 1) 59 (.agg #[u0, u1, u2, u3, u4]) "engross/diff.at").run Tryz.prog W = .ok (24, .agg #[u0, u1, u2, u3, u4]) W := by kernel_rfl
set_option maxRecDepth 100000 in
set_option maxHeartbeats 4000000 in
theorem byRow (l a b : Int) (A : Option Addr) (n c : Nat) (p q r : Int) (w : World) :
    Calls Tryz.prog 68 #[.agg #[.int .i64 l, .int .i64 a, .int .i64 b, .slice A n c], .agg #[.int .i64 p, .int .i64 q, .int .i64 r]] w fun e w' => e = .returned (.int .i64 (cmpK l a b p q r)) ∧ Below w.heap.size w w' := by
  have keep3 : ∀ {W W' : World}, (fun W => W.heap[w.heap.size]? = some (.cells #[.int .i64 l, .int .i64 a, .int .i64 b, .slice A n c] 58 (0, 0)) ∧ W.heap[w.heap.size + 1]? = some (.cells #[.int .i64 p, .int .i64 q, .int .i64 r] 56 (0, 0)) ∧ Below w.heap.size w W) W → Below W.heap.size W W' → (fun W => W.heap[w.heap.size]? = some (.cells #[.int .i64 l, .int .i64 a, .int .i64 b, .slice A n c] 58 (0, 0)) ∧ W.heap[w.heap.size + 1]? = some (.cells #[.int .i64 p, .int .i64 q, .int .i64 r] 56 (0, 0)) ∧ Below w.heap.size w W) W' := fun h hb => ⟨(hb.block _ (lt_of_blk h.1)).trans h.1, (hb.block _ (lt_of_blk h.2.1)).trans h.2.1, h.2.2.trans (hb.mono h.2.2.size)⟩
  have hS0 : (fun W => W.heap[w.heap.size]? = some (.cells #[.int .i64 l, .int .i64 a, .int .i64 b, .slice A n c] 58 (0, 0)) ∧ W.heap[w.heap.size + 1]? = some (.cells #[.int .i64 p, .int .i64 q, .int .i64 r] 56 (0, 0)) ∧ Below w.heap.size w W) ((w.alloc (.cells #[.int .i64 l, .int .i64 a, .int .i64 b, .slice A n c] 58)).alloc (.cells #[.int .i64 p, .int .i64 q, .int .i64 r] 56)).drew := ⟨two_new.1, two_new.2, (((Below.refl _ w).alloc (Nat.le_refl _) _).alloc (by simp) _).drew⟩
  have hm := methRow
  go_enter Tryz.func68, Tryz.ntmps68
  go_wp2
  refine wp_region_held_drew (S := fun W => W.heap[w.heap.size]? = some (.cells #[.int .i64 l, .int .i64 a, .int .i64 b, .slice A n c] 58 (0, 0)) ∧ W.heap[w.heap.size + 1]? = some (.cells #[.int .i64 p, .int .i64 q, .int .i64 r] 56 (0, 0)) ∧ Below w.heap.size w W) (by kernel_rfl) (hS0) (fun hS => ?_)
  refine wpAnyH_take (i := 0) (v := .agg #[.int .i64 l, .int .i64 a, .int .i64 b, .slice A n c]) rfl (by kernel_rfl) (by kernel_rfl) (by kernel_rfl) (fun _ _ _ h => h) (yieldsIf_load rfl 58 (.tmp 2) rfl (.pointer (some ⟨w.heap.size, 0, none⟩)) _ rfl (fun W hW => load_rowD (o := 0) (by rw [cell_of_row _ _ _ _ _ _ hW.1]; rfl) (by rw [cell_of_row _ _ _ _ _ _ hW.1]; rfl) (by rw [cell_of_row _ _ _ _ _ _ hW.1]; rfl) (by rw [cell_of_row _ _ _ _ _ _ hW.1]; rfl))) hS ?_
  simp only [lgT, lgZ, Act.put, lsT, lsZ, lsS]
  refine wpAnyH_take (i := 1) (v := .iface 58 (.agg #[.int .i64 l, .int .i64 a, .int .i64 b, .slice A n c])) rfl (by kernel_rfl) (by kernel_rfl) (by kernel_rfl) (fun _ _ _ h => h) (Or.inl ⟨by simp [Region.wanted], fun W _ => by go_simp⟩) hS ?_
  simp only [lgT, lgZ, lgS, Act.put, lsT, lsZ, lsS]
  refine wpAnyH_take (i := 3) (v := .agg #[.int .i64 p, .int .i64 q, .int .i64 r]) rfl (by kernel_rfl) (by kernel_rfl) (by kernel_rfl) (fun _ _ _ h => h) (yieldsIf_load rfl 56 (.tmp 3) rfl (.pointer (some ⟨w.heap.size + 1, 0, none⟩)) _ rfl (fun W hW => load_keyD hW.2.1)) hS ?_
  simp only [lgT, lgZ, lgS, Act.put, lsT, lsZ, lsS]
  refine wpAnyH_ready (rs := [2]) (by kernel_rfl) (by simp) ?_
  refine AllReadyH.cons rfl (fun K1 hK1 => ?_) AllReadyH.nil
  refine wanted_go rfl ?_
  simp only [lgT, lgZ, lgS]
  go_wp2_with (go_at_call 119; refine (atRow l a b A n c _).mono ?_; rintro e w1 ⟨rfl, hb1⟩; have HB1 := Lib.hid hb1; clear hb1)
  refine hK1.out _ _ (keep3 hS HB1.out) (fun hS1 => ?_)
  refine wpAnyH_ready (rs := [4]) (by kernel_rfl) (by simp) ?_
  refine AllReadyH.cons rfl (fun K2 hK2 => ?_) AllReadyH.nil
  refine wanted_go rfl ?_
  simp only [lgT, lgZ, lgS]
  go_wp2_with (go_at_call 42; refine (compareD l a b p q r _).mono ?_; rintro e w2 ⟨rfl, hb2⟩; have HB2 := Lib.hid hb2; clear hb2)
  refine hK2.out _ _ (keep3 hS1 HB2.out) (fun hS2 => ?_)
  refine wpAnyH_take (i := 5) (v := .int .i64 (cmpK l a b p q r)) rfl (by kernel_rfl) (by kernel_rfl) (by kernel_rfl) (fun _ _ _ h => h) (Or.inl ⟨by simp [Region.wanted], fun W _ => by go_simp⟩) hS2 ?_
  simp only [lgT, lgZ, lgS, Act.put, lsT, lsZ, lsS]
  refine wpAnyH_done (by kernel_rfl) ?_ _
  go_wp2
  go_ret
  exact ⟨rfl, hS2.2.2⟩
set_option maxRecDepth 100000 in
set_option maxHeartbeats 4000000 in
theorem byCh (l a b : Int) (A : Option Addr) (n c : Nat) (B : Option Addr) (m d : Nat) (p q r : Int) (w : World) :
    Calls Tryz.prog 48 #[.agg #[.int .i64 l, .int .i64 a, .int .i64 b, .slice A n c, .slice B m d], .agg #[.int .i64 p, .int .i64 q, .int .i64 r]] w fun e w' => e = .returned (.int .i64 (cmpK l a b p q r)) ∧ Below w.heap.size w w' := by
  have keep3 : ∀ {W W' : World}, (fun W => W.heap[w.heap.size]? = some (.cells #[.int .i64 l, .int .i64 a, .int .i64 b, .slice A n c, .slice B m d] 59 (0, 0)) ∧ W.heap[w.heap.size + 1]? = some (.cells #[.int .i64 p, .int .i64 q, .int .i64 r] 56 (0, 0)) ∧ Below w.heap.size w W) W → Below W.heap.size W W' → (fun W => W.heap[w.heap.size]? = some (.cells #[.int .i64 l, .int .i64 a, .int .i64 b, .slice A n c, .slice B m d] 59 (0, 0)) ∧ W.heap[w.heap.size + 1]? = some (.cells #[.int .i64 p, .int .i64 q, .int .i64 r] 56 (0, 0)) ∧ Below w.heap.size w W) W' := fun h hb => ⟨(hb.block _ (lt_of_blk h.1)).trans h.1, (hb.block _ (lt_of_blk h.2.1)).trans h.2.1, h.2.2.trans (hb.mono h.2.2.size)⟩
  have hS0 : (fun W => W.heap[w.heap.size]? = some (.cells #[.int .i64 l, .int .i64 a, .int .i64 b, .slice A n c, .slice B m d] 59 (0, 0)) ∧ W.heap[w.heap.size + 1]? = some (.cells #[.int .i64 p, .int .i64 q, .int .i64 r] 56 (0, 0)) ∧ Below w.heap.size w W) ((w.alloc (.cells #[.int .i64 l, .int .i64 a, .int .i64 b, .slice A n c, .slice B m d] 59)).alloc (.cells #[.int .i64 p, .int .i64 q, .int .i64 r] 56)).drew := ⟨two_new.1, two_new.2, (((Below.refl _ w).alloc (Nat.le_refl _) _).alloc (by simp) _).drew⟩
  have hm := methCh
  go_enter Tryz.func48, Tryz.ntmps48
  go_wp2
  refine wp_region_held_drew (S := fun W => W.heap[w.heap.size]? = some (.cells #[.int .i64 l, .int .i64 a, .int .i64 b, .slice A n c, .slice B m d] 59 (0, 0)) ∧ W.heap[w.heap.size + 1]? = some (.cells #[.int .i64 p, .int .i64 q, .int .i64 r] 56 (0, 0)) ∧ Below w.heap.size w W) (by kernel_rfl) (hS0) (fun hS => ?_)
  refine wpAnyH_take (i := 0) (v := .agg #[.int .i64 l, .int .i64 a, .int .i64 b, .slice A n c, .slice B m d]) rfl (by kernel_rfl) (by kernel_rfl) (by kernel_rfl) (fun _ _ _ h => h) (yieldsIf_load rfl 59 (.tmp 2) rfl (.pointer (some ⟨w.heap.size, 0, none⟩)) _ rfl (fun W hW => load_chD (o := 0) (by rw [cell_of_row _ _ _ _ _ _ hW.1]; rfl) (by rw [cell_of_row _ _ _ _ _ _ hW.1]; rfl) (by rw [cell_of_row _ _ _ _ _ _ hW.1]; rfl) (by rw [cell_of_row _ _ _ _ _ _ hW.1]; rfl) (by rw [cell_of_row _ _ _ _ _ _ hW.1]; rfl))) hS ?_
  simp only [lgT, lgZ, Act.put, lsT, lsZ, lsS]
  refine wpAnyH_take (i := 1) (v := .iface 59 (.agg #[.int .i64 l, .int .i64 a, .int .i64 b, .slice A n c, .slice B m d])) rfl (by kernel_rfl) (by kernel_rfl) (by kernel_rfl) (fun _ _ _ h => h) (Or.inl ⟨by simp [Region.wanted], fun W _ => by go_simp⟩) hS ?_
  simp only [lgT, lgZ, lgS, Act.put, lsT, lsZ, lsS]
  refine wpAnyH_take (i := 3) (v := .agg #[.int .i64 p, .int .i64 q, .int .i64 r]) rfl (by kernel_rfl) (by kernel_rfl) (by kernel_rfl) (fun _ _ _ h => h) (yieldsIf_load rfl 56 (.tmp 3) rfl (.pointer (some ⟨w.heap.size + 1, 0, none⟩)) _ rfl (fun W hW => load_keyD hW.2.1)) hS ?_
  simp only [lgT, lgZ, lgS, Act.put, lsT, lsZ, lsS]
  refine wpAnyH_ready (rs := [2]) (by kernel_rfl) (by simp) ?_
  refine AllReadyH.cons rfl (fun K1 hK1 => ?_) AllReadyH.nil
  refine wanted_go rfl ?_
  simp only [lgT, lgZ, lgS]
  go_wp2_with (go_at_call 24; refine (atCh l a b A n c B m d _).mono ?_; rintro e w1 ⟨rfl, hb1⟩; have HB1 := Lib.hid hb1; clear hb1)
  refine hK1.out _ _ (keep3 hS HB1.out) (fun hS1 => ?_)
  refine wpAnyH_ready (rs := [4]) (by kernel_rfl) (by simp) ?_
  refine AllReadyH.cons rfl (fun K2 hK2 => ?_) AllReadyH.nil
  refine wanted_go rfl ?_
  simp only [lgT, lgZ, lgS]
  go_wp2_with (go_at_call 42; refine (compareD l a b p q r _).mono ?_; rintro e w2 ⟨rfl, hb2⟩; have HB2 := Lib.hid hb2; clear hb2)
  refine hK2.out _ _ (keep3 hS1 HB2.out) (fun hS2 => ?_)
  refine wpAnyH_take (i := 5) (v := .int .i64 (cmpK l a b p q r)) rfl (by kernel_rfl) (by kernel_rfl) (by kernel_rfl) (fun _ _ _ h => h) (Or.inl ⟨by simp [Region.wanted], fun W _ => by go_simp⟩) hS2 ?_
  simp only [lgT, lgZ, lgS, Act.put, lsT, lsZ, lsS]
  refine wpAnyH_done (by kernel_rfl) ?_ _
  go_wp2
  go_ret
  exact ⟨rfl, hS2.2.2⟩
set_option maxRecDepth 100000 in
set_option maxHeartbeats 8000000 in
theorem searchRow (aa : Option Addr) (c : Nat) (L : List RowV) (l a b : Int) (w : World) (hr : RowsK 58 4 w aa (L.map RowV.cells)) (hs : RiseK (L.map (fun x : RowV => keyT x.r))) (hL : L.length ≤ 10000) :
    Calls Tryz.prog 67 #[.slice aa L.length c, .agg #[.int .i64 l, .int .i64 a, .int .i64 b], .func (.func 68) #[] #[]] w fun e w' => e = .returned (.tuple #[.int .i64 (posK (l, a, b) (L.map (fun x : RowV => keyT x.r)) : Int), .bool (foundK (l, a, b) (L.map (fun x : RowV => keyT x.r)))]) ∧ Below w.heap.size w w' := by
  have HROW := Lib.hid hr
  have HP := Lib.hid (fun (i : Nat) (x : RowV) (h : L[i]? = some x) => posK_iff (q := (l, a, b)) hs (i := i) (k := (fun x : RowV => keyT x.r) x) (by rw [List.getElem?_map, h]; rfl))
  have HF1 := Lib.hid (fun (x : RowV) (h : L[posK (l, a, b) (L.map (fun x : RowV => keyT x.r))]? = some x) => foundK_some (q := (l, a, b)) (l := L.map (fun x : RowV => keyT x.r)) (k := (fun x : RowV => keyT x.r) x) (by rw [List.getElem?_map, h]; rfl))
  have HF0 := Lib.hid (fun (h : L[posK (l, a, b) (L.map (fun x : RowV => keyT x.r))]? = none) => foundK_none (q := (l, a, b)) (l := L.map (fun x : RowV => keyT x.r)) (by rw [List.getElem?_map, h]; rfl))
  have hpl : posK (l, a, b) (L.map (fun x : RowV => keyT x.r)) ≤ L.length := by have := posK_le (l, a, b) (L.map (fun x : RowV => keyT x.r)); rw [List.length_map] at this; exact this
  have HKC := Lib.hid (heap_alloc_new w (.cells #[.int .i64 l, .int .i64 a, .int .i64 b] 56))
  have HB0 := Lib.hid (show Below w.heap.size w (w.alloc (.cells #[.int .i64 l, .int .i64 a, .int .i64 b] 56)) from (Below.refl _ w).alloc (Nat.le_refl _) _)
  clear hr hs
  generalize foundK (l, a, b) (L.map (fun x : RowV => keyT x.r)) = FO at *
  generalize posK (l, a, b) (L.map (fun x : RowV => keyT x.r)) = PO at *
  obtain ⟨n, hn⟩ : ∃ n, L.length = n := ⟨_, rfl⟩
  rw [hn] at hL hpl ⊢
  go_enter Tryz.func67, Tryz.ntmps67
  go_wp2
  go_loopw [9, 10] (fun vi vj W => ∃ i j : Nat, vi = .int .i64 (i : Int) ∧ vj = .int .i64 (j : Int) ∧ i ≤ PO ∧ PO ≤ j ∧ j ≤ n ∧ Below (w.alloc (.cells #[.int .i64 l, .int .i64 a, .int .i64 b] 56)).heap.size (w.alloc (.cells #[.int .i64 l, .int .i64 a, .int .i64 b] 56)) W) (fun vi vj _ => (intOf vj).toNat - (intOf vi).toNat)
  case atStart => exact ⟨0, n, rfl, rfl, Nat.zero_le _, hpl, Nat.le_refl _, Below.refl _ _⟩
  case round =>
    obtain ⟨i, j, rfl, rfl, hi, hj, hjl, hb⟩ := hrel
    have HLO1 := Lib.hid hb
    have HLO := Lib.hid (HB0.out.trans (hb.mono (by simp)))
    clear hb
    by_cases hlt : i < j
    · obtain ⟨m, hm⟩ : ∃ m, (i + j) / 2 = m := ⟨_, rfl⟩
      have hmn : m < n := by omega
      obtain ⟨x, hx⟩ : ∃ x, L[m]? = some x := ⟨L[m]'(by omega), by simp [show m < L.length by omega]⟩
      obtain ⟨⟨xl, xa, xb, xv⟩, A, C⟩ := x
      obtain ⟨g, o, ha, hcs⟩ := HROW.out.at (i := m) (xs := #[.int .i64 xl, .int .i64 xa, .int .i64 xb, .slice A xv.length C].toList) (by rw [List.getElem?_map, hx]; rfl)
      have HCS := Lib.hid hcs
      subst ha
      have hmi : ((i : Int) + (j : Int)) / 2 = (m : Int) := by omega
      obtain ⟨Z, hZ⟩ : ∃ zz, cmpK xl xa xb l a b = zz := ⟨_, rfl⟩
      have HQ := Lib.hid (show Z < 0 ↔ m < PO by rw [← hZ]; exact HP.out m _ hx)
      have HBY := Lib.hid (fun W => byRow xl xa xb A xv.length C l a b W)
      rw [hZ] at HBY
      have HM := Lib.hid hm
      clear hZ hm hx hcs
      by_cases hz : Z < 0
      · go_wp2
        refine wp_region_held_drew (S := fun W => Below wr.heap.size wr W) (by kernel_rfl) ((Below.refl _ _).drew) (fun hS => ?_)
        refine wpAnyH_take (i := 0) (v := .func (.func 68) #[] #[]) rfl (by kernel_rfl) (by kernel_rfl) (by kernel_rfl) (fun _ _ _ h => h) (Or.inl ⟨by simp [Region.wanted], fun W _ => by go_simp⟩) hS ?_
        simp only [lgT, lgZ, Act.put, lsT, lsZ, lsS]
        refine wpAnyH_take (i := 1) (v := .slice (some ⟨g, o, none⟩) n c) rfl (by kernel_rfl) (by kernel_rfl) (by kernel_rfl) (fun _ _ _ h => h) (Or.inl ⟨by simp [Region.wanted], fun W _ => by go_simp⟩) hS ?_
        simp only [lgT, lgZ, lgS, Act.put, lsT, lsZ, lsS]
        refine wpAnyH_take (i := 2) (v := .int .i64 (m : Int)) rfl (by kernel_rfl) (by kernel_rfl) (by kernel_rfl) (fun _ _ _ h => h) (Or.inl ⟨by simp [Region.wanted], fun W _ => by go_simp⟩) hS ?_
        simp only [lgT, lgZ, lgS, Act.put, lsT, lsZ, lsS]
        refine wpAnyH_take (i := 3) (v := .pointer (some ⟨g, o + m * 4, none⟩)) rfl (by kernel_rfl) (by kernel_rfl) (by kernel_rfl) (fun _ _ _ h => h) (Or.inl ⟨by simp [Region.wanted], fun W _ => by go_simp⟩) hS ?_
        simp only [lgT, lgZ, lgS, Act.put, lsT, lsZ, lsS]
        refine wpAnyH_take (i := 4) (v := .agg #[.int .i64 xl, .int .i64 xa, .int .i64 xb, .slice A xv.length C]) rfl (by kernel_rfl) (by kernel_rfl) (by kernel_rfl) (fun _ _ _ h => h) (yieldsIf_load rfl 58 (.tmp 27) rfl (.pointer (some ⟨g, o + m * 4, none⟩)) _ rfl (fun W hW => load_rowD (HCS.out W (HLO.out.trans (hW.mono HLO.out.size)) 0 _ rfl) (HCS.out W (HLO.out.trans (hW.mono HLO.out.size)) 1 _ rfl) (HCS.out W (HLO.out.trans (hW.mono HLO.out.size)) 2 _ rfl) (HCS.out W (HLO.out.trans (hW.mono HLO.out.size)) 3 _ rfl))) hS ?_
        simp only [lgT, lgZ, lgS, Act.put, lsT, lsZ, lsS]
        refine wpAnyH_take (i := 5) (v := .agg #[.int .i64 l, .int .i64 a, .int .i64 b]) rfl (by kernel_rfl) (by kernel_rfl) (by kernel_rfl) (fun _ _ _ h => h) (yieldsIf_load rfl 56 (.tmp 4) rfl (.pointer (some ⟨w.heap.size, 0, none⟩)) _ rfl (fun W hW => load_keyD (((HLO1.out.trans (hW.mono HLO1.out.size)).block _ (lt_of_blk HKC.out)).trans HKC.out))) hS ?_
        simp only [lgT, lgZ, lgS, Act.put, lsT, lsZ, lsS]
        refine wpAnyH_ready (rs := [6]) (by kernel_rfl) (by simp) ?_
        refine AllReadyH.cons rfl (fun K1 hK1 => ?_) AllReadyH.nil
        refine wanted_go rfl ?_
        simp only [lgT, lgZ, lgS]
        go_wp2_with (go_at_call 68; refine (HBY.out _).mono ?_; rintro e w2 ⟨rfl, hb2⟩; have HB2 := Lib.hid hb2; clear hb2)
        refine hK1.out _ _ ((hS).trans (HB2.out.mono (hS).size)) (fun hS1 => ?_)
        refine wpAnyH_take (i := 7) (v := .bool true) rfl (by kernel_rfl) (by kernel_rfl) (by kernel_rfl) (fun _ _ _ h => h) (Or.inl ⟨by simp [Region.wanted], fun W _ => by go_simp⟩) hS1 ?_
        simp only [lgT, lgZ, lgS, Act.put, lsT, lsZ, lsS]
        refine wpAnyH_done (by kernel_rfl) ?_ _
        have HB3 := Lib.hid (HLO1.out.trans (hS1.mono HLO1.out.size))
        go_wp2
        go_roundw
        case rel => exact ⟨m + 1, j, by go_num, rfl, by have := HQ.out.1 hz; omega, hj, hjl, HB3.out⟩
        case measure => have := HM.out; simp [intOf]; omega
      · go_wp2
        refine wp_region_held_drew (S := fun W => Below wr.heap.size wr W) (by kernel_rfl) ((Below.refl _ _).drew) (fun hS => ?_)
        refine wpAnyH_take (i := 0) (v := .func (.func 68) #[] #[]) rfl (by kernel_rfl) (by kernel_rfl) (by kernel_rfl) (fun _ _ _ h => h) (Or.inl ⟨by simp [Region.wanted], fun W _ => by go_simp⟩) hS ?_
        simp only [lgT, lgZ, Act.put, lsT, lsZ, lsS]
        refine wpAnyH_take (i := 1) (v := .slice (some ⟨g, o, none⟩) n c) rfl (by kernel_rfl) (by kernel_rfl) (by kernel_rfl) (fun _ _ _ h => h) (Or.inl ⟨by simp [Region.wanted], fun W _ => by go_simp⟩) hS ?_
        simp only [lgT, lgZ, lgS, Act.put, lsT, lsZ, lsS]
        refine wpAnyH_take (i := 2) (v := .int .i64 (m : Int)) rfl (by kernel_rfl) (by kernel_rfl) (by kernel_rfl) (fun _ _ _ h => h) (Or.inl ⟨by simp [Region.wanted], fun W _ => by go_simp⟩) hS ?_
        simp only [lgT, lgZ, lgS, Act.put, lsT, lsZ, lsS]
        refine wpAnyH_take (i := 3) (v := .pointer (some ⟨g, o + m * 4, none⟩)) rfl (by kernel_rfl) (by kernel_rfl) (by kernel_rfl) (fun _ _ _ h => h) (Or.inl ⟨by simp [Region.wanted], fun W _ => by go_simp⟩) hS ?_
        simp only [lgT, lgZ, lgS, Act.put, lsT, lsZ, lsS]
        refine wpAnyH_take (i := 4) (v := .agg #[.int .i64 xl, .int .i64 xa, .int .i64 xb, .slice A xv.length C]) rfl (by kernel_rfl) (by kernel_rfl) (by kernel_rfl) (fun _ _ _ h => h) (yieldsIf_load rfl 58 (.tmp 27) rfl (.pointer (some ⟨g, o + m * 4, none⟩)) _ rfl (fun W hW => load_rowD (HCS.out W (HLO.out.trans (hW.mono HLO.out.size)) 0 _ rfl) (HCS.out W (HLO.out.trans (hW.mono HLO.out.size)) 1 _ rfl) (HCS.out W (HLO.out.trans (hW.mono HLO.out.size)) 2 _ rfl) (HCS.out W (HLO.out.trans (hW.mono HLO.out.size)) 3 _ rfl))) hS ?_
        simp only [lgT, lgZ, lgS, Act.put, lsT, lsZ, lsS]
        refine wpAnyH_take (i := 5) (v := .agg #[.int .i64 l, .int .i64 a, .int .i64 b]) rfl (by kernel_rfl) (by kernel_rfl) (by kernel_rfl) (fun _ _ _ h => h) (yieldsIf_load rfl 56 (.tmp 4) rfl (.pointer (some ⟨w.heap.size, 0, none⟩)) _ rfl (fun W hW => load_keyD (((HLO1.out.trans (hW.mono HLO1.out.size)).block _ (lt_of_blk HKC.out)).trans HKC.out))) hS ?_
        simp only [lgT, lgZ, lgS, Act.put, lsT, lsZ, lsS]
        refine wpAnyH_ready (rs := [6]) (by kernel_rfl) (by simp) ?_
        refine AllReadyH.cons rfl (fun K1 hK1 => ?_) AllReadyH.nil
        refine wanted_go rfl ?_
        simp only [lgT, lgZ, lgS]
        go_wp2_with (go_at_call 68; refine (HBY.out _).mono ?_; rintro e w2 ⟨rfl, hb2⟩; have HB2 := Lib.hid hb2; clear hb2)
        refine hK1.out _ _ ((hS).trans (HB2.out.mono (hS).size)) (fun hS1 => ?_)
        refine wpAnyH_take (i := 7) (v := .bool false) rfl (by kernel_rfl) (by kernel_rfl) (by kernel_rfl) (fun _ _ _ h => h) (Or.inl ⟨by simp [Region.wanted], fun W _ => by go_simp⟩) hS1 ?_
        simp only [lgT, lgZ, lgS, Act.put, lsT, lsZ, lsS]
        refine wpAnyH_done (by kernel_rfl) ?_ _
        have HB3 := Lib.hid (HLO1.out.trans (hS1.mono HLO1.out.size))
        go_wp2
        go_roundw
        case rel => exact ⟨i, m, rfl, by go_num, hi, by have := HM.out; exact Nat.le_of_not_lt (fun h => by have := HQ.out.2 h; omega), by omega, HB3.out⟩
        case measure => have := HM.out; simp [intOf]; omega
    · have hij : i = PO := by omega
      subst hij
      by_cases hiL : i < n
      · obtain ⟨x, hx⟩ : ∃ x, L[i]? = some x := ⟨L[i]'(by omega), by simp [show i < L.length by omega]⟩
        obtain ⟨⟨xl, xa, xb, xv⟩, A, C⟩ := x
        obtain ⟨g, o, ha, hcs⟩ := HROW.out.at (i := i) (xs := #[.int .i64 xl, .int .i64 xa, .int .i64 xb, .slice A xv.length C].toList) (by rw [List.getElem?_map, hx]; rfl)
        have HCS := Lib.hid hcs
        subst ha
        obtain ⟨Z, hZ⟩ : ∃ zz, cmpK xl xa xb l a b = zz := ⟨_, rfl⟩
        have HF := Lib.hid (show FO = (Z == 0) by rw [← hZ]; exact HF1.out _ hx)
        have HBY := Lib.hid (fun W => byRow xl xa xb A xv.length C l a b W)
        rw [hZ] at HBY
        clear hZ hx hcs
        go_wp2
        refine wp_region_held_drew (S := fun W => Below wr.heap.size wr W) (by kernel_rfl) ((Below.refl _ _).drew) (fun hS => ?_)
        refine wpAnyH_take (i := 0) (v := .int .i64 (i : Int)) rfl (by kernel_rfl) (by kernel_rfl) (by kernel_rfl) (fun _ _ _ h => h) (Or.inl ⟨by simp [Region.wanted], fun W _ => by go_simp⟩) hS ?_
        simp only [lgT, lgZ, Act.put, lsT, lsZ, lsS]
        refine wpAnyH_take (i := 1) (v := .int .i64 (i : Int)) rfl (by kernel_rfl) (by kernel_rfl) (by kernel_rfl) (fun _ _ _ h => h) (Or.inl ⟨by simp [Region.wanted], fun W _ => by go_simp⟩) hS ?_
        simp only [lgT, lgZ, lgS, Act.put, lsT, lsZ, lsS]
        refine wpAnyH_take (i := 2) (v := .int .i64 (n : Int)) rfl (by kernel_rfl) (by kernel_rfl) (by kernel_rfl) (fun _ _ _ h => h) (Or.inl ⟨by simp [Region.wanted], fun W _ => by go_simp⟩) hS ?_
        simp only [lgT, lgZ, lgS, Act.put, lsT, lsZ, lsS]
        refine wpAnyH_take (i := 3) (v := .bool true) rfl (by kernel_rfl) (by kernel_rfl) (by kernel_rfl) (fun _ _ _ h => h) (Or.inl ⟨by simp [Region.wanted], fun W _ => by go_simp⟩) hS ?_
        simp only [lgT, lgZ, lgS, Act.put, lsT, lsZ, lsS]
        refine wpAnyH_take (i := 4) (v := .bool true) rfl (by kernel_rfl) (by kernel_rfl) (by kernel_rfl) (fun _ _ _ h => h) (Or.inl ⟨by simp [Region.wanted], fun W _ => by go_simp⟩) hS ?_
        simp only [lgT, lgZ, lgS, Act.put, lsT, lsZ, lsS]
        refine wpAnyH_take (i := 5) (v := .func (.func 68) #[] #[]) rfl (by kernel_rfl) (by kernel_rfl) (by kernel_rfl) (fun _ _ _ h => h) (Or.inl ⟨by rfl, fun W _ => by go_simp⟩) hS ?_
        simp only [lgT, lgZ, lgS, Act.put, lsT, lsZ, lsS]
        refine wpAnyH_take (i := 6) (v := .slice (some ⟨g, o, none⟩) n c) rfl (by kernel_rfl) (by kernel_rfl) (by kernel_rfl) (fun _ _ _ h => h) (Or.inl ⟨by rfl, fun W _ => by go_simp⟩) hS ?_
        simp only [lgT, lgZ, lgS, Act.put, lsT, lsZ, lsS]
        refine wpAnyH_take (i := 7) (v := .int .i64 (i : Int)) rfl (by kernel_rfl) (by kernel_rfl) (by kernel_rfl) (fun _ _ _ h => h) (Or.inl ⟨by rfl, fun W _ => by go_simp⟩) hS ?_
        simp only [lgT, lgZ, lgS, Act.put, lsT, lsZ, lsS]
        refine wpAnyH_take (i := 8) (v := .pointer (some ⟨g, o + i * 4, none⟩)) rfl (by kernel_rfl) (by kernel_rfl) (by kernel_rfl) (fun _ _ _ h => h) (Or.inl ⟨by rfl, fun W _ => by go_simp⟩) hS ?_
        simp only [lgT, lgZ, lgS, Act.put, lsT, lsZ, lsS]
        refine wpAnyH_take (i := 9) (v := .agg #[.int .i64 xl, .int .i64 xa, .int .i64 xb, .slice A xv.length C]) rfl (by kernel_rfl) (by kernel_rfl) (by kernel_rfl) (fun _ _ _ h => h) (yields_atD (by rfl) 58 (.tmp 43) rfl (.pointer (some ⟨g, o + i * 4, none⟩)) _ rfl (fun W hW => load_rowD (HCS.out W (HLO.out.trans (hW.mono HLO.out.size)) 0 _ rfl) (HCS.out W (HLO.out.trans (hW.mono HLO.out.size)) 1 _ rfl) (HCS.out W (HLO.out.trans (hW.mono HLO.out.size)) 2 _ rfl) (HCS.out W (HLO.out.trans (hW.mono HLO.out.size)) 3 _ rfl))) hS ?_
        simp only [lgT, lgZ, lgS, Act.put, lsT, lsZ, lsS]
        refine wpAnyH_take (i := 10) (v := .agg #[.int .i64 l, .int .i64 a, .int .i64 b]) rfl (by kernel_rfl) (by kernel_rfl) (by kernel_rfl) (fun _ _ _ h => h) (yields_atD (by rfl) 56 (.tmp 4) rfl (.pointer (some ⟨w.heap.size, 0, none⟩)) _ rfl (fun W hW => load_keyD (((HLO1.out.trans (hW.mono HLO1.out.size)).block _ (lt_of_blk HKC.out)).trans HKC.out))) hS ?_
        simp only [lgT, lgZ, lgS, Act.put, lsT, lsZ, lsS]
        refine wpAnyH_ready (rs := [11]) (by kernel_rfl) (by simp) ?_
        refine AllReadyH.cons rfl (fun K1 hK1 => ?_) AllReadyH.nil
        rw [if_pos (by rfl)]
        simp only [lgT, lgZ, lgS]
        go_wp2_with (go_at_call 68; refine (HBY.out _).mono ?_; rintro e w2 ⟨rfl, hb2⟩; have HB2 := Lib.hid hb2; clear hb2)
        refine hK1.out _ _ ((hS).trans (HB2.out.mono (hS).size)) (fun hS1 => ?_)
        refine wpAnyH_take (i := 12) (v := .bool (Z == 0)) rfl (by kernel_rfl) (by kernel_rfl) (by kernel_rfl) (fun _ _ _ h => h) (Or.inl ⟨by rfl, fun W _ => by go_simp⟩) hS1 ?_
        simp only [lgT, lgZ, lgS, Act.put, lsT, lsZ, lsS]
        refine wpAnyH_take (i := 13) (v := .bool (Z == 0)) rfl (by kernel_rfl) (by kernel_rfl) (by kernel_rfl) (fun _ _ _ h => h) (Or.inl ⟨by simp [Region.wanted], fun W _ => by go_simp⟩) hS1 ?_
        simp only [lgT, lgZ, lgS, Act.put, lsT, lsZ, lsS]
        refine wpAnyH_take (i := 14) (v := .int .i64 (i : Int)) rfl (by kernel_rfl) (by kernel_rfl) (by kernel_rfl) (fun _ _ _ h => h) (Or.inl ⟨by simp [Region.wanted], fun W _ => by go_simp⟩) hS1 ?_
        simp only [lgT, lgZ, lgS, Act.put, lsT, lsZ, lsS]
        refine wpAnyH_take (i := 15) (v := .bool (Z == 0)) rfl (by kernel_rfl) (by kernel_rfl) (by kernel_rfl) (fun _ _ _ h => h) (Or.inl ⟨by simp [Region.wanted], fun W _ => by go_simp⟩) hS1 ?_
        simp only [lgT, lgZ, lgS, Act.put, lsT, lsZ, lsS]
        refine wpAnyH_done (by kernel_rfl) ?_ _
        go_wp2
        have hf := HF.out
        subst hf
        go_ret2
        exact ⟨rfl, HLO.out.trans (hS1.mono HLO.out.size)⟩
      · have HF := Lib.hid (HF0.out (List.getElem?_eq_none (by omega)))
        go_wp2
        refine wp_region_held_drew (S := fun W => Below wr.heap.size wr W) (by kernel_rfl) ((Below.refl _ _).drew) (fun hS => ?_)
        refine wpAnyH_take (i := 0) (v := .int .i64 (i : Int)) rfl (by kernel_rfl) (by kernel_rfl) (by kernel_rfl) (fun _ _ _ h => h) (Or.inl ⟨by simp [Region.wanted], fun W _ => by go_simp⟩) hS ?_
        simp only [lgT, lgZ, Act.put, lsT, lsZ, lsS]
        refine wpAnyH_take (i := 1) (v := .int .i64 (i : Int)) rfl (by kernel_rfl) (by kernel_rfl) (by kernel_rfl) (fun _ _ _ h => h) (Or.inl ⟨by simp [Region.wanted], fun W _ => by go_simp⟩) hS ?_
        simp only [lgT, lgZ, lgS, Act.put, lsT, lsZ, lsS]
        refine wpAnyH_take (i := 2) (v := .int .i64 (n : Int)) rfl (by kernel_rfl) (by kernel_rfl) (by kernel_rfl) (fun _ _ _ h => h) (Or.inl ⟨by simp [Region.wanted], fun W _ => by go_simp⟩) hS ?_
        simp only [lgT, lgZ, lgS, Act.put, lsT, lsZ, lsS]
        refine wpAnyH_take (i := 3) (v := .bool false) rfl (by kernel_rfl) (by kernel_rfl) (by kernel_rfl) (fun _ _ _ h => h) (Or.inl ⟨by simp [Region.wanted], fun W _ => by go_simp⟩) hS ?_
        simp only [lgT, lgZ, lgS, Act.put, lsT, lsZ, lsS]
        refine wpAnyH_take (i := 4) (v := .bool false) rfl (by kernel_rfl) (by kernel_rfl) (by kernel_rfl) (fun _ _ _ h => h) (Or.inl ⟨by simp [Region.wanted], fun W _ => by go_simp⟩) hS ?_
        simp only [lgT, lgZ, lgS, Act.put, lsT, lsZ, lsS]
        refine wpAnyH_take (i := 5) (v := undef) rfl (by kernel_rfl) (by kernel_rfl) (by kernel_rfl) (fun _ _ _ h => h) (Or.inr ⟨by rfl, rfl⟩) hS ?_
        simp only [lgT, lgZ, lgS, Act.put, lsT, lsZ, lsS]
        refine wpAnyH_take (i := 6) (v := undef) rfl (by kernel_rfl) (by kernel_rfl) (by kernel_rfl) (fun _ _ _ h => h) (Or.inr ⟨by rfl, rfl⟩) hS ?_
        simp only [lgT, lgZ, lgS, Act.put, lsT, lsZ, lsS]
        refine wpAnyH_take (i := 7) (v := undef) rfl (by kernel_rfl) (by kernel_rfl) (by kernel_rfl) (fun _ _ _ h => h) (Or.inr ⟨by rfl, rfl⟩) hS ?_
        simp only [lgT, lgZ, lgS, Act.put, lsT, lsZ, lsS]
        refine wpAnyH_take (i := 8) (v := undef) rfl (by kernel_rfl) (by kernel_rfl) (by kernel_rfl) (fun _ _ _ h => h) (Or.inr ⟨by rfl, rfl⟩) hS ?_
        simp only [lgT, lgZ, lgS, Act.put, lsT, lsZ, lsS]
        refine wpAnyH_take (i := 9) (v := undef) rfl (by kernel_rfl) (by kernel_rfl) (by kernel_rfl) (fun _ _ _ h => h) (Or.inr ⟨by rfl, rfl⟩) hS ?_
        simp only [lgT, lgZ, lgS, Act.put, lsT, lsZ, lsS]
        refine wpAnyH_take (i := 10) (v := undef) rfl (by kernel_rfl) (by kernel_rfl) (by kernel_rfl) (fun _ _ _ h => h) (Or.inr ⟨by rfl, rfl⟩) hS ?_
        simp only [lgT, lgZ, lgS, Act.put, lsT, lsZ, lsS]
        refine wpAnyH_take (i := 11) (v := undef) rfl (by kernel_rfl) (by kernel_rfl) (by kernel_rfl) (fun _ _ _ h => h) (Or.inr ⟨by rfl, rfl⟩) hS ?_
        simp only [lgT, lgZ, lgS, Act.put, lsT, lsZ, lsS]
        refine wpAnyH_take (i := 12) (v := undef) rfl (by kernel_rfl) (by kernel_rfl) (by kernel_rfl) (fun _ _ _ h => h) (Or.inr ⟨by rfl, rfl⟩) hS ?_
        simp only [lgT, lgZ, lgS, Act.put, lsT, lsZ, lsS]
        refine wpAnyH_take (i := 13) (v := .bool false) rfl (by kernel_rfl) (by kernel_rfl) (by kernel_rfl) (fun _ _ _ h => h) (Or.inl ⟨by simp [Region.wanted], fun W _ => by go_simp⟩) hS ?_
        simp only [lgT, lgZ, lgS, Act.put, lsT, lsZ, lsS]
        refine wpAnyH_take (i := 14) (v := .int .i64 (i : Int)) rfl (by kernel_rfl) (by kernel_rfl) (by kernel_rfl) (fun _ _ _ h => h) (Or.inl ⟨by simp [Region.wanted], fun W _ => by go_simp⟩) hS ?_
        simp only [lgT, lgZ, lgS, Act.put, lsT, lsZ, lsS]
        refine wpAnyH_take (i := 15) (v := .bool false) rfl (by kernel_rfl) (by kernel_rfl) (by kernel_rfl) (fun _ _ _ h => h) (Or.inl ⟨by simp [Region.wanted], fun W _ => by go_simp⟩) hS ?_
        simp only [lgT, lgZ, lgS, Act.put, lsT, lsZ, lsS]
        refine wpAnyH_done (by kernel_rfl) ?_ _
        go_wp2
        have hf := HF.out
        subst hf
        go_ret2
        exact ⟨rfl, HLO.out.drew⟩
set_option maxRecDepth 100000 in
set_option maxHeartbeats 8000000 in
theorem searchCh (aa : Option Addr) (c : Nat) (L : List ChV) (l a b : Int) (w : World) (hr : RowsK 59 5 w aa (L.map ChV.cells)) (hs : RiseK (L.map (fun x : ChV => keyC x.c))) (hL : L.length ≤ 10000) :
    Calls Tryz.prog 47 #[.slice aa L.length c, .agg #[.int .i64 l, .int .i64 a, .int .i64 b], .func (.func 48) #[] #[]] w fun e w' => e = .returned (.tuple #[.int .i64 (posK (l, a, b) (L.map (fun x : ChV => keyC x.c)) : Int), .bool (foundK (l, a, b) (L.map (fun x : ChV => keyC x.c)))]) ∧ Below w.heap.size w w' := by
  have HROW := Lib.hid hr
  have HP := Lib.hid (fun (i : Nat) (x : ChV) (h : L[i]? = some x) => posK_iff (q := (l, a, b)) hs (i := i) (k := (fun x : ChV => keyC x.c) x) (by rw [List.getElem?_map, h]; rfl))
  have HF1 := Lib.hid (fun (x : ChV) (h : L[posK (l, a, b) (L.map (fun x : ChV => keyC x.c))]? = some x) => foundK_some (q := (l, a, b)) (l := L.map (fun x : ChV => keyC x.c)) (k := (fun x : ChV => keyC x.c) x) (by rw [List.getElem?_map, h]; rfl))
  have HF0 := Lib.hid (fun (h : L[posK (l, a, b) (L.map (fun x : ChV => keyC x.c))]? = none) => foundK_none (q := (l, a, b)) (l := L.map (fun x : ChV => keyC x.c)) (by rw [List.getElem?_map, h]; rfl))
  have hpl : posK (l, a, b) (L.map (fun x : ChV => keyC x.c)) ≤ L.length := by have := posK_le (l, a, b) (L.map (fun x : ChV => keyC x.c)); rw [List.length_map] at this; exact this
  have HKC := Lib.hid (heap_alloc_new w (.cells #[.int .i64 l, .int .i64 a, .int .i64 b] 56))
  have HB0 := Lib.hid (show Below w.heap.size w (w.alloc (.cells #[.int .i64 l, .int .i64 a, .int .i64 b] 56)) from (Below.refl _ w).alloc (Nat.le_refl _) _)
  clear hr hs
  generalize foundK (l, a, b) (L.map (fun x : ChV => keyC x.c)) = FO at *
  generalize posK (l, a, b) (L.map (fun x : ChV => keyC x.c)) = PO at *
  obtain ⟨n, hn⟩ : ∃ n, L.length = n := ⟨_, rfl⟩
  rw [hn] at hL hpl ⊢
  go_enter Tryz.func47, Tryz.ntmps47
  go_wp2
  go_loopw [9, 10] (fun vi vj W => ∃ i j : Nat, vi = .int .i64 (i : Int) ∧ vj = .int .i64 (j : Int) ∧ i ≤ PO ∧ PO ≤ j ∧ j ≤ n ∧ Below (w.alloc (.cells #[.int .i64 l, .int .i64 a, .int .i64 b] 56)).heap.size (w.alloc (.cells #[.int .i64 l, .int .i64 a, .int .i64 b] 56)) W) (fun vi vj _ => (intOf vj).toNat - (intOf vi).toNat)
  case atStart => exact ⟨0, n, rfl, rfl, Nat.zero_le _, hpl, Nat.le_refl _, Below.refl _ _⟩
  case round =>
    obtain ⟨i, j, rfl, rfl, hi, hj, hjl, hb⟩ := hrel
    have HLO1 := Lib.hid hb
    have HLO := Lib.hid (HB0.out.trans (hb.mono (by simp)))
    clear hb
    by_cases hlt : i < j
    · obtain ⟨m, hm⟩ : ∃ m, (i + j) / 2 = m := ⟨_, rfl⟩
      have hmn : m < n := by omega
      obtain ⟨x, hx⟩ : ∃ x, L[m]? = some x := ⟨L[m]'(by omega), by simp [show m < L.length by omega]⟩
      obtain ⟨⟨xl, xa, xb, xv, yv⟩, A, C, D, E⟩ := x
      obtain ⟨g, o, ha, hcs⟩ := HROW.out.at (i := m) (xs := #[.int .i64 xl, .int .i64 xa, .int .i64 xb, .slice A xv.length C, .slice D yv.length E].toList) (by rw [List.getElem?_map, hx]; rfl)
      have HCS := Lib.hid hcs
      subst ha
      have hmi : ((i : Int) + (j : Int)) / 2 = (m : Int) := by omega
      obtain ⟨Z, hZ⟩ : ∃ zz, cmpK xl xa xb l a b = zz := ⟨_, rfl⟩
      have HQ := Lib.hid (show Z < 0 ↔ m < PO by rw [← hZ]; exact HP.out m _ hx)
      have HBY := Lib.hid (fun W => byCh xl xa xb A xv.length C D yv.length E l a b W)
      rw [hZ] at HBY
      have HM := Lib.hid hm
      clear hZ hm hx hcs
      by_cases hz : Z < 0
      · go_wp2
        refine wp_region_held_drew (S := fun W => Below wr.heap.size wr W) (by kernel_rfl) ((Below.refl _ _).drew) (fun hS => ?_)
        refine wpAnyH_take (i := 0) (v := .func (.func 48) #[] #[]) rfl (by kernel_rfl) (by kernel_rfl) (by kernel_rfl) (fun _ _ _ h => h) (Or.inl ⟨by simp [Region.wanted], fun W _ => by go_simp⟩) hS ?_
        simp only [lgT, lgZ, Act.put, lsT, lsZ, lsS]
        refine wpAnyH_take (i := 1) (v := .slice (some ⟨g, o, none⟩) n c) rfl (by kernel_rfl) (by kernel_rfl) (by kernel_rfl) (fun _ _ _ h => h) (Or.inl ⟨by simp [Region.wanted], fun W _ => by go_simp⟩) hS ?_
        simp only [lgT, lgZ, lgS, Act.put, lsT, lsZ, lsS]
        refine wpAnyH_take (i := 2) (v := .int .i64 (m : Int)) rfl (by kernel_rfl) (by kernel_rfl) (by kernel_rfl) (fun _ _ _ h => h) (Or.inl ⟨by simp [Region.wanted], fun W _ => by go_simp⟩) hS ?_
        simp only [lgT, lgZ, lgS, Act.put, lsT, lsZ, lsS]
        refine wpAnyH_take (i := 3) (v := .pointer (some ⟨g, o + m * 5, none⟩)) rfl (by kernel_rfl) (by kernel_rfl) (by kernel_rfl) (fun _ _ _ h => h) (Or.inl ⟨by simp [Region.wanted], fun W _ => by go_simp⟩) hS ?_
        simp only [lgT, lgZ, lgS, Act.put, lsT, lsZ, lsS]
        refine wpAnyH_take (i := 4) (v := .agg #[.int .i64 xl, .int .i64 xa, .int .i64 xb, .slice A xv.length C, .slice D yv.length E]) rfl (by kernel_rfl) (by kernel_rfl) (by kernel_rfl) (fun _ _ _ h => h) (yieldsIf_load rfl 59 (.tmp 27) rfl (.pointer (some ⟨g, o + m * 5, none⟩)) _ rfl (fun W hW => load_chD (HCS.out W (HLO.out.trans (hW.mono HLO.out.size)) 0 _ rfl) (HCS.out W (HLO.out.trans (hW.mono HLO.out.size)) 1 _ rfl) (HCS.out W (HLO.out.trans (hW.mono HLO.out.size)) 2 _ rfl) (HCS.out W (HLO.out.trans (hW.mono HLO.out.size)) 3 _ rfl) (HCS.out W (HLO.out.trans (hW.mono HLO.out.size)) 4 _ rfl))) hS ?_
        simp only [lgT, lgZ, lgS, Act.put, lsT, lsZ, lsS]
        refine wpAnyH_take (i := 5) (v := .agg #[.int .i64 l, .int .i64 a, .int .i64 b]) rfl (by kernel_rfl) (by kernel_rfl) (by kernel_rfl) (fun _ _ _ h => h) (yieldsIf_load rfl 56 (.tmp 4) rfl (.pointer (some ⟨w.heap.size, 0, none⟩)) _ rfl (fun W hW => load_keyD (((HLO1.out.trans (hW.mono HLO1.out.size)).block _ (lt_of_blk HKC.out)).trans HKC.out))) hS ?_
        simp only [lgT, lgZ, lgS, Act.put, lsT, lsZ, lsS]
        refine wpAnyH_ready (rs := [6]) (by kernel_rfl) (by simp) ?_
        refine AllReadyH.cons rfl (fun K1 hK1 => ?_) AllReadyH.nil
        refine wanted_go rfl ?_
        simp only [lgT, lgZ, lgS]
        go_wp2_with (go_at_call 48; refine (HBY.out _).mono ?_; rintro e w2 ⟨rfl, hb2⟩; have HB2 := Lib.hid hb2; clear hb2)
        refine hK1.out _ _ ((hS).trans (HB2.out.mono (hS).size)) (fun hS1 => ?_)
        refine wpAnyH_take (i := 7) (v := .bool true) rfl (by kernel_rfl) (by kernel_rfl) (by kernel_rfl) (fun _ _ _ h => h) (Or.inl ⟨by simp [Region.wanted], fun W _ => by go_simp⟩) hS1 ?_
        simp only [lgT, lgZ, lgS, Act.put, lsT, lsZ, lsS]
        refine wpAnyH_done (by kernel_rfl) ?_ _
        have HB3 := Lib.hid (HLO1.out.trans (hS1.mono HLO1.out.size))
        go_wp2
        go_roundw
        case rel => exact ⟨m + 1, j, by go_num, rfl, by have := HQ.out.1 hz; omega, hj, hjl, HB3.out⟩
        case measure => have := HM.out; simp [intOf]; omega
      · go_wp2
        refine wp_region_held_drew (S := fun W => Below wr.heap.size wr W) (by kernel_rfl) ((Below.refl _ _).drew) (fun hS => ?_)
        refine wpAnyH_take (i := 0) (v := .func (.func 48) #[] #[]) rfl (by kernel_rfl) (by kernel_rfl) (by kernel_rfl) (fun _ _ _ h => h) (Or.inl ⟨by simp [Region.wanted], fun W _ => by go_simp⟩) hS ?_
        simp only [lgT, lgZ, Act.put, lsT, lsZ, lsS]
        refine wpAnyH_take (i := 1) (v := .slice (some ⟨g, o, none⟩) n c) rfl (by kernel_rfl) (by kernel_rfl) (by kernel_rfl) (fun _ _ _ h => h) (Or.inl ⟨by simp [Region.wanted], fun W _ => by go_simp⟩) hS ?_
        simp only [lgT, lgZ, lgS, Act.put, lsT, lsZ, lsS]
        refine wpAnyH_take (i := 2) (v := .int .i64 (m : Int)) rfl (by kernel_rfl) (by kernel_rfl) (by kernel_rfl) (fun _ _ _ h => h) (Or.inl ⟨by simp [Region.wanted], fun W _ => by go_simp⟩) hS ?_
        simp only [lgT, lgZ, lgS, Act.put, lsT, lsZ, lsS]
        refine wpAnyH_take (i := 3) (v := .pointer (some ⟨g, o + m * 5, none⟩)) rfl (by kernel_rfl) (by kernel_rfl) (by kernel_rfl) (fun _ _ _ h => h) (Or.inl ⟨by simp [Region.wanted], fun W _ => by go_simp⟩) hS ?_
        simp only [lgT, lgZ, lgS, Act.put, lsT, lsZ, lsS]
        refine wpAnyH_take (i := 4) (v := .agg #[.int .i64 xl, .int .i64 xa, .int .i64 xb, .slice A xv.length C, .slice D yv.length E]) rfl (by kernel_rfl) (by kernel_rfl) (by kernel_rfl) (fun _ _ _ h => h) (yieldsIf_load rfl 59 (.tmp 27) rfl (.pointer (some ⟨g, o + m * 5, none⟩)) _ rfl (fun W hW => load_chD (HCS.out W (HLO.out.trans (hW.mono HLO.out.size)) 0 _ rfl) (HCS.out W (HLO.out.trans (hW.mono HLO.out.size)) 1 _ rfl) (HCS.out W (HLO.out.trans (hW.mono HLO.out.size)) 2 _ rfl) (HCS.out W (HLO.out.trans (hW.mono HLO.out.size)) 3 _ rfl) (HCS.out W (HLO.out.trans (hW.mono HLO.out.size)) 4 _ rfl))) hS ?_
        simp only [lgT, lgZ, lgS, Act.put, lsT, lsZ, lsS]
        refine wpAnyH_take (i := 5) (v := .agg #[.int .i64 l, .int .i64 a, .int .i64 b]) rfl (by kernel_rfl) (by kernel_rfl) (by kernel_rfl) (fun _ _ _ h => h) (yieldsIf_load rfl 56 (.tmp 4) rfl (.pointer (some ⟨w.heap.size, 0, none⟩)) _ rfl (fun W hW => load_keyD (((HLO1.out.trans (hW.mono HLO1.out.size)).block _ (lt_of_blk HKC.out)).trans HKC.out))) hS ?_
        simp only [lgT, lgZ, lgS, Act.put, lsT, lsZ, lsS]
        refine wpAnyH_ready (rs := [6]) (by kernel_rfl) (by simp) ?_
        refine AllReadyH.cons rfl (fun K1 hK1 => ?_) AllReadyH.nil
        refine wanted_go rfl ?_
        simp only [lgT, lgZ, lgS]
        go_wp2_with (go_at_call 48; refine (HBY.out _).mono ?_; rintro e w2 ⟨rfl, hb2⟩; have HB2 := Lib.hid hb2; clear hb2)
        refine hK1.out _ _ ((hS).trans (HB2.out.mono (hS).size)) (fun hS1 => ?_)
        refine wpAnyH_take (i := 7) (v := .bool false) rfl (by kernel_rfl) (by kernel_rfl) (by kernel_rfl) (fun _ _ _ h => h) (Or.inl ⟨by simp [Region.wanted], fun W _ => by go_simp⟩) hS1 ?_
        simp only [lgT, lgZ, lgS, Act.put, lsT, lsZ, lsS]
        refine wpAnyH_done (by kernel_rfl) ?_ _
        have HB3 := Lib.hid (HLO1.out.trans (hS1.mono HLO1.out.size))
        go_wp2
        go_roundw
        case rel => exact ⟨i, m, rfl, by go_num, hi, by have := HM.out; exact Nat.le_of_not_lt (fun h => by have := HQ.out.2 h; omega), by omega, HB3.out⟩
        case measure => have := HM.out; simp [intOf]; omega
    · have hij : i = PO := by omega
      subst hij
      by_cases hiL : i < n
      · obtain ⟨x, hx⟩ : ∃ x, L[i]? = some x := ⟨L[i]'(by omega), by simp [show i < L.length by omega]⟩
        obtain ⟨⟨xl, xa, xb, xv, yv⟩, A, C, D, E⟩ := x
        obtain ⟨g, o, ha, hcs⟩ := HROW.out.at (i := i) (xs := #[.int .i64 xl, .int .i64 xa, .int .i64 xb, .slice A xv.length C, .slice D yv.length E].toList) (by rw [List.getElem?_map, hx]; rfl)
        have HCS := Lib.hid hcs
        subst ha
        obtain ⟨Z, hZ⟩ : ∃ zz, cmpK xl xa xb l a b = zz := ⟨_, rfl⟩
        have HF := Lib.hid (show FO = (Z == 0) by rw [← hZ]; exact HF1.out _ hx)
        have HBY := Lib.hid (fun W => byCh xl xa xb A xv.length C D yv.length E l a b W)
        rw [hZ] at HBY
        clear hZ hx hcs
        go_wp2
        refine wp_region_held_drew (S := fun W => Below wr.heap.size wr W) (by kernel_rfl) ((Below.refl _ _).drew) (fun hS => ?_)
        refine wpAnyH_take (i := 0) (v := .int .i64 (i : Int)) rfl (by kernel_rfl) (by kernel_rfl) (by kernel_rfl) (fun _ _ _ h => h) (Or.inl ⟨by simp [Region.wanted], fun W _ => by go_simp⟩) hS ?_
        simp only [lgT, lgZ, Act.put, lsT, lsZ, lsS]
        refine wpAnyH_take (i := 1) (v := .int .i64 (i : Int)) rfl (by kernel_rfl) (by kernel_rfl) (by kernel_rfl) (fun _ _ _ h => h) (Or.inl ⟨by simp [Region.wanted], fun W _ => by go_simp⟩) hS ?_
        simp only [lgT, lgZ, lgS, Act.put, lsT, lsZ, lsS]
        refine wpAnyH_take (i := 2) (v := .int .i64 (n : Int)) rfl (by kernel_rfl) (by kernel_rfl) (by kernel_rfl) (fun _ _ _ h => h) (Or.inl ⟨by simp [Region.wanted], fun W _ => by go_simp⟩) hS ?_
        simp only [lgT, lgZ, lgS, Act.put, lsT, lsZ, lsS]
        refine wpAnyH_take (i := 3) (v := .bool true) rfl (by kernel_rfl) (by kernel_rfl) (by kernel_rfl) (fun _ _ _ h => h) (Or.inl ⟨by simp [Region.wanted], fun W _ => by go_simp⟩) hS ?_
        simp only [lgT, lgZ, lgS, Act.put, lsT, lsZ, lsS]
        refine wpAnyH_take (i := 4) (v := .bool true) rfl (by kernel_rfl) (by kernel_rfl) (by kernel_rfl) (fun _ _ _ h => h) (Or.inl ⟨by simp [Region.wanted], fun W _ => by go_simp⟩) hS ?_
        simp only [lgT, lgZ, lgS, Act.put, lsT, lsZ, lsS]
        refine wpAnyH_take (i := 5) (v := .func (.func 48) #[] #[]) rfl (by kernel_rfl) (by kernel_rfl) (by kernel_rfl) (fun _ _ _ h => h) (Or.inl ⟨by rfl, fun W _ => by go_simp⟩) hS ?_
        simp only [lgT, lgZ, lgS, Act.put, lsT, lsZ, lsS]
        refine wpAnyH_take (i := 6) (v := .slice (some ⟨g, o, none⟩) n c) rfl (by kernel_rfl) (by kernel_rfl) (by kernel_rfl) (fun _ _ _ h => h) (Or.inl ⟨by rfl, fun W _ => by go_simp⟩) hS ?_
        simp only [lgT, lgZ, lgS, Act.put, lsT, lsZ, lsS]
        refine wpAnyH_take (i := 7) (v := .int .i64 (i : Int)) rfl (by kernel_rfl) (by kernel_rfl) (by kernel_rfl) (fun _ _ _ h => h) (Or.inl ⟨by rfl, fun W _ => by go_simp⟩) hS ?_
        simp only [lgT, lgZ, lgS, Act.put, lsT, lsZ, lsS]
        refine wpAnyH_take (i := 8) (v := .pointer (some ⟨g, o + i * 5, none⟩)) rfl (by kernel_rfl) (by kernel_rfl) (by kernel_rfl) (fun _ _ _ h => h) (Or.inl ⟨by rfl, fun W _ => by go_simp⟩) hS ?_
        simp only [lgT, lgZ, lgS, Act.put, lsT, lsZ, lsS]
        refine wpAnyH_take (i := 9) (v := .agg #[.int .i64 xl, .int .i64 xa, .int .i64 xb, .slice A xv.length C, .slice D yv.length E]) rfl (by kernel_rfl) (by kernel_rfl) (by kernel_rfl) (fun _ _ _ h => h) (yields_atD (by rfl) 59 (.tmp 43) rfl (.pointer (some ⟨g, o + i * 5, none⟩)) _ rfl (fun W hW => load_chD (HCS.out W (HLO.out.trans (hW.mono HLO.out.size)) 0 _ rfl) (HCS.out W (HLO.out.trans (hW.mono HLO.out.size)) 1 _ rfl) (HCS.out W (HLO.out.trans (hW.mono HLO.out.size)) 2 _ rfl) (HCS.out W (HLO.out.trans (hW.mono HLO.out.size)) 3 _ rfl) (HCS.out W (HLO.out.trans (hW.mono HLO.out.size)) 4 _ rfl))) hS ?_
        simp only [lgT, lgZ, lgS, Act.put, lsT, lsZ, lsS]
        refine wpAnyH_take (i := 10) (v := .agg #[.int .i64 l, .int .i64 a, .int .i64 b]) rfl (by kernel_rfl) (by kernel_rfl) (by kernel_rfl) (fun _ _ _ h => h) (yields_atD (by rfl) 56 (.tmp 4) rfl (.pointer (some ⟨w.heap.size, 0, none⟩)) _ rfl (fun W hW => load_keyD (((HLO1.out.trans (hW.mono HLO1.out.size)).block _ (lt_of_blk HKC.out)).trans HKC.out))) hS ?_
        simp only [lgT, lgZ, lgS, Act.put, lsT, lsZ, lsS]
        refine wpAnyH_ready (rs := [11]) (by kernel_rfl) (by simp) ?_
        refine AllReadyH.cons rfl (fun K1 hK1 => ?_) AllReadyH.nil
        rw [if_pos (by rfl)]
        simp only [lgT, lgZ, lgS]
        go_wp2_with (go_at_call 48; refine (HBY.out _).mono ?_; rintro e w2 ⟨rfl, hb2⟩; have HB2 := Lib.hid hb2; clear hb2)
        refine hK1.out _ _ ((hS).trans (HB2.out.mono (hS).size)) (fun hS1 => ?_)
        refine wpAnyH_take (i := 12) (v := .bool (Z == 0)) rfl (by kernel_rfl) (by kernel_rfl) (by kernel_rfl) (fun _ _ _ h => h) (Or.inl ⟨by rfl, fun W _ => by go_simp⟩) hS1 ?_
        simp only [lgT, lgZ, lgS, Act.put, lsT, lsZ, lsS]
        refine wpAnyH_take (i := 13) (v := .bool (Z == 0)) rfl (by kernel_rfl) (by kernel_rfl) (by kernel_rfl) (fun _ _ _ h => h) (Or.inl ⟨by simp [Region.wanted], fun W _ => by go_simp⟩) hS1 ?_
        simp only [lgT, lgZ, lgS, Act.put, lsT, lsZ, lsS]
        refine wpAnyH_take (i := 14) (v := .int .i64 (i : Int)) rfl (by kernel_rfl) (by kernel_rfl) (by kernel_rfl) (fun _ _ _ h => h) (Or.inl ⟨by simp [Region.wanted], fun W _ => by go_simp⟩) hS1 ?_
        simp only [lgT, lgZ, lgS, Act.put, lsT, lsZ, lsS]
        refine wpAnyH_take (i := 15) (v := .bool (Z == 0)) rfl (by kernel_rfl) (by kernel_rfl) (by kernel_rfl) (fun _ _ _ h => h) (Or.inl ⟨by simp [Region.wanted], fun W _ => by go_simp⟩) hS1 ?_
        simp only [lgT, lgZ, lgS, Act.put, lsT, lsZ, lsS]
        refine wpAnyH_done (by kernel_rfl) ?_ _
        go_wp2
        have hf := HF.out
        subst hf
        go_ret2
        exact ⟨rfl, HLO.out.trans (hS1.mono HLO.out.size)⟩
      · have HF := Lib.hid (HF0.out (List.getElem?_eq_none (by omega)))
        go_wp2
        refine wp_region_held_drew (S := fun W => Below wr.heap.size wr W) (by kernel_rfl) ((Below.refl _ _).drew) (fun hS => ?_)
        refine wpAnyH_take (i := 0) (v := .int .i64 (i : Int)) rfl (by kernel_rfl) (by kernel_rfl) (by kernel_rfl) (fun _ _ _ h => h) (Or.inl ⟨by simp [Region.wanted], fun W _ => by go_simp⟩) hS ?_
        simp only [lgT, lgZ, Act.put, lsT, lsZ, lsS]
        refine wpAnyH_take (i := 1) (v := .int .i64 (i : Int)) rfl (by kernel_rfl) (by kernel_rfl) (by kernel_rfl) (fun _ _ _ h => h) (Or.inl ⟨by simp [Region.wanted], fun W _ => by go_simp⟩) hS ?_
        simp only [lgT, lgZ, lgS, Act.put, lsT, lsZ, lsS]
        refine wpAnyH_take (i := 2) (v := .int .i64 (n : Int)) rfl (by kernel_rfl) (by kernel_rfl) (by kernel_rfl) (fun _ _ _ h => h) (Or.inl ⟨by simp [Region.wanted], fun W _ => by go_simp⟩) hS ?_
        simp only [lgT, lgZ, lgS, Act.put, lsT, lsZ, lsS]
        refine wpAnyH_take (i := 3) (v := .bool false) rfl (by kernel_rfl) (by kernel_rfl) (by kernel_rfl) (fun _ _ _ h => h) (Or.inl ⟨by simp [Region.wanted], fun W _ => by go_simp⟩) hS ?_
        simp only [lgT, lgZ, lgS, Act.put, lsT, lsZ, lsS]
        refine wpAnyH_take (i := 4) (v := .bool false) rfl (by kernel_rfl) (by kernel_rfl) (by kernel_rfl) (fun _ _ _ h => h) (Or.inl ⟨by simp [Region.wanted], fun W _ => by go_simp⟩) hS ?_
        simp only [lgT, lgZ, lgS, Act.put, lsT, lsZ, lsS]
        refine wpAnyH_take (i := 5) (v := undef) rfl (by kernel_rfl) (by kernel_rfl) (by kernel_rfl) (fun _ _ _ h => h) (Or.inr ⟨by rfl, rfl⟩) hS ?_
        simp only [lgT, lgZ, lgS, Act.put, lsT, lsZ, lsS]
        refine wpAnyH_take (i := 6) (v := undef) rfl (by kernel_rfl) (by kernel_rfl) (by kernel_rfl) (fun _ _ _ h => h) (Or.inr ⟨by rfl, rfl⟩) hS ?_
        simp only [lgT, lgZ, lgS, Act.put, lsT, lsZ, lsS]
        refine wpAnyH_take (i := 7) (v := undef) rfl (by kernel_rfl) (by kernel_rfl) (by kernel_rfl) (fun _ _ _ h => h) (Or.inr ⟨by rfl, rfl⟩) hS ?_
        simp only [lgT, lgZ, lgS, Act.put, lsT, lsZ, lsS]
        refine wpAnyH_take (i := 8) (v := undef) rfl (by kernel_rfl) (by kernel_rfl) (by kernel_rfl) (fun _ _ _ h => h) (Or.inr ⟨by rfl, rfl⟩) hS ?_
        simp only [lgT, lgZ, lgS, Act.put, lsT, lsZ, lsS]
        refine wpAnyH_take (i := 9) (v := undef) rfl (by kernel_rfl) (by kernel_rfl) (by kernel_rfl) (fun _ _ _ h => h) (Or.inr ⟨by rfl, rfl⟩) hS ?_
        simp only [lgT, lgZ, lgS, Act.put, lsT, lsZ, lsS]
        refine wpAnyH_take (i := 10) (v := undef) rfl (by kernel_rfl) (by kernel_rfl) (by kernel_rfl) (fun _ _ _ h => h) (Or.inr ⟨by rfl, rfl⟩) hS ?_
        simp only [lgT, lgZ, lgS, Act.put, lsT, lsZ, lsS]
        refine wpAnyH_take (i := 11) (v := undef) rfl (by kernel_rfl) (by kernel_rfl) (by kernel_rfl) (fun _ _ _ h => h) (Or.inr ⟨by rfl, rfl⟩) hS ?_
        simp only [lgT, lgZ, lgS, Act.put, lsT, lsZ, lsS]
        refine wpAnyH_take (i := 12) (v := undef) rfl (by kernel_rfl) (by kernel_rfl) (by kernel_rfl) (fun _ _ _ h => h) (Or.inr ⟨by rfl, rfl⟩) hS ?_
        simp only [lgT, lgZ, lgS, Act.put, lsT, lsZ, lsS]
        refine wpAnyH_take (i := 13) (v := .bool false) rfl (by kernel_rfl) (by kernel_rfl) (by kernel_rfl) (fun _ _ _ h => h) (Or.inl ⟨by simp [Region.wanted], fun W _ => by go_simp⟩) hS ?_
        simp only [lgT, lgZ, lgS, Act.put, lsT, lsZ, lsS]
        refine wpAnyH_take (i := 14) (v := .int .i64 (i : Int)) rfl (by kernel_rfl) (by kernel_rfl) (by kernel_rfl) (fun _ _ _ h => h) (Or.inl ⟨by simp [Region.wanted], fun W _ => by go_simp⟩) hS ?_
        simp only [lgT, lgZ, lgS, Act.put, lsT, lsZ, lsS]
        refine wpAnyH_take (i := 15) (v := .bool false) rfl (by kernel_rfl) (by kernel_rfl) (by kernel_rfl) (fun _ _ _ h => h) (Or.inl ⟨by simp [Region.wanted], fun W _ => by go_simp⟩) hS ?_
        simp only [lgT, lgZ, lgS, Act.put, lsT, lsZ, lsS]
        refine wpAnyH_done (by kernel_rfl) ?_ _
        go_wp2
        have hf := HF.out
        subst hf
        go_ret2
        exact ⟨rfl, HLO.out.drew⟩
end Go.Proofs.YtellifcjamedkaaGreat
