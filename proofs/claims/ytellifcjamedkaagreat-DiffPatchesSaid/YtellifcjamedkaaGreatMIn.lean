/- Changes that come in. The law's Of: the contract. The law's great: the contract. -/
import Derived.Test.YtellifcjamedkaaGreatMAl
import Derived.Test.YtellifcjamedkaaGreatMRd
import Derived.Test.YtellifcjamedkaaGreatDfRef6
import Derived.Test.YtellifcjamedkaaGreatMAm
namespace Go.Proofs.YtellifcjamedkaaGreat
open Go.ChangeShapes Go.WideShapes Go.ChangeAt Go.RowKit Go.Lib Base Base2
theorem cellsCh : Tryz.prog.cellsOf 43 = 5 := by kernel_rfl
theorem cellsSl : Tryz.prog.cellsOf 41 = 1 := by kernel_rfl
/-- Numbers that a slice leads to. -/
theorem trod_vals {H : Type} {enc : TypeId × Value → H} {W : World} {base : Nat} {spare : Nat → Bool} {held : Bool} {fuel : Nat} {v : Value} {y : DataW H × List MemPlace}
    (hf : DataW.trod enc Tryz.prog W base spare held fuel 41 [v] = some y) : ∃ (a : Option Addr) (c : Nat) (l : List Int), v = .slice a l.length c ∧ I64s W a l ∧ ∀ z ∈ l, in6 z := by
  rcases Go.Deep.open_slice1 Tryz.underlying41 cellsN64 hf with ⟨hcs, _⟩ | ⟨x, l, c, m, n, V, D, Pl, hcs, _, hl, hm, hmm, _, hcells⟩
  · obtain rfl : v = .slice none 0 0 := by simpa using hcs
    exact ⟨none, 0, [], rfl, .inl rfl, by simp⟩
  · obtain rfl : v = .slice (some x) l c := by simpa using hcs
    have hlm : l ≤ m := by rw [hmm]; split <;> omega
    have hv1 : ∀ i, i < l → ∃ z : Int, in6 z ∧ W.cell? (x.add i) = some (.int .i64 z) := fun i hi => by
      obtain ⟨h1, h2⟩ := hcells i (by omega)
      obtain ⟨z, hz, _, hw⟩ := DataW.trod_int Tryz.underlying2 h2
      have hz2 : V i = .int .i64 z := by simpa using hz
      exact ⟨z, in6_of hw, by rw [h1, hz2]⟩
    obtain ⟨f, hf2⟩ : ∃ f : Nat → Int, ∀ i, i < l → in6 (f i) ∧ W.cell? (x.add i) = some (.int .i64 (f i)) := by
      refine ⟨fun i => if h : i < l then (hv1 i h).choose else 0, fun i hi => ?_⟩
      simp only [dif_pos hi]
      exact (hv1 i hi).choose_spec
    have hlen : ((List.range l).map f).length = l := by simp
    refine ⟨some x, c, (List.range l).map f, by rw [hlen], ?_, fun z hz => ?_⟩
    · by_cases h00 : l = 0
      · subst h00; exact .inl rfl
      · obtain ⟨b, off, spot⟩ := x
        have hc0 := (hf2 0 (by omega)).2
        have hspot : spot = none := by
          have h := World.cell?_spot hc0
          simpa [Addr.add] using h
        subst hspot
        refine .inr ⟨b, off, rfl, ?_, fun i g hi => ?_⟩
        · rw [Addr.add_mid] at hc0
          exact World.block_lt_of_cell? W _ hc0
        · have hin : i < l := by simpa using (List.getElem?_eq_some_iff.1 hi).1
          simp [hin] at hi
          subst hi
          have := (hf2 i hin).2
          rwa [Addr.add_mid] at this
    · obtain ⟨i, hi, rfl⟩ := List.mem_map.1 hz
      exact (hf2 i (by simpa using hi)).1
/-- What is known of a change that comes in. -/
structure ChIn (W : World) (x : ChV) : Prop where
  v1 : I64s W x.a1 x.c.was
  v2 : I64s W x.a2 x.c.now
  l : in6 x.c.l
  a : in6 x.c.a
  b : in6 x.c.b
  i1 : ∀ z ∈ x.c.was, in6 z
  i2 : ∀ z ∈ x.c.now, in6 z
set_option maxRecDepth 100000 in
theorem trod_change {H : Type} {enc : TypeId × Value → H} {w : World} {base : Nat} {sp : Nat → Bool} {held : Bool} {fuel : Nat} {cs : List Value} {x : DataW H × List MemPlace}
    (h : DataW.trod enc Tryz.prog w base sp held fuel 43 cs = some x) : ∃ t : ChV, cs = t.cells ∧ ChIn w t := by
  obtain ⟨xs, m, _, rfl, hl, hxl, hi⟩ := DataW.trod_struct Tryz.underlying43 h
  obtain ⟨y0, y1, y2, y3, y4, rfl⟩ : ∃ y0 y1 y2 y3 y4, xs = [y0, y1, y2, y3, y4] := by
    match xs, hxl with
    | [y0, y1, y2, y3, y4], _ => exact ⟨_, _, _, _, _, rfl⟩
  rw [cellsCh] at hl
  obtain ⟨v0, v1, v2, v3, v4, rfl⟩ : ∃ v0 v1 v2 v3 v4, cs = [v0, v1, v2, v3, v4] := by
    match cs, hl with
    | [v0, v1, v2, v3, v4], _ => exact ⟨_, _, _, _, _, rfl⟩
  have e0 : DataW.trod enc Tryz.prog w base sp held m 3 (([v0, v1, v2, v3, v4].drop 0).take (Tryz.prog.cellsOf 3)) = some y0 := hi 0 _ rfl
  rw [cellsNi] at e0
  obtain ⟨z0, hz0, rfl, w0⟩ := DataW.trod_int Tryz.underlying3 e0
  obtain rfl : v0 = .int .i64 z0 := by simpa using hz0
  have e1 : DataW.trod enc Tryz.prog w base sp held m 2 (([.int .i64 z0, v1, v2, v3, v4].drop 1).take (Tryz.prog.cellsOf 2)) = some y1 := hi 1 _ rfl
  rw [cellsN64] at e1
  obtain ⟨z1, hz1, rfl, w1⟩ := DataW.trod_int Tryz.underlying2 e1
  obtain rfl : v1 = .int .i64 z1 := by simpa using hz1
  have e2 : DataW.trod enc Tryz.prog w base sp held m 2 (([.int .i64 z0, .int .i64 z1, v2, v3, v4].drop 2).take (Tryz.prog.cellsOf 2)) = some y2 := hi 2 _ rfl
  rw [cellsN64] at e2
  obtain ⟨z2, hz2, rfl, w2⟩ := DataW.trod_int Tryz.underlying2 e2
  obtain rfl : v2 = .int .i64 z2 := by simpa using hz2
  have e3 : DataW.trod enc Tryz.prog w base sp held m 41 (([.int .i64 z0, .int .i64 z1, .int .i64 z2, v3, v4].drop 3).take (Tryz.prog.cellsOf 41)) = some y3 := hi 3 _ rfl
  rw [cellsSl] at e3
  obtain ⟨a1, c1, l1, u1, r1, g1⟩ := trod_vals (v := v3) (by simpa using e3)
  have e4 : DataW.trod enc Tryz.prog w base sp held m 41 (([.int .i64 z0, .int .i64 z1, .int .i64 z2, v3, v4].drop 4).take (Tryz.prog.cellsOf 41)) = some y4 := hi 4 _ rfl
  rw [cellsSl] at e4
  obtain ⟨a2, c2, l2, u2, r2, g2⟩ := trod_vals (v := v4) (by simpa using e4)
  subst u1 u2
  exact ⟨⟨⟨z0, z1, z2, l1, l2⟩, a1, c1, a2, c2⟩, rfl, ⟨r1, r2, in6_of w0, in6_of w1, in6_of w2, g1, g2⟩⟩
/-- Changes in a slice that comes in. -/
theorem open_changes {H : Type} {enc : TypeId × Value → H} {W : World} {base : Nat} {spare : Nat → Bool} {held : Bool} {a : Option Addr} {len cap : Nat} {d : DataW H} {ps : List MemPlace}
    (h : DataW.Trod enc Tryz.prog W base spare held 28 (.slice a len cap) d ps) : ∃ L : List ChV, L.length = len ∧ (∀ W', Below W.heap.size W W' → ChAt W' a L) ∧ (∀ x ∈ L, ChIn W x) ∧ len ≤ cap := by
  obtain ⟨fuel, hf⟩ := h
  rcases Go.Deep.open_slice Tryz.underlying28 hf with ⟨hcs, _⟩ | ⟨x, l, c, m, n, D, Pl, hcs, _, hl, hm, hmm, _, hcells⟩
  · simp [Value.cells] at hcs
    obtain ⟨rfl, rfl, rfl⟩ := hcs
    exact ⟨[], rfl, fun W' _ i x hx => by simp at hx, by simp, Nat.le_refl _⟩
  · simp [Value.cells] at hcs
    obtain ⟨rfl, rfl, rfl⟩ := hcs
    have hlm : len ≤ m := by rw [hmm]; split <;> omega
    rw [cellsCh] at hcells
    have hv1 : ∀ i, i < len → ∃ g : ChV, ChIn W g ∧ ∀ j, j < 5 → W.cell? (x.add (i * 5 + j)) = g.cells[j]? := fun i hi => by
      obtain ⟨cs, h1, h2⟩ := hcells i (by omega)
      obtain ⟨g, rfl, hw⟩ := trod_change h2
      obtain ⟨_, _, h3⟩ := World.cells?_some h1
      exact ⟨g, hw, fun j hj => by rw [← h3 j hj, Addr.add_add]⟩
    obtain ⟨f, hf2⟩ : ∃ f : Nat → ChV, ∀ i, i < len → ChIn W (f i) ∧ ∀ j, j < 5 → W.cell? (x.add (i * 5 + j)) = (f i).cells[j]? := by
      refine ⟨fun i => if h : i < len then (hv1 i h).choose else ⟨⟨0, 0, 0, [], []⟩, none, 0, none, 0⟩, fun i hi => ?_⟩
      simp only [dif_pos hi]
      exact (hv1 i hi).choose_spec
    refine ⟨(List.range len).map f, by simp, fun W' hb i g hi => ?_, fun g hg => ?_, hl⟩
    · have hin : i < len := by simpa using (List.getElem?_eq_some_iff.1 hi).1
      simp [hin] at hi
      subst hi
      obtain ⟨b, off, spot⟩ := x
      have h2 := (hf2 i hin).2
      have hc0 : W.cell? ((⟨b, off, spot⟩ : Addr).add (0 * 5 + 0)) = some (.int .i64 (f 0).c.l) := (hf2 0 (by omega)).2 0 (by omega)
      have hspot : spot = none := by
        have h := World.cell?_spot hc0
        simpa [Addr.add] using h
      subst hspot
      have hlt : b < W.heap.size := by
        rw [Addr.add_mid] at hc0
        exact World.block_lt_of_cell? W _ hc0
      have hk : ∀ j, j < 5 → W'.cell? ⟨b, off + (i * 5 + j), none⟩ = (f i).cells[j]? := fun j hj => by
        have h := h2 j hj
        rw [Addr.add_mid] at h
        rw [← h]
        exact World.cell?_of_block (a := ⟨b, off + (i * 5 + j), none⟩) (hb.block b hlt)
      exact ⟨b, off, rfl, hk 0 (by omega), hk 1 (by omega), hk 2 (by omega), hk 3 (by omega), hk 4 (by omega)⟩
    · obtain ⟨i, hi, rfl⟩ := List.mem_map.1 hg
      exact (hf2 i (by simpa using hi)).1
end Go.Proofs.YtellifcjamedkaaGreat
namespace Go.Proofs.YtellifcjamedkaaGreat
open Go.RowKit Base Base2
open List renaming getElem_toArray → lgT, getElem_cons_zero → lgZ, getElem_cons_succ → lgS, setIfInBounds_toArray → lsT, set_cons_zero → lsZ, set_cons_succ → lsS
/-- Changes that are being made, whatever their values are. -/
structure CpO (B : Nat) (W0 : World) (o : List ChV) (v : Value) (W : World) : Prop where
  row : W.ownsRow B 59 5 v o.length (flatK o)
  lo : Below B W0 W
  sz : B ≤ W.heap.size
theorem CpO.nil {B : Nat} {W0 : World} (h : B ≤ W0.heap.size) : CpO B W0 [] (.slice none 0 0) W0 := ⟨⟨by simp [flatK], .inl ⟨rfl, rfl⟩⟩, Below.refl _ _, h⟩
theorem CpO.below {B : Nat} {W0 W W' : World} {o : List ChV} {v : Value} (h : CpO B W0 o v W) (hb : Below W.heap.size W W') : CpO B W0 o v W' := ⟨own_below' h.row hb, h.lo.trans (hb.mono h.sz), Nat.le_trans h.sz hb.size⟩
theorem CpO.app {B : Nat} {W0 W w2 : World} {o : List ChV} {v v' : Value} {x : ChV} {ob : Obj} (h : CpO B W0 o v W) (hr : w2.ownsRow B 59 5 v' (o.length + 1) (flatK o ++ x.cells)) (hg : (W.alloc ob).grownBy w2 v.ownBlock) : CpO B W0 (o ++ [x]) v' w2 := by
  have hg2 := World_grown_alloc hg
  exact ⟨by rw [flatK_app, flatK_one, List.length_append]; exact hr, h.lo.grown hg2 h.sz (own_block_ge h.row), Nat.le_trans h.sz hg2.size⟩
set_option maxRecDepth 100000 in
set_option maxHeartbeats 8000000 in
theorem of8 (a : Option Addr) (p : Nat) (l : List ChV) (w : World) (h8 : l.length ≤ 100000) (hc : ∀ W, Below w.heap.size w W → ChAt W a l) :
    Calls Tryz.prog 8 #[.slice a l.length p] w fun e w' => ∃ vo, e = .returned vo ∧ CpO w.heap.size w l vo w' := by
  obtain ⟨i0, hi0, hz0, hz1, hz2⟩ := info_parts infoCp
  have HC := Lib.hid hc
  have HS0 := Lib.hid (CpO.nil (W0 := w) (Nat.le_refl w.heap.size))
  obtain ⟨n, hn⟩ : ∃ n, l.length = n := ⟨_, rfl⟩
  have HN := Lib.hid hn
  have HNX := Lib.hid (show ∀ i, i < n → ∃ x, l[i]? = some x from fun i h => ⟨l[i]'(by omega), by simp [show i < l.length by omega]⟩)
  rw [hn] at h8 ⊢
  clear hc hn
  go_enter Tryz.func8, Tryz.ntmps8
  go_wp2
  go_loopw [3, 4] (fun vo vi W => ∃ i : Nat, vi = .int .i64 (i : Int) ∧ i ≤ n ∧ CpO w.heap.size w (l.take i) vo W) (fun _ vi _ => n - (intOf vi).toNat)
  case atStart => exact ⟨0, rfl, Nat.zero_le _, HS0.out⟩
  case round =>
    clear HS0
    obtain ⟨i, rfl, hi, hs⟩ := hrel
    have HS := Lib.hid hs
    clear hs
    by_cases hlx : i < n
    · obtain ⟨⟨⟨xl, xa, xb, xv, yv⟩, A1, C1, A2, C2⟩, hx⟩ := HNX.out i hlx
      obtain ⟨g, o, ha, _⟩ := HC.out w (Below.refl _ _) i _ hx
      have HCC := Lib.hid (fun W (h : Below w.heap.size w W) => show W.cell? ⟨g, o + i * 5, none⟩ = some (.int .i64 xl) ∧ W.cell? ⟨g, o + i * 5 + 1, none⟩ = some (.int .i64 xa) ∧ W.cell? ⟨g, o + i * 5 + 2, none⟩ = some (.int .i64 xb) ∧ W.cell? ⟨g, o + i * 5 + 3, none⟩ = some (.slice A1 xv.length C1) ∧ W.cell? ⟨g, o + i * 5 + 4, none⟩ = some (.slice A2 yv.length C2) by
        obtain ⟨g', o', ha', h'⟩ := HC.out W h i _ hx
        rw [ha] at ha'
        obtain ⟨rfl, rfl⟩ : g = g' ∧ o = o' := by simpa using ha'
        exact h')
      have HTK := Lib.hid (take_oneD hx)
      have HLN := Lib.hid (show (l.take i).length = i by rw [List.length_take, HN.out]; omega)
      subst ha
      clear hx
      go_upto_region 5 with (fail)
      refine at_world (Φ := fun W => CpO w.heap.size w (l.take i) u3 W) HS.out ?_
      clear HS
      rintro W9 hs9
      have HSD := Lib.hid (show CpO w.heap.size w (l.take i) u3 W9.drew from hs9.below ((Below.refl _ _).drew))
      clear hs9
      have b1 : (l.take i).length + 1 ≤ maxLen := by rw [HLN.out]; unfold maxLen; omega
      have b2 : ((l.take i).length + 1) * 72 ≤ 140737488355328 := by rw [HLN.out]; omega
      refine wp_region_held_drew (S := fun W => Below w.heap.size w W) (by kernel_rfl) (HSD.out.lo) (fun hS => ?_)
      refine wpAnyH_take (i := 0) (v := u3) rfl (by kernel_rfl) (by kernel_rfl) (by kernel_rfl) (fun _ _ _ h => h) (Or.inl ⟨by simp [Region.wanted], fun W _ => by go_simp⟩) hS ?_
      simp only [lgT, lgZ, Act.put, lsT, lsZ, lsS]
      refine wpAnyH_take (i := 1) (v := .slice (some ⟨g, o, none⟩) n p) rfl (by kernel_rfl) (by kernel_rfl) (by kernel_rfl) (fun _ _ _ h => h) (Or.inl ⟨by simp [Region.wanted], fun W _ => by go_simp⟩) hS ?_
      simp only [lgT, lgZ, lgS, Act.put, lsT, lsZ, lsS]
      refine wpAnyH_take (i := 2) (v := .int .i64 (i : Int)) rfl (by kernel_rfl) (by kernel_rfl) (by kernel_rfl) (fun _ _ _ h => h) (Or.inl ⟨by simp [Region.wanted], fun W _ => by go_simp⟩) hS ?_
      simp only [lgT, lgZ, lgS, Act.put, lsT, lsZ, lsS]
      refine wpAnyH_take (i := 3) (v := .pointer (some ⟨g, o + i * 5, none⟩)) rfl (by kernel_rfl) (by kernel_rfl) (by kernel_rfl) (fun _ _ _ h => h) (Or.inl ⟨by simp [Region.wanted], fun W _ => by go_simp⟩) hS ?_
      simp only [lgT, lgZ, lgS, Act.put, lsT, lsZ, lsS]
      refine wpAnyH_take (i := 4) (v := .pointer (some ⟨g, o + i * 5, none⟩)) rfl (by kernel_rfl) (by kernel_rfl) (by kernel_rfl) (fun _ _ _ h => h) (Or.inl ⟨by simp [Region.wanted], fun W _ => by go_simp⟩) hS ?_
      simp only [lgT, lgZ, lgS, Act.put, lsT, lsZ, lsS]
      refine wpAnyH_take (i := 5) (v := .int .i64 xl) rfl (by kernel_rfl) (by kernel_rfl) (by kernel_rfl) (fun _ _ _ h => h) (Or.inl ⟨by simp [Region.wanted], fun W hW => by have kc := (HCC.out W hW).1; go_simp⟩) hS ?_
      simp only [lgT, lgZ, lgS, Act.put, lsT, lsZ, lsS]
      refine wpAnyH_take (i := 6) (v := .slice (some ⟨g, o, none⟩) n p) rfl (by kernel_rfl) (by kernel_rfl) (by kernel_rfl) (fun _ _ _ h => h) (Or.inl ⟨by simp [Region.wanted], fun W _ => by go_simp⟩) hS ?_
      simp only [lgT, lgZ, lgS, Act.put, lsT, lsZ, lsS]
      refine wpAnyH_take (i := 7) (v := .int .i64 (i : Int)) rfl (by kernel_rfl) (by kernel_rfl) (by kernel_rfl) (fun _ _ _ h => h) (Or.inl ⟨by simp [Region.wanted], fun W _ => by go_simp⟩) hS ?_
      simp only [lgT, lgZ, lgS, Act.put, lsT, lsZ, lsS]
      refine wpAnyH_take (i := 8) (v := .pointer (some ⟨g, o + i * 5, none⟩)) rfl (by kernel_rfl) (by kernel_rfl) (by kernel_rfl) (fun _ _ _ h => h) (Or.inl ⟨by simp [Region.wanted], fun W _ => by go_simp⟩) hS ?_
      simp only [lgT, lgZ, lgS, Act.put, lsT, lsZ, lsS]
      refine wpAnyH_take (i := 9) (v := .pointer (some ⟨g, o + i * 5 + 1, none⟩)) rfl (by kernel_rfl) (by kernel_rfl) (by kernel_rfl) (fun _ _ _ h => h) (Or.inl ⟨by simp [Region.wanted], fun W _ => by go_simp⟩) hS ?_
      simp only [lgT, lgZ, lgS, Act.put, lsT, lsZ, lsS]
      refine wpAnyH_take (i := 10) (v := .int .i64 xa) rfl (by kernel_rfl) (by kernel_rfl) (by kernel_rfl) (fun _ _ _ h => h) (Or.inl ⟨by simp [Region.wanted], fun W hW => by have kc := (HCC.out W hW).2.1; go_simp⟩) hS ?_
      simp only [lgT, lgZ, lgS, Act.put, lsT, lsZ, lsS]
      refine wpAnyH_take (i := 11) (v := .slice (some ⟨g, o, none⟩) n p) rfl (by kernel_rfl) (by kernel_rfl) (by kernel_rfl) (fun _ _ _ h => h) (Or.inl ⟨by simp [Region.wanted], fun W _ => by go_simp⟩) hS ?_
      simp only [lgT, lgZ, lgS, Act.put, lsT, lsZ, lsS]
      refine wpAnyH_take (i := 12) (v := .int .i64 (i : Int)) rfl (by kernel_rfl) (by kernel_rfl) (by kernel_rfl) (fun _ _ _ h => h) (Or.inl ⟨by simp [Region.wanted], fun W _ => by go_simp⟩) hS ?_
      simp only [lgT, lgZ, lgS, Act.put, lsT, lsZ, lsS]
      refine wpAnyH_take (i := 13) (v := .pointer (some ⟨g, o + i * 5, none⟩)) rfl (by kernel_rfl) (by kernel_rfl) (by kernel_rfl) (fun _ _ _ h => h) (Or.inl ⟨by simp [Region.wanted], fun W _ => by go_simp⟩) hS ?_
      simp only [lgT, lgZ, lgS, Act.put, lsT, lsZ, lsS]
      refine wpAnyH_take (i := 14) (v := .pointer (some ⟨g, o + i * 5 + 2, none⟩)) rfl (by kernel_rfl) (by kernel_rfl) (by kernel_rfl) (fun _ _ _ h => h) (Or.inl ⟨by simp [Region.wanted], fun W _ => by go_simp⟩) hS ?_
      simp only [lgT, lgZ, lgS, Act.put, lsT, lsZ, lsS]
      refine wpAnyH_take (i := 15) (v := .int .i64 xb) rfl (by kernel_rfl) (by kernel_rfl) (by kernel_rfl) (fun _ _ _ h => h) (Or.inl ⟨by simp [Region.wanted], fun W hW => by have kc := (HCC.out W hW).2.2.1; go_simp⟩) hS ?_
      simp only [lgT, lgZ, lgS, Act.put, lsT, lsZ, lsS]
      refine wpAnyH_take (i := 16) (v := .slice (some ⟨g, o, none⟩) n p) rfl (by kernel_rfl) (by kernel_rfl) (by kernel_rfl) (fun _ _ _ h => h) (Or.inl ⟨by simp [Region.wanted], fun W _ => by go_simp⟩) hS ?_
      simp only [lgT, lgZ, lgS, Act.put, lsT, lsZ, lsS]
      refine wpAnyH_take (i := 17) (v := .int .i64 (i : Int)) rfl (by kernel_rfl) (by kernel_rfl) (by kernel_rfl) (fun _ _ _ h => h) (Or.inl ⟨by simp [Region.wanted], fun W _ => by go_simp⟩) hS ?_
      simp only [lgT, lgZ, lgS, Act.put, lsT, lsZ, lsS]
      refine wpAnyH_take (i := 18) (v := .pointer (some ⟨g, o + i * 5, none⟩)) rfl (by kernel_rfl) (by kernel_rfl) (by kernel_rfl) (fun _ _ _ h => h) (Or.inl ⟨by simp [Region.wanted], fun W _ => by go_simp⟩) hS ?_
      simp only [lgT, lgZ, lgS, Act.put, lsT, lsZ, lsS]
      refine wpAnyH_take (i := 19) (v := .pointer (some ⟨g, o + i * 5 + 3, none⟩)) rfl (by kernel_rfl) (by kernel_rfl) (by kernel_rfl) (fun _ _ _ h => h) (Or.inl ⟨by simp [Region.wanted], fun W _ => by go_simp⟩) hS ?_
      simp only [lgT, lgZ, lgS, Act.put, lsT, lsZ, lsS]
      refine wpAnyH_take (i := 20) (v := .slice A1 xv.length C1) rfl (by kernel_rfl) (by kernel_rfl) (by kernel_rfl) (fun _ _ _ h => h) (Or.inl ⟨by simp [Region.wanted], fun W hW => by have kc := (HCC.out W hW).2.2.2.1; go_simp⟩) hS ?_
      simp only [lgT, lgZ, lgS, Act.put, lsT, lsZ, lsS]
      refine wpAnyH_take (i := 21) (v := .slice (some ⟨g, o, none⟩) n p) rfl (by kernel_rfl) (by kernel_rfl) (by kernel_rfl) (fun _ _ _ h => h) (Or.inl ⟨by simp [Region.wanted], fun W _ => by go_simp⟩) hS ?_
      simp only [lgT, lgZ, lgS, Act.put, lsT, lsZ, lsS]
      refine wpAnyH_take (i := 22) (v := .int .i64 (i : Int)) rfl (by kernel_rfl) (by kernel_rfl) (by kernel_rfl) (fun _ _ _ h => h) (Or.inl ⟨by simp [Region.wanted], fun W _ => by go_simp⟩) hS ?_
      simp only [lgT, lgZ, lgS, Act.put, lsT, lsZ, lsS]
      refine wpAnyH_take (i := 23) (v := .pointer (some ⟨g, o + i * 5, none⟩)) rfl (by kernel_rfl) (by kernel_rfl) (by kernel_rfl) (fun _ _ _ h => h) (Or.inl ⟨by simp [Region.wanted], fun W _ => by go_simp⟩) hS ?_
      simp only [lgT, lgZ, lgS, Act.put, lsT, lsZ, lsS]
      refine wpAnyH_take (i := 24) (v := .pointer (some ⟨g, o + i * 5 + 4, none⟩)) rfl (by kernel_rfl) (by kernel_rfl) (by kernel_rfl) (fun _ _ _ h => h) (Or.inl ⟨by simp [Region.wanted], fun W _ => by go_simp⟩) hS ?_
      simp only [lgT, lgZ, lgS, Act.put, lsT, lsZ, lsS]
      refine wpAnyH_take (i := 25) (v := .slice A2 yv.length C2) rfl (by kernel_rfl) (by kernel_rfl) (by kernel_rfl) (fun _ _ _ h => h) (Or.inl ⟨by simp [Region.wanted], fun W hW => by have kc := (HCC.out W hW).2.2.2.2; go_simp⟩) hS ?_
      simp only [lgT, lgZ, lgS, Act.put, lsT, lsZ, lsS]
      refine wpAnyH_take (i := 26) (v := .agg #[.int .i64 xl, .int .i64 xa, .int .i64 xb, .slice A1 xv.length C1, .slice A2 yv.length C2]) rfl (by kernel_rfl) (by kernel_rfl) (by kernel_rfl) (fun _ _ _ h => h) (Or.inl ⟨by simp [Region.wanted], fun W _ => by go_simp⟩) hS ?_
      simp only [lgT, lgZ, lgS, Act.put, lsT, lsZ, lsS]
      refine wpAnyH_ready (rs := [27]) (by kernel_rfl) (by simp) ?_
      refine AllReadyH.cons rfl (fun K1 hK1 => ?_) AllReadyH.nil
      refine wanted_go rfl ?_
      simp only [lgT, lgZ, lgS]
      go_wp2
      refine hK1.out _ _ ((hS).alloc HSD.out.sz _) (fun hS1 => ?_)
      refine wpAnyH_ready (rs := [28]) (by kernel_rfl) (by simp) ?_
      refine AllReadyH.cons rfl (fun K2 hK2 => ?_) AllReadyH.nil
      refine wanted_go rfl ?_
      simp only [lgT, lgZ, lgS]
      (obtain ⟨v', w9, hr, hown, hgrow, _⟩ := run_append_own (P := Tryz.prog) (w := W9.drew.alloc (.cells #[.int .i64 xl, .int .i64 xa, .int .i64 xb, .slice A1 xv.length C1, .slice A2 yv.length C2] 59)) w.heap.size 35 35 59 i0 _ 5 72 Tryz.underlying35 hi0 hz0 hz1 hz2 rfl (by decide) _ _ _ (HSD.out.row.alloc _) ⟨W9.heap.size, 0, none⟩ 1 1 [.int .i64 xl, .int .i64 xa, .int .i64 xb, .slice A1 xv.length C1, .slice A2 yv.length C2] rfl (fun j u hu => new_cells W9.drew [.int .i64 xl, .int .i64 xa, .int .i64 xb, .slice A1 xv.length C1, .slice A2 yv.length C2] 59 j u hu) (one_chV ⟨⟨xl, xa, xb, xv, yv⟩, A1, C1, A2, C2⟩) b1 b2 (by have := HSD.out.sz; rw [World.size_alloc]; omega); have HA := Lib.hid (HSD.out.app (x := ⟨⟨xl, xa, xb, xv, yv⟩, A1, C1, A2, C2⟩) hown hgrow); refine Lib.wp_append_run _ _ _ _ _ rfl _ _ rfl rfl _ _ hr ?_)
      refine hK2.out _ _ (HA.out.lo) (fun hS2 => ?_)
      refine wpAnyH_take (i := 29) (v := v') rfl (by kernel_rfl) (by kernel_rfl) (by kernel_rfl) (fun _ _ _ h => h) (Or.inl ⟨by simp [Region.wanted], fun W _ => by go_simp⟩) hS2 ?_
      simp only [lgT, lgZ, lgS, Act.put, lsT, lsZ, lsS]
      refine wpAnyH_done (by kernel_rfl) ?_ _
      have HT := Lib.hid HA.out
      clear HA
      go_wp2
      go_roundw
      case rel => exact ⟨i + 1, by go_num, by omega, by rw [HTK.out]; exact HT.out⟩
      case measure => simp [intOf]; omega
    · have HF := Lib.hid (show l.take i = l by rw [List.take_of_length_le]; rw [HN.out]; omega)
      go_wp2
      go_ret
      exact ⟨_, rfl, by have h := HS.out; rw [HF.out] at h; exact h⟩
end Go.Proofs.YtellifcjamedkaaGreat
namespace Go.Proofs.YtellifcjamedkaaGreat
open Go.RowKit Base Base2
def greatC1 (x : ChV) : Bool := decide (20 < x.c.was.length) || decide (20 < x.c.now.length)
def greatCT (l : List ChV) : Bool := decide (60 < l.length) || l.any greatC1
set_option maxRecDepth 100000 in
set_option maxHeartbeats 8000000 in
theorem great17 (a : Option Addr) (p : Nat) (l : List ChV) (w : World) (hc : ∀ W, Below w.heap.size w W → ∀ (i : Nat) (x : ChV), l[i]? = some x → ∃ g o, a = some ⟨g, o, none⟩ ∧ W.cell? ⟨g, o + i * 5 + 3, none⟩ = some (.slice x.a1 x.c.was.length x.c1) ∧ W.cell? ⟨g, o + i * 5 + 4, none⟩ = some (.slice x.a2 x.c.now.length x.c2)) :
    Calls Tryz.prog 6 #[.slice a l.length p] w fun e w' => e = .returned (.bool (greatCT l)) ∧ Below w.heap.size w w' := by
  have HC := Lib.hid hc
  have HS0 := Lib.hid (Below.refl w.heap.size w)
  obtain ⟨n, hn⟩ : ∃ n, l.length = n := ⟨_, rfl⟩
  have HN := Lib.hid hn
  have HNX := Lib.hid (show ∀ i, i < n → ∃ x, l[i]? = some x from fun i h => ⟨l[i]'(by omega), by simp [show i < l.length by omega]⟩)
  rw [hn]
  clear hc hn
  by_cases hb : 60 < n
  · have HB := Lib.hid (show greatCT l = true by unfold greatCT; rw [HN.out]; simp [hb])
    go_enter Tryz.func6, Tryz.ntmps6
    go_wp2
    go_ret
    exact ⟨ret_bool HB.out.symm, HS0.out⟩
  · have HB := Lib.hid (show greatCT l = l.any greatC1 by unfold greatCT; rw [HN.out]; simp [hb])
    go_enter Tryz.func6, Tryz.ntmps6
    go_wp2
    go_loopw [3] (fun vi W => ∃ i : Nat, vi = .int .i64 (i : Int) ∧ i ≤ n ∧ (∀ (j : Nat) (x : ChV), j < i → l[j]? = some x → greatC1 x = false) ∧ Below w.heap.size w W) (fun vi _ => n - (intOf vi).toNat)
    case atStart => exact ⟨0, rfl, Nat.zero_le _, fun j r hj => absurd hj (Nat.not_lt_zero _), HS0.out⟩
    case round =>
      clear HS0
      obtain ⟨i, rfl, hi, hk, hs⟩ := hrel
      have HK := Lib.hid hk
      have HS := Lib.hid hs
      clear hk hs
      by_cases hlx : i < n
      · obtain ⟨x, hx⟩ := HNX.out i hlx
        obtain ⟨g, o, rfl, k3, k4⟩ := HC.out _ HS.out i x hx
        have HX := Lib.hid hx
        clear hx
        have HGO := Lib.hid (show greatC1 x = (decide (20 < x.c.was.length) || decide (20 < x.c.now.length)) from rfl)
        have HGT := Lib.hid (fun (h : greatC1 x = true) => show greatCT l = true by rw [HB.out]; exact List.any_eq_true.2 ⟨x, List.mem_of_getElem? HX.out, h⟩)
        have HGF := Lib.hid (fun (h : greatC1 x = false) => show ∀ (j : Nat) (y : ChV), j < i + 1 → l[j]? = some y → greatC1 y = false by
          intro j y hj hy
          rcases Nat.lt_succ_iff_lt_or_eq.1 hj with hj | rfl
          · exact HK.out j y hj hy
          · rw [HX.out] at hy
            obtain rfl := Option.some.inj hy
            exact h)
        generalize x.c.was.length = m1 at *
        generalize x.c.now.length = m2 at *
        by_cases h1 : 20 < m1
        · have HG1 := Lib.hid (HGT.out (by rw [HGO.out]; simp [h1]))
          go_wp2
          go_ret
          exact ⟨ret_bool HG1.out.symm, HS.out⟩
        · by_cases h2 : 20 < m2
          · have HG1 := Lib.hid (HGT.out (by rw [HGO.out]; simp [h2]))
            go_wp2
            go_ret
            exact ⟨ret_bool HG1.out.symm, HS.out⟩
          · have HG1 := Lib.hid (HGF.out (by rw [HGO.out]; simp [h1, h2]))
            go_wp2
            go_roundw
            case rel => exact ⟨i + 1, by go_num, by omega, HG1.out, HS.out⟩
            case measure => simp [intOf]; omega
      · have HE := Lib.hid (show greatCT l = false by
          rw [HB.out]
          refine List.any_eq_false.2 fun x hx => ?_
          obtain ⟨j, hj⟩ := List.getElem?_of_mem hx
          have := (List.getElem?_eq_some_iff.1 hj).1
          simp [HK.out j x (by have := HN.out; omega) hj])
        go_wp2
        go_ret
        exact ⟨ret_bool HE.out.symm, HS.out⟩
end Go.Proofs.YtellifcjamedkaaGreat
