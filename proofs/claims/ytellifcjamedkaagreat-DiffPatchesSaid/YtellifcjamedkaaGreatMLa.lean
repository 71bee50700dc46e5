/- What the law of patches calls. The walk of DiffPatches. What the frame of DiffPatches wants. -/
import Derived.Test.YtellifcjamedkaaGreatMSe
import Derived.Test.YtellifcjamedkaaGreatMIn
import Derived.Test.YtellifcjamedkaaGreatDfSame
import Derived.Test.YtellifcjamedkaaGreatMTu
import Derived.Test.YtellifcjamedkaaGreatMPs
import Derived.Test.YtellifcjamedkaaGreatMAl
import Derived.Deep.CutRange
namespace Go.Proofs.YtellifcjamedkaaGreat
open Go.RowKit Base Base2
theorem restC_of {B : Nat} {W : World} {o : List ChV} {v : Value} (h : W.ownsRow B 59 5 v o.length (flatK o)) : ∃ a c, v = .slice a o.length c ∧ o.length ≤ c ∧ RowsK 59 5 W a (o.map ChV.cells) := by
  rcases h.2 with ⟨rfl, hn⟩ | ⟨g, cap, cur, rfl, _, hg, hc, _, hs, ht⟩
  · have e : o = [] := List.length_eq_zero_iff.1 hn
    subst e
    exact ⟨none, 0, rfl, Nat.le_refl _, .inl rfl⟩
  · refine ⟨_, cap, rfl, hc, .inr ⟨g, 0, cur, rfl, hg, fun i xs hi j u hu => ?_⟩⟩
    rw [List.getElem?_map] at hi
    cases hx : o[i]? with
    | none => rw [hx] at hi; cases hi
    | some x =>
      rw [hx] at hi
      cases hi
      have h1 := flatK_get o i x hx j u hu
      rw [← ht] at h1
      have h2 := (List.getElem?_eq_some_iff.1 h1).1
      rw [List.length_take] at h2
      rw [List.getElem?_take_of_lt (by omega)] at h1
      rw [Nat.zero_add]
      simpa using h1
/-- Changes that lie, as the calls want them. -/
structure ChL (W : World) (D : List ChT) (o : List ChV) (oa : Option Addr) (oc : Nat) : Prop where
  r : RowsK 59 5 W oa (o.map ChV.cells)
  c : o.length ≤ oc
  v : ∀ y ∈ o, I64s W y.a1 y.c.was ∧ I64s W y.a2 y.c.now
  d : o.map ChV.c = D
theorem ChL.below {W W' : World} {D : List ChT} {o : List ChV} {oa : Option Addr} {oc : Nat} (h : ChL W D o oa oc) (hb : Below W.heap.size W W') : ChL W' D o oa oc :=
  ⟨h.r.below hb, h.c, fun y hy => ⟨(h.v y hy).1.below hb, (h.v y hy).2.below hb⟩, h.d⟩
theorem chL_of {B : Nat} {W0 W : World} {o : List ChV} {v : Value} {D : List ChT} (h : CpS B W0 o v W) (hd : o.map ChV.c = D) : ∃ a c, v = .slice a o.length c ∧ ChL W D o a c := by
  obtain ⟨a, c, hv, hc, hr⟩ := restC_of h.row
  exact ⟨a, c, hv, hr, hc, fun y hy => ⟨(h.val y hy).1.i64s, (h.val y hy).2.i64s⟩, hd⟩
theorem ChL.len {W : World} {D : List ChT} {o : List ChV} {oa : Option Addr} {oc : Nat} (h : ChL W D o oa oc) {m : Nat} (hs : D.length ≤ m) : o.length ≤ m := by rw [← h.d, List.length_map] at hs; exact hs
theorem set_in {W : World} {B g : Nat} {v : Slots} {b : BookT} {cs : Array Value} (hf : BookFrom B v b) (hi : BookIn W v b) (hg : g < B) : BookIn (W.setRow g cs) v b :=
  book_farP hf hi (by simp) (fun i h => setRow_ne _ (by omega))
theorem set_lo {W V : World} {g : Nat} {o : Obj} {cs : Array Value} (h : Below V.heap.size V W) (hg : V.heap.size ≤ g) (hb : W.heap[g]? = some o) : Below V.heap.size V (W.setRow g cs) :=
  h.trans (((TurnsK.refl (fun k _ => k = g) W).setRow hb rfl cs).lo h.size (fun k ob hk a => by omega))
theorem cells5 {v : Slots} {b : BookT} : (cellsB v b).size = 5 ∧ (cellsB v b).all (·.oneCell') = true := ⟨rfl, by simp [cellsB, Value.oneCell']⟩
theorem great_few {L : List ChV} (h : greatCT L = false) : L.length ≤ 60 ∧ ∀ x ∈ L, x.c.was.length ≤ 20 ∧ x.c.now.length ≤ 20 := by
  unfold greatCT at h
  rw [Bool.or_eq_false_iff, decide_eq_false_iff_not] at h
  refine ⟨by omega, fun x hx => ?_⟩
  have h2 := List.any_eq_false.1 h.2 x hx
  unfold greatC1 at h2
  simp only [Bool.or_eq_true, decide_eq_true_eq, not_or] at h2
  omega
theorem great_ch (a : Option Addr) (p : Nat) (L : List ChV) (w : World) (h : ChF w a L) : Calls Tryz.prog 6 #[.slice a L.length p] w fun e w' => e = .returned (.bool (greatCT L)) ∧ Below w.heap.size w w' :=
  great17 a p L w (fun W hW i x hx => by
    obtain ⟨g, o, h1, _, _, _, h2, h3⟩ := h.c W hW i x hx
    exact ⟨g, o, h1, h2, h3⟩)
theorem of_ch (a : Option Addr) (p : Nat) (L : List ChV) (w : World) (h : ChF w a L) (hl : L.length ≤ 60) : Calls Tryz.prog 8 #[.slice a L.length p] w fun e w' => ∃ (oa : Option Addr) (oc : Nat), e = .returned (.slice oa L.length oc) ∧ ChL w' (L.map ChV.c) L oa oc ∧ Below w.heap.size w w' := by
  refine (of8 a p L w (by omega) h.c).mono ?_
  rintro e w' ⟨vo, rfl, hs⟩
  obtain ⟨oa, oc, rfl, hc, hr⟩ := restC_of hs.row
  exact ⟨oa, oc, rfl, ⟨hr, hc, fun y hy => ⟨(h.v y hy).1.below hs.lo, (h.v y hy).2.below hs.lo⟩, rfl⟩, hs.lo⟩
/-- The program's Patch, whatever the changes are. -/
theorem patch_ch (v : Slots) (a : BookT) (D : List ChT) (o : List ChV) (oa : Option Addr) (oc : Nat) (W : World) (ha : BookIn W v a) (ka : BookOk 200 a) (h : ChL W D o oa oc) (hin : ∀ c ∈ D, in6 c.a ∧ in6 c.b ∧ ∀ z ∈ c.now, in6 z) (hl : D.length ≤ 60) (hs : ∀ x ∈ o, x.c.was.length ≤ 20 ∧ x.c.now.length ≤ 20) :
    Calls Tryz.prog 7 #[.agg (cellsB v a), .slice oa o.length oc] W (PatchOut W (patchP a D)) := by
  have hd := h.d
  subst hd
  have ka2 : BookOk 2000 a := ka.mono (by omega)
  have hlo : o.length ≤ 60 := by rw [List.length_map] at hl; exact hl
  cases hm : mayT a with
  | false => exact patch_no1 v a _ _ W ha ka2 hm
  | true =>
    cases hmc : mayCh (o.map ChV.c) with
    | false => exact patch_no2 v a oa oc o W ha ka2 hm hmc h.r h.v (fun x hx => by have := hs x hx; omega) (by omega)
    | true => exact patch_yes v a oa oc o W ha ka2 hm hmc h.r h.c h.v (fun x hx => by have := hs x hx; omega) (by omega) (fun _ => lay_ok ka hin (by omega))
/-- .. and their values lie in blocks of numbers. -/
structure ChLT (W : World) (D : List ChT) (o : List ChV) (oa : Option Addr) (oc : Nat) : Prop where
  l : ChL W D o oa oc
  t : ∀ x ∈ o, ValAt W x.a1 x.c.was ∧ ValAt W x.a2 x.c.now
theorem turn_ch (D : List ChT) (o : List ChV) (oa : Option Addr) (oc : Nat) (W : World) (h : ChL W D o oa oc) (hl : o.length ≤ 60) (hs : ∀ x ∈ o, x.c.was.length ≤ 20 ∧ x.c.now.length ≤ 20) :
    Calls Tryz.prog 10 #[.slice oa o.length oc] W fun e w' => ∃ (p : List ChV) (pa : Option Addr) (pc : Nat), e = .returned (.slice pa p.length pc) ∧ ChLT w' (turnT D) p pa pc ∧ Below W.heap.size W w' := by
  refine (turn14 oa oc o W (by omega) h.r h.v (fun x hx => by have := hs x hx; omega)).mono ?_
  rintro e w' ⟨vo, p, rfl, hp, hd⟩
  obtain ⟨pa, pc, rfl, hl⟩ := chL_of (D := turnT D) hp (hd.trans (congrArg turnT h.d))
  exact ⟨p, pa, pc, rfl, ⟨hl, hp.val⟩, hp.lo⟩
theorem same_ch (o p : List ChV) (oa pa : Option Addr) (oc pc : Nat) (W : World) (h : ChL W (o.map ChV.c) o oa oc) (k : ChL W (p.map ChV.c) p pa pc) (hl : o.length ≤ 60) (hs : ∀ x ∈ o, x.c.was.length ≤ 20 ∧ x.c.now.length ≤ 20) (R : Bool) (hR : R = true ↔ o.map ChV.c = p.map ChV.c) :
    Calls Tryz.prog 11 #[.slice oa o.length oc, .slice pa p.length pc] W fun e w' => e = .returned (.bool R) ∧ Below W.heap.size W w' :=
  same15 oa pa oc pc o p W h.r k.r h.v k.v (fun x hx => by have := hs x hx; omega) R hR (by omega)
theorem rsame_ch (o p : List ChV) (oa pa : Option Addr) (oc pc : Nat) (W : World) (h : ChF W oa o) (k : ChF W pa p) (hl : o.length ≤ 60) (hs : ∀ x ∈ o, x.c.was.length ≤ 20 ∧ x.c.now.length ≤ 20) (R : Bool) (hR : R = true ↔ o.map ChV.c = p.map ChV.c) :
    Calls Tryz.prog 12 #[.slice oa o.length oc, .slice pa p.length pc] W fun e w' => e = .returned (.bool R) ∧ Below W.heap.size W w' := by
  refine (rsameI oa pa oc pc o p W (h.c W (Below.refl _ _)) (k.c W (Below.refl _ _)) h.v k.v (fun x hx => by have := hs x hx; omega) R hR (by omega)).mono ?_
  rintro e w' ⟨rfl, m, rfl⟩
  exact ⟨rfl, below_drews m⟩
theorem ChL.chF {W : World} {D : List ChT} {o : List ChV} {oa : Option Addr} {oc : Nat} (h : ChL W D o oa oc) : ChF W oa o :=
  ⟨fun W' hb i x hx => by
    rcases (h.r.below hb) with h0 | ⟨g, off, cs, rfl, hg, hc⟩
    · rw [List.map_eq_nil_iff] at h0; rw [h0] at hx; cases hx
    · have h2 := hc i x.cells (by rw [List.getElem?_map, hx]; rfl)
      exact ⟨g, off, rfl, by rw [cell_of_row _ _ _ _ _ _ hg]; exact h2 0 _ rfl, by rw [cell_of_row _ _ _ _ _ _ hg]; exact h2 1 _ rfl, by rw [cell_of_row _ _ _ _ _ _ hg]; exact h2 2 _ rfl, by rw [cell_of_row _ _ _ _ _ _ hg]; exact h2 3 _ rfl, by rw [cell_of_row _ _ _ _ _ _ hg]; exact h2 4 _ rfl⟩, h.v⟩
theorem plain_ch (D : List ChT) (o : List ChV) (oa : Option Addr) (oc : Nat) (W : World) (h : ChLT W D o oa oc) (hl : o.length ≤ 60) :
    Calls Tryz.prog 9 #[.slice oa o.length oc] W fun e w' => ∃ (ta : Option Addr) (tc : Nat), e = .returned (.slice ta o.length tc) ∧ ChF w' ta o ∧ o.length ≤ tc ∧ Below W.heap.size W w' := by
  refine (plain11 oa oc o W (by omega) h.l.chF.c h.t).mono ?_
  rintro e w' ⟨vo, rfl, hs⟩
  obtain ⟨ta, tc, rfl, hc, hat⟩ := chAt_own hs.row
  exact ⟨ta, tc, rfl, ⟨hat, fun x hx => ⟨(hs.val x hx).1.i64s, (hs.val x hx).2.i64s⟩⟩, hc, hs.lo⟩
end Go.Proofs.YtellifcjamedkaaGreat
namespace Go.Proofs.YtellifcjamedkaaGreat
open Go.RowKit Base Base2
open List renaming getElem_toArray → lgT, getElem_cons_zero → lgZ, getElem_cons_succ → lgS, setIfInBounds_toArray → lsT, set_cons_zero → lsZ, set_cons_succ → lsS
theorem zero_ok : BookOk 2000 zeroD := ⟨⟨by simp [zeroD], fun x hx => by simp [zeroD] at hx⟩, ⟨by simp [zeroD], fun x hx => by simp [zeroD] at hx⟩, ⟨by simp [zeroD], fun x hx => by simp [zeroD] at hx⟩, ⟨by simp [zeroD], fun x hx => by simp [zeroD] at hx⟩, in6_zero⟩
theorem fold_ok : ∀ (l : List ChT) {m : Nat} {b : BookT}, BookOk m b → (∀ c ∈ l, in6 c.a ∧ in6 c.b ∧ ∀ z ∈ c.now, in6 z) → BookOk (m + 2 * l.length) (l.foldl setChT b)
  | [], _, _, h, _ => h.up (by simp)
  | c :: l, m, b, h, hi => by
    have hc := hi c (List.mem_cons_self ..)
    have h2 := fold_ok l (setch_ok h hc.1 hc.2.1 hc.2.2) (fun d hd => hi d (List.mem_cons_of_mem _ hd))
    rw [List.foldl_cons, List.length_cons]
    exact h2.up (by omega)
theorem ref_ok {a : BookT} {l : List ChT} (h : BookOk 200 a) (hi : ∀ c ∈ l, in6 c.a ∧ in6 c.b ∧ ∀ z ∈ c.now, in6 z) (hl : l.length ≤ 60) : BookOk 2000 (refPatch a l).1 := by
  unfold refPatch
  rw [patchGo_all]
  by_cases hq : l.all (fun c => valueT (rowsD a) c == c.was) = true
  · rw [if_pos hq]
    dsimp only
    split
    · exact (fold_ok l h hi).up (by omega)
    · exact zero_ok
  · rw [if_neg hq]
    exact zero_ok
theorem infoChL : (Tryz.prog.info? 43).map (·.size) = some 5 := by kernel_rfl
theorem ChF.sub {w : World} {g o i : Nat} {p : List ChV} {y : ChV} (h : ChF w (some ⟨g, o, none⟩) p) (hy : p[i]? = some y) : ChF w (some ⟨g, o + i * 5, none⟩) [y] :=
  ⟨fun W hb j x hj => by
    obtain ⟨rfl, rfl⟩ : j = 0 ∧ y = x := by
      cases j with
      | zero => exact ⟨rfl, by simpa using hj⟩
      | succ j => simp at hj
    obtain ⟨g', o', ha, h1⟩ := h.c W hb i y hy
    obtain ⟨rfl, rfl⟩ : g = g' ∧ o = o' := by simpa using ha
    exact ⟨g, o + i * 5, rfl, by rw [Nat.zero_mul, Nat.add_zero]; exact h1⟩, fun x hx => by rw [List.mem_singleton.1 hx]; exact h.v y (List.mem_of_getElem? hy)⟩
theorem ChF.new (W : World) (x : ChV) (h : I64s W x.a1 x.c.was ∧ I64s W x.a2 x.c.now) : ChF (W.alloc (.cells x.cells.toArray 43)) (some ⟨W.heap.size, 0, none⟩) [x] :=
  ⟨fun W' hb i y hi => by
    obtain ⟨g, o, ha, k0, k1, k2, k3, k4⟩ := chAt_one W x 43 i y hi
    obtain ⟨rfl, rfl⟩ : W.heap.size = g ∧ 0 = o := by simpa using ha
    have hk : ∀ j, W'.cell? ⟨W.heap.size, j, none⟩ = (W.alloc (.cells x.cells.toArray 43)).cell? ⟨W.heap.size, j, none⟩ := fun j => World.cell?_of_block (a := ⟨W.heap.size, j, none⟩) (hb.block _ (by simp))
    exact ⟨_, _, rfl, by rw [hk]; exact k0, by rw [hk]; exact k1, by rw [hk]; exact k2, by rw [hk]; exact k3, by rw [hk]; exact k4⟩, fun y hy => by
    rw [List.mem_singleton.1 hy]
    exact ⟨h.1.below ((Below.refl _ _).alloc (Nat.le_refl _) _), h.2.below ((Below.refl _ _).alloc (Nat.le_refl _) _)⟩⟩
theorem ChF.five {w : World} {L : List ChV} {g o i : Nat} {x : ChV} (h : ChF w (some ⟨g, o, none⟩) L) (hx : L[i]? = some x) (W : World) (hb : Below w.heap.size w W) : W.cell? ⟨g, o + i * 5, none⟩ = some (.int .i64 x.c.l) ∧ W.cell? ⟨g, o + i * 5 + 1, none⟩ = some (.int .i64 x.c.a) ∧ W.cell? ⟨g, o + i * 5 + 2, none⟩ = some (.int .i64 x.c.b) ∧ W.cell? ⟨g, o + i * 5 + 3, none⟩ = some (.slice x.a1 x.c.was.length x.c1) ∧ W.cell? ⟨g, o + i * 5 + 4, none⟩ = some (.slice x.a2 x.c.now.length x.c2) := by
  obtain ⟨g', o', ha, k⟩ := h.c W hb i x hx
  obtain ⟨rfl, rfl⟩ : g = g' ∧ o = o' := by simpa using ha
  exact k
set_option maxRecDepth 100000 in
set_option maxHeartbeats 16000000 in
theorem patches3 (v : Slots) (a : BookT) (la ma : Option Addr) (lc mc : Nat) (L M : List ChV) (w : World) (ha : BookIn w v a) (hwa : BookWf a) (hl : ChF w la L) (hm : ChF w ma M) (hin : ∀ x ∈ L, in6 x.c.l ∧ in6 x.c.a ∧ in6 x.c.b ∧ ∀ z ∈ x.c.now, in6 z) :
    Calls Tryz.prog 3 #[.agg (cellsB v a), .slice la L.length lc, .slice ma M.length mc] w fun e w' => e = .returned (.bool true) ∧ Below w.heap.size w w' := by
  obtain ⟨W0, hW0⟩ : ∃ x, w.alloc (.cells (cellsB v a) 27) = x := ⟨_, rfl⟩
  have hA : Below w.heap.size w W0 := by rw [← hW0]; exact (Below.refl _ w).alloc (Nat.le_refl _) _
  have hg1 : BoxB W0 w.heap.size v a := by rw [← hW0]; exact heap_alloc_new w _
  have HLO := Lib.hid (fun W (h : Below W0.heap.size W0 W) => show Below w.heap.size w W from hA.trans (h.mono hA.size))
  have HL1 := Lib.hid (fun W (h : Below W0.heap.size W0 W) => load_book (hg1.below h (lt_of_blk hg1)))
  have HBA := Lib.hid (fun W (h : Below W0.heap.size W0 W) => ha.below (HLO.out W h))
  have HCL := Lib.hid (fun W (h : Below W0.heap.size W0 W) => hl.below (HLO.out W h))
  have HCM := Lib.hid (fun W (h : Below W0.heap.size W0 W) => hm.below (HLO.out W h))
  have hal := alive5 W0
  have HAL := Lib.hid (fun (_ : Unit) => hal)
  have HGA := Lib.hid (fun W => great8 v a W)
  have HGL := Lib.hid (fun W (h : Below W0.heap.size W0 W) => great_ch la lc L W (HCL.out W h))
  have HGM := Lib.hid (fun W (h : Below W0.heap.size W0 W) => great_ch ma mc M W (HCM.out W h))
  have HIN := Lib.hid hin
  obtain ⟨n, hn⟩ : ∃ n, L.length = n := ⟨_, rfl⟩
  have HNN := Lib.hid hn
  obtain ⟨nm, hnm⟩ : ∃ n, M.length = n := ⟨_, rfl⟩
  have HNM := Lib.hid hnm
  rw [hn] at HGL ⊢
  rw [hnm] at HGM ⊢
  clear hg1 hA ha hl hm hal hin hn hnm
  cases hga : greatT a with
  | true =>
    rw [hga] at HGA
    clear hga hwa HBA HCL HCM HGL HGM HIN HNN HNM
    go_enter Tryz.func3, Tryz.ntmps3
    go_wp2_with (first | ((with_reducible refine atLoadS (ty := 27) (x := .tmp 3) rfl ?_); refine loadE (by rfl) 27 (.tmp 3) rfl _ (.agg (cellsB v a)) rfl (HL1.out _ (by first | exact H4.out | exact H3.out | exact H2.out | exact H1.out)) ?_) | (go_at_call 4; refine (HAL.out ()).mono ?_; rintro e w1 ⟨rfl, hb⟩; have H1 := Lib.hid hb; clear hb) | (go_at_call 5; refine (HGA.out _).mono ?_; rintro e w2 ⟨rfl, hb⟩; have H2 := Lib.hid (H1.out.trans (hb.mono H1.out.size)); clear hb))
    go_ret
    exact ⟨rfl, HLO.out _ H2.out⟩
  | false =>
    have ka := ok_of_great hga hwa
    rw [hga] at HGA
    clear hga hwa
    cases hgl : greatCT L with
    | true =>
      rw [hgl] at HGL
      clear hgl HBA HCL HCM HGM HIN HNN HNM ka
      go_enter Tryz.func3, Tryz.ntmps3
      go_wp2_with (first | ((with_reducible refine atLoadS (ty := 27) (x := .tmp 3) rfl ?_); refine loadE (by rfl) 27 (.tmp 3) rfl _ (.agg (cellsB v a)) rfl (HL1.out _ (by first | exact H4.out | exact H3.out | exact H2.out | exact H1.out)) ?_) | (go_at_call 4; refine (HAL.out ()).mono ?_; rintro e w1 ⟨rfl, hb⟩; have H1 := Lib.hid hb; clear hb) | (go_at_call 5; refine (HGA.out _).mono ?_; rintro e w2 ⟨rfl, hb⟩; have H2 := Lib.hid (H1.out.trans (hb.mono H1.out.size)); clear hb) | (go_at_call 6; refine (HGL.out _ H2.out).mono ?_; rintro e w3 ⟨rfl, hb⟩; have H3 := Lib.hid (H2.out.trans (hb.mono H2.out.size)); clear hb))
      go_ret
      exact ⟨rfl, HLO.out _ H3.out⟩
    | false =>
      have hfl := great_few hgl
      rw [hgl] at HGL
      clear hgl
      cases hgm : greatCT M with
      | true =>
        rw [hgm] at HGM
        clear hgm hfl HBA HCL HCM HIN HNN HNM ka
        go_enter Tryz.func3, Tryz.ntmps3
        go_wp2_with (first | ((with_reducible refine atLoadS (ty := 27) (x := .tmp 3) rfl ?_); refine loadE (by rfl) 27 (.tmp 3) rfl _ (.agg (cellsB v a)) rfl (HL1.out _ (by first | exact H4.out | exact H3.out | exact H2.out | exact H1.out)) ?_) | (go_at_call 4; refine (HAL.out ()).mono ?_; rintro e w1 ⟨rfl, hb⟩; have H1 := Lib.hid hb; clear hb) | (go_at_call 5; refine (HGA.out _).mono ?_; rintro e w2 ⟨rfl, hb⟩; have H2 := Lib.hid (H1.out.trans (hb.mono H1.out.size)); clear hb) | (have hq := H3.out; clear hq; go_at_call 6; refine (HGM.out _ H3.out).mono ?_; rintro e w4 ⟨rfl, hb⟩; have H4 := Lib.hid (H3.out.trans (hb.mono H3.out.size)); clear hb) | (go_at_call 6; refine (HGL.out _ H2.out).mono ?_; rintro e w3 ⟨rfl, hb⟩; have H3 := Lib.hid (H2.out.trans (hb.mono H2.out.size)); clear hb))
        go_ret
        exact ⟨rfl, HLO.out _ H4.out⟩
      | false =>
        have hfm := great_few hgm
        rw [hgm] at HGM
        clear hgm
        have HFL := Lib.hid hfl
        have HFM := Lib.hid hfm
        have HKA := Lib.hid ka
        clear hfl hfm ka
        go_enter Tryz.func3, Tryz.ntmps3
        go_upto_region 5 with (first | ((with_reducible refine atLoadS (ty := 27) (x := .tmp 3) rfl ?_); refine loadE (by rfl) 27 (.tmp 3) rfl _ (.agg (cellsB v a)) rfl (HL1.out _ (by first | exact H4.out | exact H3.out | exact H2.out | exact H1.out)) ?_) | (go_at_call 4; refine (HAL.out ()).mono ?_; rintro e w1 ⟨rfl, hb⟩; have H1 := Lib.hid hb; clear hb) | (go_at_call 5; refine (HGA.out _).mono ?_; rintro e w2 ⟨rfl, hb⟩; have H2 := Lib.hid (H1.out.trans (hb.mono H1.out.size)); clear hb) | (have hq := H3.out; clear hq; go_at_call 6; refine (HGM.out _ H3.out).mono ?_; rintro e w4 ⟨rfl, hb⟩; have H4 := Lib.hid (H3.out.trans (hb.mono H3.out.size)); clear hb) | (go_at_call 6; refine (HGL.out _ H2.out).mono ?_; rintro e w3 ⟨rfl, hb⟩; have H3 := Lib.hid (H2.out.trans (hb.mono H2.out.size)); clear hb))
        have HOF := Lib.hid (fun W (h : Below W0.heap.size W0 W) => of_ch la lc L W (HCL.out W h) HFL.out.1)
        have HPP := Lib.hid (fun (oa : Option Addr) (oc : Nat) W (h : Below W0.heap.size W0 W) (hl : ChL W (L.map ChV.c) L oa oc) => patch_ch v a (L.map ChV.c) L oa oc W (HBA.out W h) HKA.out hl (fun c hc => by obtain ⟨x, hx, rfl⟩ := List.mem_map.1 hc; exact (HIN.out x hx).2) (by rw [List.length_map]; exact HFL.out.1) HFL.out.2)
        rw [HNN.out] at HOF HPP
        obtain ⟨pb, pe, hpp⟩ : ∃ pb pe, patchP a (L.map ChV.c) = (pb, pe) := ⟨_, _, rfl⟩
        have HPE := Lib.hid hpp
        rw [hpp] at HPP
        clear hpp
        unfold PatchOut at HPP
        dsimp only at HPP
        go_cut [7, 8] from 26 to 32 (fun x7 x8 wx => ∃ (g : Nat) (vx : Slots), x7 = .pointer (some ⟨g, 0, none⟩) ∧ x8 = .int .i64 pe ∧ BoxB wx g vx pb ∧ BookIn wx vx pb ∧ Below w4.heap.size w4 wx)
        case first =>
          rename_i J K' hJ hK'
          have hC : Below w4.heap.size w4 w4.drew := (Below.refl _ _).drew
          refine wp_region_held_drew (S := fun W => Below w4.heap.size w4 W) (by kernel_rfl) (hC) (fun hS => ?_)
          refine wpAnyH_take (i := 0) (v := .agg (cellsB v a)) rfl (by kernel_rfl) (by kernel_rfl) (by kernel_rfl) (fun _ _ _ h => h) (yields_atD (by rfl) 27 (.tmp 3) rfl (.pointer (some ⟨w.heap.size, 0, none⟩)) _ rfl (fun W hW => HL1.out _ (H4.out.trans ((hW).mono H4.out.size)))) hS ?_
          simp only [lgT, lgZ, Act.put, lsT, lsZ, lsS]
          refine wpAnyH_take (i := 1) (v := .slice la n lc) rfl (by kernel_rfl) (by kernel_rfl) (by kernel_rfl) (fun _ _ _ h => h) (Or.inl ⟨by simp [Region.wanted], fun W _ => by go_simp⟩) hS ?_
          simp only [lgT, lgZ, lgS, Act.put, lsT, lsZ, lsS]
          refine wpAnyH_ready (rs := [2, 7]) (by kernel_rfl) (by simp) ?_
          refine AllReadyH.cons rfl (fun KA hKA => ?_) (AllReadyH.cons rfl (fun KA hKA => ?_) AllReadyH.nil)
          · refine wanted_go rfl ?_
            simp only [lgT, lgZ, lgS]
            go_wp2_with (go_at_call 8; refine (HOF.out _ (H4.out.trans ((hC).mono H4.out.size))).mono ?_; rintro e w9 ⟨oa, oc, rfl, hl9, hb⟩; have HP9 := Lib.hid hl9; have HB9 := Lib.hid hb; clear hl9 hb)
            have hC1 := hC.trans (HB9.out.mono hC.size)
            refine hKA.out _ _ hC1 (fun qhC1 => ?_)
            refine wpAnyH_ready (rs := [3, 7]) (by kernel_rfl) (by simp) ?_
            refine AllReadyH.cons rfl (fun KB hKB => ?_) (AllReadyH.cons rfl (fun KB hKB => ?_) AllReadyH.nil)
            · refine wanted_go rfl ?_
              simp only [lgT, lgZ, lgS]
              go_wp2_with (go_at_call 7; refine (HPP.out oa oc w9 (H4.out.trans ((hC1).mono H4.out.size)) (HP9.out)).mono ?_; rintro e w10 ⟨⟨vy, rfl, hy, hfy⟩, hb⟩; have HY := Lib.hid hy; have HFY := Lib.hid hfy; have HB10 := Lib.hid hb; clear hy hfy hb)
              have hC2 := hC1.trans (HB10.out.mono hC1.size)
              refine hKB.out _ _ hC2 (fun qhC2 => ?_)
              refine wpAnyH_take (i := 4) (v := .tuple #[.agg (cellsB vy pb), .int .i64 pe]) rfl (by kernel_rfl) (by kernel_rfl) (by kernel_rfl) (fun _ _ _ h => h) (Or.inl ⟨by simp [Region.wanted], fun W _ => by go_simp⟩) qhC2 ?_
              simp only [lgT, lgZ, lgS, Act.put, lsT, lsZ, lsS]
              refine wpAnyH_take (i := 5) (v := .agg (cellsB vy pb)) rfl (by kernel_rfl) (by kernel_rfl) (by kernel_rfl) (fun _ _ _ h => h) (Or.inl ⟨by simp [Region.wanted], fun W _ => by go_simp⟩) qhC2 ?_
              simp only [lgT, lgZ, lgS, Act.put, lsT, lsZ, lsS]
              refine wpAnyH_take (i := 6) (v := .int .i64 pe) rfl (by kernel_rfl) (by kernel_rfl) (by kernel_rfl) (fun _ _ _ h => h) (Or.inl ⟨by simp [Region.wanted], fun W _ => by go_simp⟩) qhC2 ?_
              simp only [lgT, lgZ, lgS, Act.put, lsT, lsZ, lsS]
              refine wpAnyH_ready (rs := [7]) (by kernel_rfl) (by simp) ?_
              refine AllReadyH.cons rfl (fun KC hKC => ?_) AllReadyH.nil
              refine wanted_go rfl ?_
              simp only [lgT, lgZ, lgS]
              go_wp2
              have hz9 := heap_alloc_new w10 (.cells #[.slice none 0 0, .slice none 0 0, .slice none 0 0, .slice none 0 0, .int .i64 0] 27)
              have hb9 : Below (w10).heap.size w10 ((w10).alloc (.cells #[.slice none 0 0, .slice none 0 0, .slice none 0 0, .slice none 0 0, .int .i64 0] 27)) := (Below.refl _ _).alloc (Nat.le_refl _) _
              have hC3 := hC2.trans (hb9.mono hC2.size)
              refine hKC.out _ _ hC3 (fun qhC3 => ?_)
              have hzf : (w10.alloc (.cells #[.slice none 0 0, .slice none 0 0, .slice none 0 0, .slice none 0 0, .int .i64 0] 27)).heap[w10.heap.size]? = some (.cells #[.slice none 0 0, .slice none 0 0, .slice none 0 0, .slice none 0 0, .int .i64 0] 27 (0, 0)) := hz9
              have hi11 : BookIn ((w10.alloc (.cells #[.slice none 0 0, .slice none 0 0, .slice none 0 0, .slice none 0 0, .int .i64 0] 27)).setRow w10.heap.size (cellsB vy pb)) vy pb := HY.out.below ((hb9).trans (((TurnsK.refl (fun k _ => k = w10.heap.size) (w10.alloc (.cells #[.slice none 0 0, .slice none 0 0, .slice none 0 0, .slice none 0 0, .int .i64 0] 27))).setRow hz9 rfl _).lo (by simp) (fun k ob hk a => by omega)))
              have hl11 : Below w4.heap.size w4 ((w10.alloc (.cells #[.slice none 0 0, .slice none 0 0, .slice none 0 0, .slice none 0 0, .int .i64 0] 27)).setRow w10.heap.size (cellsB vy pb)) := set_lo hC3 hC2.size hzf
              have hb11 : BoxB ((w10.alloc (.cells #[.slice none 0 0, .slice none 0 0, .slice none 0 0, .slice none 0 0, .int .i64 0] 27)).setRow w10.heap.size (cellsB vy pb)) w10.heap.size vy pb := setRow_heap _ _ _ _ _ _ hzf
              refine wpAnyH_ready (rs := [8]) (by kernel_rfl) (by simp) ?_
              refine AllReadyH.cons rfl (fun KS hKS => ?_) AllReadyH.nil
              refine wanted_go rfl ?_
              simp only [lgT, lgZ, lgS]
              refine wp_store_row 27 (.tmp 7) (.tmp 31) rfl w10.heap.size (cellsB vy pb) rfl rfl 27 _ hzf info27 rfl cells5.2 ?_
              refine hKS.out _ _ hl11 (fun qS => ?_)
              refine wpAnyH_take (i := 9) (v := .int .i64 pe) rfl (by kernel_rfl) (by kernel_rfl) (by kernel_rfl) (fun _ _ _ h => h) (Or.inl ⟨by simp [Region.wanted], fun W _ => by go_simp⟩) qS ?_
              simp only [lgT, lgZ, lgS, Act.put, lsT, lsZ, lsS]
              refine wpAnyH_done (by kernel_rfl) ?_ _
              refine hK' _ _ (Met.intro (hJ _ _ ?_))
              (repeat apply Exists.intro)
              exact ⟨⟨w10.heap.size, vy, rfl, rfl, hb11, hi11, hl11⟩, rfl⟩
            · refine wanted_go rfl ?_
              simp only [lgT, lgZ, lgS]
              go_wp2
              have hz9 := heap_alloc_new w9 (.cells #[.slice none 0 0, .slice none 0 0, .slice none 0 0, .slice none 0 0, .int .i64 0] 27)
              have hb9 : Below (w9).heap.size w9 ((w9).alloc (.cells #[.slice none 0 0, .slice none 0 0, .slice none 0 0, .slice none 0 0, .int .i64 0] 27)) := (Below.refl _ _).alloc (Nat.le_refl _) _
              have hC2 := hC1.trans (hb9.mono hC1.size)
              refine hKB.out _ _ hC2 (fun qhC2 => ?_)
              refine wpAnyH_ready (rs := [3]) (by kernel_rfl) (by simp) ?_
              refine AllReadyH.cons rfl (fun KC hKC => ?_) AllReadyH.nil
              refine wanted_go rfl ?_
              simp only [lgT, lgZ, lgS]
              go_wp2_with (go_at_call 7; refine (HPP.out oa oc (w9.alloc (.cells #[.slice none 0 0, .slice none 0 0, .slice none 0 0, .slice none 0 0, .int .i64 0] 27)) (H4.out.trans ((hC2).mono H4.out.size)) (HP9.out.below hb9)).mono ?_; rintro e w10 ⟨⟨vy, rfl, hy, hfy⟩, hb⟩; have HY := Lib.hid hy; have HFY := Lib.hid hfy; have HB10 := Lib.hid hb; clear hy hfy hb)
              have hC3 := hC2.trans (HB10.out.mono hC2.size)
              refine hKC.out _ _ hC3 (fun qhC3 => ?_)
              refine wpAnyH_take (i := 4) (v := .tuple #[.agg (cellsB vy pb), .int .i64 pe]) rfl (by kernel_rfl) (by kernel_rfl) (by kernel_rfl) (fun _ _ _ h => h) (Or.inl ⟨by simp [Region.wanted], fun W _ => by go_simp⟩) qhC3 ?_
              simp only [lgT, lgZ, lgS, Act.put, lsT, lsZ, lsS]
              refine wpAnyH_take (i := 5) (v := .agg (cellsB vy pb)) rfl (by kernel_rfl) (by kernel_rfl) (by kernel_rfl) (fun _ _ _ h => h) (Or.inl ⟨by simp [Region.wanted], fun W _ => by go_simp⟩) qhC3 ?_
              simp only [lgT, lgZ, lgS, Act.put, lsT, lsZ, lsS]
              refine wpAnyH_take (i := 6) (v := .int .i64 pe) rfl (by kernel_rfl) (by kernel_rfl) (by kernel_rfl) (fun _ _ _ h => h) (Or.inl ⟨by simp [Region.wanted], fun W _ => by go_simp⟩) qhC3 ?_
              simp only [lgT, lgZ, lgS, Act.put, lsT, lsZ, lsS]
              have hzf : (w10).heap[w9.heap.size]? = some (.cells #[.slice none 0 0, .slice none 0 0, .slice none 0 0, .slice none 0 0, .int .i64 0] 27 (0, 0)) := (HB10.out.block _ (lt_of_blk hz9)).trans hz9
              have hi11 : BookIn ((w10).setRow w9.heap.size (cellsB vy pb)) vy pb := set_in HFY.out HY.out (by simp)
              have hl11 : Below w4.heap.size w4 ((w10).setRow w9.heap.size (cellsB vy pb)) := set_lo hC3 hC1.size hzf
              have hb11 : BoxB ((w10).setRow w9.heap.size (cellsB vy pb)) w9.heap.size vy pb := setRow_heap _ _ _ _ _ _ hzf
              refine wpAnyH_ready (rs := [8]) (by kernel_rfl) (by simp) ?_
              refine AllReadyH.cons rfl (fun KS hKS => ?_) AllReadyH.nil
              refine wanted_go rfl ?_
              simp only [lgT, lgZ, lgS]
              refine wp_store_row 27 (.tmp 7) (.tmp 31) rfl w9.heap.size (cellsB vy pb) rfl rfl 27 _ hzf info27 rfl cells5.2 ?_
              refine hKS.out _ _ hl11 (fun qS => ?_)
              refine wpAnyH_take (i := 9) (v := .int .i64 pe) rfl (by kernel_rfl) (by kernel_rfl) (by kernel_rfl) (fun _ _ _ h => h) (Or.inl ⟨by simp [Region.wanted], fun W _ => by go_simp⟩) qS ?_
              simp only [lgT, lgZ, lgS, Act.put, lsT, lsZ, lsS]
              refine wpAnyH_done (by kernel_rfl) ?_ _
              refine hK' _ _ (Met.intro (hJ _ _ ?_))
              (repeat apply Exists.intro)
              exact ⟨⟨w9.heap.size, vy, rfl, rfl, hb11, hi11, hl11⟩, rfl⟩
          · refine wanted_go rfl ?_
            simp only [lgT, lgZ, lgS]
            go_wp2
            have hz9 := heap_alloc_new w4.drew (.cells #[.slice none 0 0, .slice none 0 0, .slice none 0 0, .slice none 0 0, .int .i64 0] 27)
            have hb9 : Below (w4.drew).heap.size w4.drew ((w4.drew).alloc (.cells #[.slice none 0 0, .slice none 0 0, .slice none 0 0, .slice none 0 0, .int .i64 0] 27)) := (Below.refl _ _).alloc (Nat.le_refl _) _
            have hC1 := hC.trans (hb9.mono hC.size)
            refine hKA.out _ _ hC1 (fun qhC1 => ?_)
            refine wpAnyH_ready (rs := [2]) (by kernel_rfl) (by simp) ?_
            refine AllReadyH.cons rfl (fun KB hKB => ?_) AllReadyH.nil
            refine wanted_go rfl ?_
            simp only [lgT, lgZ, lgS]
            go_wp2_with (go_at_call 8; refine (HOF.out _ (H4.out.trans ((hC1).mono H4.out.size))).mono ?_; rintro e w9 ⟨oa, oc, rfl, hl9, hb⟩; have HP9 := Lib.hid hl9; have HB9 := Lib.hid hb; clear hl9 hb)
            have hC2 := hC1.trans (HB9.out.mono hC1.size)
            refine hKB.out _ _ hC2 (fun qhC2 => ?_)
            refine wpAnyH_ready (rs := [3]) (by kernel_rfl) (by simp) ?_
            refine AllReadyH.cons rfl (fun KC hKC => ?_) AllReadyH.nil
            refine wanted_go rfl ?_
            simp only [lgT, lgZ, lgS]
            go_wp2_with (go_at_call 7; refine (HPP.out oa oc w9 (H4.out.trans ((hC2).mono H4.out.size)) (HP9.out)).mono ?_; rintro e w10 ⟨⟨vy, rfl, hy, hfy⟩, hb⟩; have HY := Lib.hid hy; have HFY := Lib.hid hfy; have HB10 := Lib.hid hb; clear hy hfy hb)
            have hC3 := hC2.trans (HB10.out.mono hC2.size)
            refine hKC.out _ _ hC3 (fun qhC3 => ?_)
            refine wpAnyH_take (i := 4) (v := .tuple #[.agg (cellsB vy pb), .int .i64 pe]) rfl (by kernel_rfl) (by kernel_rfl) (by kernel_rfl) (fun _ _ _ h => h) (Or.inl ⟨by simp [Region.wanted], fun W _ => by go_simp⟩) qhC3 ?_
            simp only [lgT, lgZ, lgS, Act.put, lsT, lsZ, lsS]
            refine wpAnyH_take (i := 5) (v := .agg (cellsB vy pb)) rfl (by kernel_rfl) (by kernel_rfl) (by kernel_rfl) (fun _ _ _ h => h) (Or.inl ⟨by simp [Region.wanted], fun W _ => by go_simp⟩) qhC3 ?_
            simp only [lgT, lgZ, lgS, Act.put, lsT, lsZ, lsS]
            refine wpAnyH_take (i := 6) (v := .int .i64 pe) rfl (by kernel_rfl) (by kernel_rfl) (by kernel_rfl) (fun _ _ _ h => h) (Or.inl ⟨by simp [Region.wanted], fun W _ => by go_simp⟩) qhC3 ?_
            simp only [lgT, lgZ, lgS, Act.put, lsT, lsZ, lsS]
            have hzf : (w10).heap[w4.heap.size]? = some (.cells #[.slice none 0 0, .slice none 0 0, .slice none 0 0, .slice none 0 0, .int .i64 0] 27 (0, 0)) := (HB10.out.block _ (Nat.lt_of_lt_of_le (lt_of_blk hz9) HB9.out.size)).trans ((HB9.out.block _ (lt_of_blk hz9)).trans hz9)
            have hi11 : BookIn ((w10).setRow w4.heap.size (cellsB vy pb)) vy pb := set_in HFY.out HY.out (Nat.lt_of_lt_of_le (lt_of_blk hz9) HB9.out.size)
            have hl11 : Below w4.heap.size w4 ((w10).setRow w4.heap.size (cellsB vy pb)) := set_lo hC3 (Nat.le_refl _) hzf
            have hb11 : BoxB ((w10).setRow w4.heap.size (cellsB vy pb)) w4.heap.size vy pb := setRow_heap _ _ _ _ _ _ hzf
            refine wpAnyH_ready (rs := [8]) (by kernel_rfl) (by simp) ?_
            refine AllReadyH.cons rfl (fun KS hKS => ?_) AllReadyH.nil
            refine wanted_go rfl ?_
            simp only [lgT, lgZ, lgS]
            refine wp_store_row 27 (.tmp 7) (.tmp 31) rfl w4.heap.size (cellsB vy pb) rfl rfl 27 _ hzf info27 rfl cells5.2 ?_
            refine hKS.out _ _ hl11 (fun qS => ?_)
            refine wpAnyH_take (i := 9) (v := .int .i64 pe) rfl (by kernel_rfl) (by kernel_rfl) (by kernel_rfl) (fun _ _ _ h => h) (Or.inl ⟨by simp [Region.wanted], fun W _ => by go_simp⟩) qS ?_
            simp only [lgT, lgZ, lgS, Act.put, lsT, lsZ, lsS]
            refine wpAnyH_done (by kernel_rfl) ?_ _
            refine hK' _ _ (Met.intro (hJ _ _ ?_))
            (repeat apply Exists.intro)
            exact ⟨⟨w4.heap.size, vy, rfl, rfl, hb11, hi11, hl11⟩, rfl⟩
        case rest =>
          obtain ⟨gx, vx, rfl, rfl, hbx, hix, hlx⟩ := hcut
          have H5 := Lib.hid (H4.out.trans (hlx.mono H4.out.size))
          have HLB := Lib.hid (fun W (h : Below wc.heap.size wc W) => load_book (hbx.below h (lt_of_blk hbx)))
          have HIX := Lib.hid (fun W (h : Below wc.heap.size wc W) => hix.below h)
          clear hbx hix hlx
          obtain ⟨R, hR⟩ : ∃ R : Bool, (R = true ↔ L.map ChV.c = M.map ChV.c) := by
            by_cases h : L.map ChV.c = M.map ChV.c
            · exact ⟨true, by simp [h]⟩
            · exact ⟨false, by simp [h]⟩
          have HOM := Lib.hid (fun W (h : Below W0.heap.size W0 W) => of_ch ma mc M W (HCM.out W h) HFM.out.1)
          have HTU := Lib.hid (fun (oa : Option Addr) (oc : Nat) W (hl : ChL W (L.map ChV.c) L oa oc) => show Calls Tryz.prog 10 #[.slice oa L.length oc] W fun e w' => ∃ (p : List ChV) (pa : Option Addr) (pc : Nat), e = .returned (.slice pa n pc) ∧ p.length = n ∧ ChLT w' (turnT (L.map ChV.c)) p pa pc ∧ Below W.heap.size W w' from by
            refine (turn_ch (L.map ChV.c) L oa oc W hl HFL.out.1 HFL.out.2).mono ?_
            rintro e w' ⟨p, pa, pc, rfl, hp, hb⟩
            have e : p.length = n := by have h := congrArg List.length hp.l.d; simp only [turnT, List.length_map] at h; rw [h, HNN.out]
            exact ⟨p, pa, pc, by rw [e], e, hp, hb⟩)
          have HPL := Lib.hid (fun (p : List ChV) (pa : Option Addr) (pc : Nat) W (hl : ChLT W (turnT (L.map ChV.c)) p pa pc) (hp : p.length = n) => show Calls Tryz.prog 9 #[.slice pa n pc] W fun e w' => ∃ (ta : Option Addr) (tc : Nat), e = .returned (.slice ta n tc) ∧ ChF w' ta p ∧ n ≤ tc ∧ Below W.heap.size W w' from by
            subst hp
            exact plain_ch _ p pa pc W hl (by rw [HNN.out.symm]; exact HFL.out.1))
          have HSM := Lib.hid (fun (oa pa : Option Addr) (oc pc : Nat) W (h : ChL W (L.map ChV.c) L oa oc) (k : ChL W (M.map ChV.c) M pa pc) => same_ch L M oa pa oc pc W h k HFL.out.1 HFL.out.2 R hR)
          have HRS := Lib.hid (fun W (h : Below W0.heap.size W0 W) => rsame_ch L M la ma lc mc W (HCL.out W h) (HCM.out W h) HFL.out.1 HFL.out.2 R hR)
          rw [HNN.out] at HTU HSM HRS
          rw [HNM.out] at HOM HSM HRS
          clear hR
          go_upto_region 9 with (first | (have hq := H9.out; clear hq; go_at_call 8; refine (HOM.out _ H9.out).mono ?_; rintro e w10 ⟨oa10, oc10, rfl, hl9, hb⟩; have HC10 := Lib.hid hl9; have HC9b := Lib.hid (HC9.out.below hb); have J10 := Lib.hid (J9.out.trans (hb.mono J9.out.size)); clear hl9; have C10 := Lib.hid (C9.out.trans (hb.mono C9.out.size)); have H10 := Lib.hid (H9.out.trans (hb.mono H9.out.size)); clear hb) | (have hq := H8.out; clear hq; go_at_call 8; refine (HOF.out _ H8.out).mono ?_; rintro e w9 ⟨oa9, oc9, rfl, hl9, hb⟩; have HC9 := Lib.hid hl9; have J9 := Lib.hid hb; clear hl9; have C9 := Lib.hid (C8.out.trans (hb.mono C8.out.size)); have H9 := Lib.hid (H8.out.trans (hb.mono H8.out.size)); clear hb) | (go_at_call 8; refine (HOF.out _ H5.out).mono ?_; rintro e w6 ⟨oa, oc, rfl, hl9, hb⟩; have HC6 := Lib.hid hl9; clear hl9; have C6 := Lib.hid hb; have H6 := Lib.hid (H5.out.trans (hb.mono H5.out.size)); clear hb) | (go_at_call 10; refine (HTU.out oa oc _ HC6.out).mono ?_; rintro e w7 ⟨p, pa, pc, rfl, hp, hl9, hb⟩; have HP7 := Lib.hid hl9; have HPN := Lib.hid hp; clear hl9 hp; have C7 := Lib.hid (C6.out.trans (hb.mono C6.out.size)); have H7 := Lib.hid (H6.out.trans (hb.mono H6.out.size)); clear hb) | (go_at_call 9; refine (HPL.out p pa pc _ HP7.out HPN.out).mono ?_; rintro e w8 ⟨ta, tc, rfl, hf, hc, hb⟩; have HT8 := Lib.hid hf; have HTC := Lib.hid hc; clear hf hc; have C8 := Lib.hid (C7.out.trans (hb.mono C7.out.size)); have H8 := Lib.hid (H7.out.trans (hb.mono H7.out.size)); clear hb) | (go_at_call 11; refine (HSM.out oa9 oa10 oc9 oc10 _ HC9b.out HC10.out).mono ?_; rintro e w11 ⟨rfl, hb⟩; have J11 := Lib.hid (J10.out.trans (hb.mono J10.out.size)); have C11 := Lib.hid (C10.out.trans (hb.mono C10.out.size)); have H11 := Lib.hid (H10.out.trans (hb.mono H10.out.size)); clear hb) | (go_at_call 12; refine (HRS.out _ H11.out).mono ?_; rintro e w12 ⟨rfl, hb⟩; have J12 := Lib.hid (J11.out.trans (hb.mono J11.out.size)); have C12 := Lib.hid (C11.out.trans (hb.mono C11.out.size)); have H12 := Lib.hid (H11.out.trans (hb.mono H11.out.size)); clear hb))
          have HTF := Lib.hid (fun W (h : Below w12.heap.size w12 W) => HT8.out.below (J12.out.trans (h.mono J12.out.size)))
          clear HOF HTU HPL HSM HRS HOM HPP HT8 HC6 HC9 HC9b HC10 J9 J10 J11 J12 HGA HGL HGM HAL
          go_upto_region 10 with (fail)
          go_loopw [10] (fun vi W => ∃ i : Nat, vi = .int .i64 (i : Int) ∧ i ≤ n ∧ Below w12.heap.size w12 W) (fun vi _ => n - (intOf vi).toNat)
          case atStart => exact ⟨0, rfl, Nat.zero_le _, Below.refl _ _⟩
          case round =>
            obtain ⟨i, rfl, hi, hbw⟩ := hrel
            have HBW := Lib.hid hbw
            have HWW := Lib.hid (H12.out.trans (hbw.mono H12.out.size))
            clear hbw
            by_cases hlt : i < n
            case neg =>
              clear HTF HTC HP7 HPN HCM HFM HNM
              have HW2 := Lib.hid (C12.out.trans (HBW.out.mono C12.out.size))
              have HMA := Lib.hid (fun W (h : Below W0.heap.size W0 W) => may10 v a W (HBA.out W h) (HKA.out.mono (by omega)))
              cases h1 : mayT a with
              | false =>
                have hpz : patchP a (L.map ChV.c) = (zeroD, 1) := by unfold patchP; rw [if_pos h1]
                rw [HPE.out] at hpz
                obtain ⟨rfl, rfl⟩ : pb = zeroD ∧ pe = 1 := by simpa using hpz
                rw [h1] at HMA
                have HSZ := Lib.hid (fun W (h : Below wc.heap.size wc W) => show Calls Tryz.prog 14 #[.agg (cellsB vx zeroD), .agg #[.slice none 0 0, .slice none 0 0, .slice none 0 0, .slice none 0 0, .int .i64 0]] W (fun e w' => e = .returned (.bool true) ∧ Below W.heap.size W w') from by
                have h2 := same12 vx zeroV zeroD zeroD W (HIX.out W h) (zero_in W) zero_ok zero_ok
                rw [sameT_refl] at h2
                exact h2)
                clear hpz h1
                go_wp2_with (first | ((with_reducible refine atLoadS (ty := 27) (x := .tmp 3) rfl ?_); refine loadE (by rfl) 27 (.tmp 3) rfl _ (.agg (cellsB v a)) rfl (HL1.out _ (by first | exact K18.out | exact K16.out | exact K15.out | exact HWW.out)) ?_) | ((with_reducible refine atLoadS (ty := 27) (x := .tmp 7) rfl ?_); refine loadE (by rfl) 27 (.tmp 7) rfl _ (.agg (cellsB vx zeroD)) rfl (HLB.out _ (by first | exact Q18.out | exact Q16.out | exact Q15.out | exact HW2.out)) ?_) | (go_at_call 13; refine (HMA.out _ HWW.out).mono ?_; rintro e w15 ⟨rfl, hb⟩; have K15 := Lib.hid (HWW.out.trans (hb.mono HWW.out.size)); have Q15 := Lib.hid (HW2.out.trans (hb.mono HW2.out.size)); clear hb) | (go_at_call 14; refine (HSZ.out _ Q15.out).mono ?_; rintro e w17 ⟨rfl, hb⟩; have K17 := Lib.hid (K15.out.trans (hb.mono K15.out.size)); have Q17 := Lib.hid (Q15.out.trans (hb.mono Q15.out.size)); clear hb))
                go_ret
                exact ⟨rfl, HLO.out _ K17.out⟩
              | true =>
                rw [h1] at HMA
                have HMC := Lib.hid (fun W (h : Below W0.heap.size W0 W) => rmay15 la lc L W (HCL.out W h) (fun x hx => by have := HFL.out.2 x hx; omega) (by have := HFL.out.1; omega))
                rw [HNN.out] at HMC
                cases h2 : mayCh (L.map ChV.c) with
                | false =>
                  have hpz : patchP a (L.map ChV.c) = (zeroD, 3) := by unfold patchP; rw [if_neg (by rw [h1]; decide), if_pos h2]
                  rw [HPE.out] at hpz
                  obtain ⟨rfl, rfl⟩ : pb = zeroD ∧ pe = 3 := by simpa using hpz
                  rw [h2] at HMC
                  have HSZ := Lib.hid (fun W (h : Below wc.heap.size wc W) => show Calls Tryz.prog 14 #[.agg (cellsB vx zeroD), .agg #[.slice none 0 0, .slice none 0 0, .slice none 0 0, .slice none 0 0, .int .i64 0]] W (fun e w' => e = .returned (.bool true) ∧ Below W.heap.size W w') from by
                  have h2 := same12 vx zeroV zeroD zeroD W (HIX.out W h) (zero_in W) zero_ok zero_ok
                  rw [sameT_refl] at h2
                  exact h2)
                  clear hpz h1 h2
                  go_wp2_with (first | ((with_reducible refine atLoadS (ty := 27) (x := .tmp 3) rfl ?_); refine loadE (by rfl) 27 (.tmp 3) rfl _ (.agg (cellsB v a)) rfl (HL1.out _ (by first | exact K18.out | exact K16.out | exact K15.out | exact HWW.out)) ?_) | ((with_reducible refine atLoadS (ty := 27) (x := .tmp 7) rfl ?_); refine loadE (by rfl) 27 (.tmp 7) rfl _ (.agg (cellsB vx zeroD)) rfl (HLB.out _ (by first | exact Q18.out | exact Q16.out | exact Q15.out | exact HW2.out)) ?_) | (go_at_call 13; refine (HMA.out _ HWW.out).mono ?_; rintro e w15 ⟨rfl, hb⟩; have K15 := Lib.hid (HWW.out.trans (hb.mono HWW.out.size)); have Q15 := Lib.hid (HW2.out.trans (hb.mono HW2.out.size)); clear hb) | (go_at_call 15; refine (HMC.out _ K15.out).mono ?_; rintro e w16 ⟨rfl, hb⟩; have K16 := Lib.hid (K15.out.trans (hb.mono K15.out.size)); have Q16 := Lib.hid (Q15.out.trans (hb.mono Q15.out.size)); clear hb) | (go_at_call 14; refine (HSZ.out _ Q16.out).mono ?_; rintro e w17 ⟨rfl, hb⟩; have K17 := Lib.hid (K16.out.trans (hb.mono K16.out.size)); have Q17 := Lib.hid (Q16.out.trans (hb.mono Q16.out.size)); clear hb))
                  go_ret
                  exact ⟨rfl, HLO.out _ K17.out⟩
                | true =>
                  have hone : ∀ x ∈ L, mayOne x.c = true := fun x hx => by
                    have h := h2
                    unfold mayCh at h
                    rw [Bool.and_eq_true] at h
                    exact List.all_eq_true.1 h.1 x.c (List.mem_map_of_mem hx)
                  have hip : ∀ c ∈ L.map ChV.c, in6 c.a ∧ in6 c.b ∧ ∀ z ∈ c.now, in6 z := fun c hc => by
                    obtain ⟨x, hx, rfl⟩ := List.mem_map.1 hc
                    exact (HIN.out x hx).2
                  have hre : refPatch a (L.map ChV.c) = (pb, pe) := (patchP_ref h1 HKA.out h2).symm.trans HPE.out
                  have HOK := Lib.hid (show BookOk 2000 pb by have h := ref_ok HKA.out hip (by rw [List.length_map]; exact HFL.out.1); rw [hre] at h; exact h)
                  have HPR := Lib.hid (fun W (h : Below W0.heap.size W0 W) => rpatch16 v a la lc L W (HBA.out W h) HKA.out (HCL.out W h) hone (fun x hx => (HIN.out x hx).2) (by have := HFL.out.1; omega))
                  rw [HNN.out, hre] at HPR
                  unfold RPatOut at HPR
                  dsimp only at HPR
                  rw [h2] at HMC
                  clear hone hip hre h1 h2
                  go_upto_region 20 with (first | ((with_reducible refine atLoadS (ty := 27) (x := .tmp 3) rfl ?_); refine loadE (by rfl) 27 (.tmp 3) rfl _ (.agg (cellsB v a)) rfl (HL1.out _ (by first | exact K18.out | exact K16.out | exact K15.out | exact HWW.out)) ?_) | (go_at_call 13; refine (HMA.out _ HWW.out).mono ?_; rintro e w15 ⟨rfl, hb⟩; have K15 := Lib.hid (HWW.out.trans (hb.mono HWW.out.size)); have Q15 := Lib.hid (HW2.out.trans (hb.mono HW2.out.size)); clear hb) | (go_at_call 15; refine (HMC.out _ K15.out).mono ?_; rintro e w16 ⟨rfl, hb⟩; have K16 := Lib.hid (K15.out.trans (hb.mono K15.out.size)); have Q16 := Lib.hid (Q15.out.trans (hb.mono Q15.out.size)); clear hb) | (go_at_call 16; refine (HPR.out _ K16.out).mono ?_; rintro e w17 ⟨⟨vy, rfl, hy⟩, hb⟩; have HY := Lib.hid hy; clear hy; have K17 := Lib.hid (K16.out.trans (hb.mono K16.out.size)); have Q17 := Lib.hid (Q16.out.trans (hb.mono Q16.out.size)); clear hb) | ((with_reducible refine atStoreP (ty := 27) (x := .tmp 12) (y := .tmp 118) rfl ?_); refine wpList_store_row rfl 27 (.tmp 12) (.tmp 118) rfl w17.heap.size (cellsB vy pb) rfl rfl 27 _ (heap_alloc_new w17 _) info27 rfl cells5.2 ?_))
                  refine at_world (Φ := fun W => BoxB W w17.heap.size vy pb ∧ Below w17.heap.size w17 W) ⟨setRow_heap _ _ _ _ _ _ (heap_alloc_new w17 _), set_lo ((Below.refl _ _).alloc (Nat.le_refl _) _) (Nat.le_refl _) (heap_alloc_new w17 _)⟩ ?_
                  rintro w18 ⟨hbx, hb⟩
                  have HYB := Lib.hid (fun W (h : Below w18.heap.size w18 W) => HY.out.below (hb.trans (h.mono hb.size)))
                  have K18 := Lib.hid (K17.out.trans (hb.mono K17.out.size))
                  have Q18 := Lib.hid (Q17.out.trans (hb.mono Q17.out.size))
                  clear hb
                  have HLY := Lib.hid (fun W (h : Below w18.heap.size w18 W) => load_book (hbx.below h (lt_of_blk hbx)))
                  clear hbx
                  generalize w17.heap.size = gy at *
                  have HSB := Lib.hid (fun W (h : Below w18.heap.size w18 W) => show Calls Tryz.prog 14 #[.agg (cellsB vx pb), .agg (cellsB vy pb)] W (fun e w' => e = .returned (.bool true) ∧ Below W.heap.size W w') from by
                    have h2 := same12 vx vy pb pb W (HIX.out W (Q18.out.trans (h.mono Q18.out.size))) (HYB.out W h) HOK.out HOK.out
                    rw [sameT_refl] at h2
                    exact h2)
                  go_wp2_with (first | ((with_reducible refine atLoadS (ty := 27) (x := .tmp 7) rfl ?_); refine loadE (by rfl) 27 (.tmp 7) rfl _ (.agg (cellsB vx pb)) rfl (HLB.out _ (by first | exact Q18.out | exact Q16.out | exact Q15.out | exact HW2.out)) ?_) | ((with_reducible refine atLoadS (ty := 27) (x := .tmp 12) rfl ?_); refine loadE (by rfl) 27 (.tmp 12) rfl _ (.agg (cellsB vy pb)) rfl (HLY.out _ (Below.refl _ _)) ?_) | (go_at_call 14; refine (HSB.out _ (Below.refl _ _)).mono ?_; rintro e w19 ⟨rfl, hb⟩; have K19 := Lib.hid (K18.out.trans (hb.mono K18.out.size)); have Q19 := Lib.hid (Q18.out.trans (hb.mono Q18.out.size)); clear hb))
                  go_ret
                  exact ⟨rfl, HLO.out _ K19.out⟩
            case pos =>
              obtain ⟨x, hx⟩ : ∃ x, L[i]? = some x := ⟨L[i]'(by have := HNN.out; omega), by have := HNN.out; simp [show i < L.length by omega]⟩
              obtain ⟨y, hy⟩ : ∃ y, p[i]? = some y := ⟨p[i]'(by have := HPN.out; omega), by have := HPN.out; simp [show i < p.length by omega]⟩
              have hyc : y.c = turnC x.c := by
                have h := congrArg (fun l : List ChT => l[i]?) HP7.out.l.d
                simp only [turnT, List.getElem?_map, hx, hy, Option.map_some] at h
                exact Option.some.inj h
              obtain ⟨g, o, hag, _⟩ := (HCL.out wr HWW.out).c wr (Below.refl _ _) i x hx
              obtain ⟨tg, tf, hta, _⟩ := (HTF.out w12 (Below.refl _ _)).c w12 (Below.refl _ _) i y hy
              subst hag hta
              have HTY := Lib.hid (fun W (h : Below w12.heap.size w12 W) => (HTF.out W h).sub hy)
              have H5F := Lib.hid (fun W (h : Below W0.heap.size W0 W) => (HCL.out W h).five hx W (Below.refl _ _))
              have HXV := Lib.hid (fun W (h : Below W0.heap.size W0 W) => (HCL.out W h).v x (List.mem_of_getElem? hx))
              have HXS := Lib.hid (HFL.out.2 x (List.mem_of_getElem? hx))
              have HYC := Lib.hid hyc
              clear hx hy hyc
              obtain ⟨⟨xl, xa, xb, xv, yv⟩, A1, C1, A2, C2⟩ := x
              dsimp only at H5F HXV HXS
              have HRX := Lib.hid (fun (X : World) (W : World) (gn : Nat) (cc : Nat) (h : Below w12.heap.size w12 W) (k : ChF W (some ⟨gn, 0, none⟩) [⟨⟨xl, xa, xb, yv, xv⟩, A2, C2, A1, C1⟩]) => rsame_ch [y] [⟨⟨xl, xa, xb, yv, xv⟩, A2, C2, A1, C1⟩] _ _ cc 1 W (HTY.out W h) k (by simp) (fun z hz => by rw [List.mem_singleton.1 hz, HYC.out]; exact ⟨HXS.out.2, HXS.out.1⟩) true ⟨fun _ => by rw [List.map_cons, List.map_cons, HYC.out]; rfl, fun _ => rfl⟩)
              have HNW := Lib.hid (fun W (h : Below W0.heap.size W0 W) => ChF.new W ⟨⟨xl, xa, xb, yv, xv⟩, A2, C2, A1, C1⟩ ⟨(HXV.out W h).2, (HXV.out W h).1⟩)
              have HNC := Lib.hid (show (⟨⟨xl, xa, xb, yv, xv⟩, A2, C2, A1, C1⟩ : ChV).cells.toArray = #[.int .i64 xl, .int .i64 xa, .int .i64 xb, .slice A2 yv.length C2, .slice A1 xv.length C1] from rfl)
              rw [HNC.out] at HNW
              obtain ⟨z1, hz1⟩ : ∃ z, xv.length = z := ⟨_, rfl⟩
              obtain ⟨z2, hz2⟩ : ∃ z, yv.length = z := ⟨_, rfl⟩
              rw [hz1, hz2] at H5F HNW
              clear hz1 hz2
              go_upto_region 12 with (fail)
              refine wp_region_held_drew (S := fun W => Below W0.heap.size W0 W) (by kernel_rfl) (HWW.out.drew) (fun hS => ?_)
              refine wpAnyH_take (i := 0) (v := .slice (some ⟨g, o, none⟩) n lc) rfl (by kernel_rfl) (by kernel_rfl) (by kernel_rfl) (fun _ _ _ h => h) (Or.inl ⟨by simp [Region.wanted], fun W _ => by go_simp⟩) hS ?_
              simp only [lgT, lgZ, Act.put, lsT, lsZ, lsS]
              refine wpAnyH_take (i := 1) (v := .int .i64 (i : Int)) rfl (by kernel_rfl) (by kernel_rfl) (by kernel_rfl) (fun _ _ _ h => h) (Or.inl ⟨by simp [Region.wanted], fun W _ => by go_simp⟩) hS ?_
              simp only [lgT, lgZ, lgS, Act.put, lsT, lsZ, lsS]
              refine wpAnyH_take (i := 2) (v := .pointer (some ⟨g, o + i * 5, none⟩)) rfl (by kernel_rfl) (by kernel_rfl) (by kernel_rfl) (fun _ _ _ h => h) (Or.inl ⟨by simp [Region.wanted], fun W _ => by go_simp⟩) hS ?_
              simp only [lgT, lgZ, lgS, Act.put, lsT, lsZ, lsS]
              refine wpAnyH_take (i := 3) (v := .pointer (some ⟨g, o + i * 5, none⟩)) rfl (by kernel_rfl) (by kernel_rfl) (by kernel_rfl) (fun _ _ _ h => h) (Or.inl ⟨by simp [Region.wanted], fun W _ => by go_simp⟩) hS ?_
              simp only [lgT, lgZ, lgS, Act.put, lsT, lsZ, lsS]
              refine wpAnyH_take (i := 4) (v := .int .i64 xl) rfl (by kernel_rfl) (by kernel_rfl) (by kernel_rfl) (fun _ _ _ h => h) (Or.inl ⟨by simp [Region.wanted], fun W hW => by have kc := (H5F.out W hW).1; go_simp⟩) hS ?_
              simp only [lgT, lgZ, lgS, Act.put, lsT, lsZ, lsS]
              refine wpAnyH_take (i := 5) (v := .slice (some ⟨g, o, none⟩) n lc) rfl (by kernel_rfl) (by kernel_rfl) (by kernel_rfl) (fun _ _ _ h => h) (Or.inl ⟨by simp [Region.wanted], fun W _ => by go_simp⟩) hS ?_
              simp only [lgT, lgZ, lgS, Act.put, lsT, lsZ, lsS]
              refine wpAnyH_take (i := 6) (v := .int .i64 (i : Int)) rfl (by kernel_rfl) (by kernel_rfl) (by kernel_rfl) (fun _ _ _ h => h) (Or.inl ⟨by simp [Region.wanted], fun W _ => by go_simp⟩) hS ?_
              simp only [lgT, lgZ, lgS, Act.put, lsT, lsZ, lsS]
              refine wpAnyH_take (i := 7) (v := .pointer (some ⟨g, o + i * 5, none⟩)) rfl (by kernel_rfl) (by kernel_rfl) (by kernel_rfl) (fun _ _ _ h => h) (Or.inl ⟨by simp [Region.wanted], fun W _ => by go_simp⟩) hS ?_
              simp only [lgT, lgZ, lgS, Act.put, lsT, lsZ, lsS]
              refine wpAnyH_take (i := 8) (v := .pointer (some ⟨g, o + i * 5 + 1, none⟩)) rfl (by kernel_rfl) (by kernel_rfl) (by kernel_rfl) (fun _ _ _ h => h) (Or.inl ⟨by simp [Region.wanted], fun W _ => by go_simp⟩) hS ?_
              simp only [lgT, lgZ, lgS, Act.put, lsT, lsZ, lsS]
              refine wpAnyH_take (i := 9) (v := .int .i64 xa) rfl (by kernel_rfl) (by kernel_rfl) (by kernel_rfl) (fun _ _ _ h => h) (Or.inl ⟨by simp [Region.wanted], fun W hW => by have kc := (H5F.out W hW).2.1; go_simp⟩) hS ?_
              simp only [lgT, lgZ, lgS, Act.put, lsT, lsZ, lsS]
              refine wpAnyH_take (i := 10) (v := .slice (some ⟨g, o, none⟩) n lc) rfl (by kernel_rfl) (by kernel_rfl) (by kernel_rfl) (fun _ _ _ h => h) (Or.inl ⟨by simp [Region.wanted], fun W _ => by go_simp⟩) hS ?_
              simp only [lgT, lgZ, lgS, Act.put, lsT, lsZ, lsS]
              refine wpAnyH_take (i := 11) (v := .int .i64 (i : Int)) rfl (by kernel_rfl) (by kernel_rfl) (by kernel_rfl) (fun _ _ _ h => h) (Or.inl ⟨by simp [Region.wanted], fun W _ => by go_simp⟩) hS ?_
              simp only [lgT, lgZ, lgS, Act.put, lsT, lsZ, lsS]
              refine wpAnyH_take (i := 12) (v := .pointer (some ⟨g, o + i * 5, none⟩)) rfl (by kernel_rfl) (by kernel_rfl) (by kernel_rfl) (fun _ _ _ h => h) (Or.inl ⟨by simp [Region.wanted], fun W _ => by go_simp⟩) hS ?_
              simp only [lgT, lgZ, lgS, Act.put, lsT, lsZ, lsS]
              refine wpAnyH_take (i := 13) (v := .pointer (some ⟨g, o + i * 5 + 2, none⟩)) rfl (by kernel_rfl) (by kernel_rfl) (by kernel_rfl) (fun _ _ _ h => h) (Or.inl ⟨by simp [Region.wanted], fun W _ => by go_simp⟩) hS ?_
              simp only [lgT, lgZ, lgS, Act.put, lsT, lsZ, lsS]
              refine wpAnyH_take (i := 14) (v := .int .i64 xb) rfl (by kernel_rfl) (by kernel_rfl) (by kernel_rfl) (fun _ _ _ h => h) (Or.inl ⟨by simp [Region.wanted], fun W hW => by have kc := (H5F.out W hW).2.2.1; go_simp⟩) hS ?_
              simp only [lgT, lgZ, lgS, Act.put, lsT, lsZ, lsS]
              refine wpAnyH_take (i := 15) (v := .slice (some ⟨g, o, none⟩) n lc) rfl (by kernel_rfl) (by kernel_rfl) (by kernel_rfl) (fun _ _ _ h => h) (Or.inl ⟨by simp [Region.wanted], fun W _ => by go_simp⟩) hS ?_
              simp only [lgT, lgZ, lgS, Act.put, lsT, lsZ, lsS]
              refine wpAnyH_take (i := 16) (v := .int .i64 (i : Int)) rfl (by kernel_rfl) (by kernel_rfl) (by kernel_rfl) (fun _ _ _ h => h) (Or.inl ⟨by simp [Region.wanted], fun W _ => by go_simp⟩) hS ?_
              simp only [lgT, lgZ, lgS, Act.put, lsT, lsZ, lsS]
              refine wpAnyH_take (i := 17) (v := .pointer (some ⟨g, o + i * 5, none⟩)) rfl (by kernel_rfl) (by kernel_rfl) (by kernel_rfl) (fun _ _ _ h => h) (Or.inl ⟨by simp [Region.wanted], fun W _ => by go_simp⟩) hS ?_
              simp only [lgT, lgZ, lgS, Act.put, lsT, lsZ, lsS]
              refine wpAnyH_take (i := 18) (v := .pointer (some ⟨g, o + i * 5 + 4, none⟩)) rfl (by kernel_rfl) (by kernel_rfl) (by kernel_rfl) (fun _ _ _ h => h) (Or.inl ⟨by simp [Region.wanted], fun W _ => by go_simp⟩) hS ?_
              simp only [lgT, lgZ, lgS, Act.put, lsT, lsZ, lsS]
              refine wpAnyH_take (i := 19) (v := .slice A2 z2 C2) rfl (by kernel_rfl) (by kernel_rfl) (by kernel_rfl) (fun _ _ _ h => h) (Or.inl ⟨by simp [Region.wanted], fun W hW => by have kc := (H5F.out W hW).2.2.2.2; go_simp⟩) hS ?_
              simp only [lgT, lgZ, lgS, Act.put, lsT, lsZ, lsS]
              refine wpAnyH_take (i := 20) (v := .slice (some ⟨g, o, none⟩) n lc) rfl (by kernel_rfl) (by kernel_rfl) (by kernel_rfl) (fun _ _ _ h => h) (Or.inl ⟨by simp [Region.wanted], fun W _ => by go_simp⟩) hS ?_
              simp only [lgT, lgZ, lgS, Act.put, lsT, lsZ, lsS]
              refine wpAnyH_take (i := 21) (v := .int .i64 (i : Int)) rfl (by kernel_rfl) (by kernel_rfl) (by kernel_rfl) (fun _ _ _ h => h) (Or.inl ⟨by simp [Region.wanted], fun W _ => by go_simp⟩) hS ?_
              simp only [lgT, lgZ, lgS, Act.put, lsT, lsZ, lsS]
              refine wpAnyH_take (i := 22) (v := .pointer (some ⟨g, o + i * 5, none⟩)) rfl (by kernel_rfl) (by kernel_rfl) (by kernel_rfl) (fun _ _ _ h => h) (Or.inl ⟨by simp [Region.wanted], fun W _ => by go_simp⟩) hS ?_
              simp only [lgT, lgZ, lgS, Act.put, lsT, lsZ, lsS]
              refine wpAnyH_take (i := 23) (v := .pointer (some ⟨g, o + i * 5 + 3, none⟩)) rfl (by kernel_rfl) (by kernel_rfl) (by kernel_rfl) (fun _ _ _ h => h) (Or.inl ⟨by simp [Region.wanted], fun W _ => by go_simp⟩) hS ?_
              simp only [lgT, lgZ, lgS, Act.put, lsT, lsZ, lsS]
              refine wpAnyH_take (i := 24) (v := .slice A1 z1 C1) rfl (by kernel_rfl) (by kernel_rfl) (by kernel_rfl) (fun _ _ _ h => h) (Or.inl ⟨by simp [Region.wanted], fun W hW => by have kc := (H5F.out W hW).2.2.2.1; go_simp⟩) hS ?_
              simp only [lgT, lgZ, lgS, Act.put, lsT, lsZ, lsS]
              refine wpAnyH_take (i := 25) (v := .agg #[.int .i64 xl, .int .i64 xa, .int .i64 xb, .slice A2 z2 C2, .slice A1 z1 C1]) rfl (by kernel_rfl) (by kernel_rfl) (by kernel_rfl) (fun _ _ _ h => h) (Or.inl ⟨by simp [Region.wanted], fun W _ => by go_simp⟩) hS ?_
              simp only [lgT, lgZ, lgS, Act.put, lsT, lsZ, lsS]
              refine wpAnyH_ready (rs := [26]) (by kernel_rfl) (by simp) ?_
              refine AllReadyH.cons rfl (fun KA hKA => ?_) AllReadyH.nil
              refine wanted_go rfl ?_
              simp only [lgT, lgZ, lgS]
              go_wp2
              have hz := heap_alloc_new wr.drew (.cells #[.int .i64 0, .int .i64 0, .int .i64 0, .slice none 0 0, .slice none 0 0] 43)
              have hb1 : Below wr.heap.size wr (wr.drew.alloc (.cells #[.int .i64 0, .int .i64 0, .int .i64 0, .slice none 0 0, .slice none 0 0] 43)) := ((Below.refl _ wr).drew).alloc (Nat.le_refl _) _
              refine hKA.out _ _ (HWW.out.trans (hb1.mono HWW.out.size)) (fun q1 => ?_)
              refine wpAnyH_ready (rs := [27]) (by kernel_rfl) (by simp) ?_
              refine AllReadyH.cons rfl (fun KB hKB => ?_) AllReadyH.nil
              refine wanted_go rfl ?_
              simp only [lgT, lgZ, lgS]
              have hl2 : Below wr.heap.size wr ((wr.drew.alloc (.cells #[.int .i64 0, .int .i64 0, .int .i64 0, .slice none 0 0, .slice none 0 0] 43)).setRow wr.heap.size #[.int .i64 xl, .int .i64 xa, .int .i64 xb, .slice A2 z2 C2, .slice A1 z1 C1]) := set_lo hb1 (Nat.le_refl _) hz
              refine wp_store_row 43 (.tmp 11) (.tmp 84) rfl wr.heap.size #[.int .i64 xl, .int .i64 xa, .int .i64 xb, .slice A2 z2 C2, .slice A1 z1 C1] rfl rfl 43 _ hz infoChL rfl (by simp [Value.oneCell']) ?_
              refine hKB.out _ _ (HWW.out.trans (hl2.mono HWW.out.size)) (fun q2 => ?_)
              refine wpAnyH_done (by kernel_rfl) ?_ _
              clear q1 q2
              go_upto_region 13 with (fail)
              refine at_world (Φ := fun W => W.heap[wr.heap.size]? = some (.cells #[.int .i64 xl, .int .i64 xa, .int .i64 xb, .slice A2 z2 C2, .slice A1 z1 C1] 43 (0, 0)) ∧ Below wr.heap.size wr W) ⟨setRow_heap _ _ _ _ _ _ hz, hl2⟩ ?_
              rintro W13 ⟨hx13, hb13⟩
              have HB13 := Lib.hid hb13
              clear hz hb1 hl2 hb13 hS
              generalize wr.heap.size = gq at hx13
              have HLX := Lib.hid (fun W (h : Below W13.heap.size W13 W) => show (Instr.loadAt 43 (.pointer (some ⟨gq, 0, none⟩))).run Tryz.prog W = .ok (.agg #[.int .i64 xl, .int .i64 xa, .int .i64 xb, .slice A2 z2 C2, .slice A1 z1 C1]) W from by have e := (h.block _ (lt_of_blk hx13)).trans hx13; exact load_chF (by rw [cell_of_row _ _ _ _ _ _ e]; rfl) (by rw [cell_of_row _ _ _ _ _ _ e]; rfl) (by rw [cell_of_row _ _ _ _ _ _ e]; rfl) (by rw [cell_of_row _ _ _ _ _ _ e]; rfl) (by rw [cell_of_row _ _ _ _ _ _ e]; rfl))
              have hij : IntKind.i64.wrap ((i : Int) + 1) = ((i + 1 : Nat) : Int) := by rw [IntKind.wrap_i64]; have := HFL.out.1; have := HNN.out; omega
              have htc := HTC.out
              clear hx13
              refine wp_region_held_drew (S := fun W => Below W13.heap.size W13 W) (by kernel_rfl) ((Below.refl _ _).drew) (fun hS => ?_)
              refine wpAnyH_take (i := 0) (v := .slice (some ⟨tg, tf, none⟩) n tc) rfl (by kernel_rfl) (by kernel_rfl) (by kernel_rfl) (fun _ _ _ h => h) (Or.inl ⟨by simp [Region.wanted], fun W _ => by go_simp⟩) hS ?_
              simp only [lgT, lgZ, Act.put, lsT, lsZ, lsS]
              refine wpAnyH_take (i := 1) (v := .int .i64 (i : Int)) rfl (by kernel_rfl) (by kernel_rfl) (by kernel_rfl) (fun _ _ _ h => h) (Or.inl ⟨by simp [Region.wanted], fun W _ => by go_simp⟩) hS ?_
              simp only [lgT, lgZ, lgS, Act.put, lsT, lsZ, lsS]
              refine wpAnyH_take (i := 2) (v := .int .i64 (i : Int)) rfl (by kernel_rfl) (by kernel_rfl) (by kernel_rfl) (fun _ _ _ h => h) (Or.inl ⟨by simp [Region.wanted], fun W _ => by go_simp⟩) hS ?_
              simp only [lgT, lgZ, lgS, Act.put, lsT, lsZ, lsS]
              refine wpAnyH_take (i := 3) (v := .int .i64 ((i + 1 : Nat) : Int)) rfl (by kernel_rfl) (by kernel_rfl) (by kernel_rfl) (fun _ _ _ h => h) (Or.inl ⟨by simp [Region.wanted], fun W _ => by go_simp⟩) hS ?_
              simp only [lgT, lgZ, lgS, Act.put, lsT, lsZ, lsS]
              refine wpAnyH_take (i := 4) (v := .slice (some ⟨tg, tf + i * 5, none⟩) 1 (tc - i)) rfl (by kernel_rfl) (by kernel_rfl) (by kernel_rfl) (fun _ _ _ h => h) (Or.inl ⟨by simp [Region.wanted], fun W _ => by go_simp; rw [if_pos ⟨by omega, by omega⟩, if_neg (by omega)]⟩) hS ?_
              simp only [lgT, lgZ, lgS, Act.put, lsT, lsZ, lsS]
              refine wpAnyH_take (i := 5) (v := .agg #[.int .i64 xl, .int .i64 xa, .int .i64 xb, .slice A2 z2 C2, .slice A1 z1 C1]) rfl (by kernel_rfl) (by kernel_rfl) (by kernel_rfl) (fun _ _ _ h => h) (yields_atD (by rfl) 43 (.tmp 11) rfl (.pointer (some ⟨gq, 0, none⟩)) _ rfl (fun W hW => HLX.out W hW)) hS ?_
              simp only [lgT, lgZ, lgS, Act.put, lsT, lsZ, lsS]
              refine wpAnyH_ready (rs := [6]) (by kernel_rfl) (by simp) ?_
              refine AllReadyH.cons rfl (fun KA hKA => ?_) AllReadyH.nil
              refine wanted_go rfl ?_
              simp only [lgT, lgZ, lgS]
              go_wp2
              have hb6 : Below W13.heap.size W13 (W13.drew.alloc (.cells #[.int .i64 xl, .int .i64 xa, .int .i64 xb, .slice A2 z2 C2, .slice A1 z1 C1] 43)) := ((Below.refl _ W13).drew).alloc (Nat.le_refl _) _
              refine hKA.out _ _ hb6 (fun q1 => ?_)
              have hbi : Below w12.heap.size w12 W13.drew := (HBW.out.trans (HB13.out.mono HBW.out.size)).drew
              have hbj : Below w12.heap.size w12 (W13.drew.alloc (.cells #[.int .i64 xl, .int .i64 xa, .int .i64 xb, .slice A2 z2 C2, .slice A1 z1 C1] 43)) := hbi.alloc hbi.size _
              have hnw := HNW.out W13.drew (H12.out.trans (hbi.mono H12.out.size))
              refine wpAnyH_ready (rs := [7]) (by kernel_rfl) (by simp) ?_
              refine AllReadyH.cons rfl (fun KB hKB => ?_) AllReadyH.nil
              refine wanted_go rfl ?_
              simp only [lgT, lgZ, lgS]
              go_wp2_with (go_at_call 12; refine (HRX.out W13 (W13.drew.alloc (.cells #[.int .i64 xl, .int .i64 xa, .int .i64 xb, .slice A2 z2 C2, .slice A1 z1 C1] 43)) W13.drew.heap.size (tc - i) hbj hnw).mono ?_; rintro e w14 ⟨rfl, hb⟩; have HB14 := Lib.hid (hb6.trans (hb.mono hb6.size)); have HB15 := Lib.hid (hbj.trans (hb.mono hbj.size)); clear hb)
              refine hKB.out _ _ HB14.out (fun q2 => ?_)
              refine wpAnyH_take (i := 8) (v := .bool false) rfl (by kernel_rfl) (by kernel_rfl) (by kernel_rfl) (fun _ _ _ h => h) (Or.inl ⟨by simp [Region.wanted], fun W _ => by go_simp⟩) q2 ?_
              simp only [lgT, lgZ, lgS, Act.put, lsT, lsZ, lsS]
              refine wpAnyH_done (by kernel_rfl) ?_ _
              clear q1 q2 hS hb6 hbi hbj hnw htc
              go_wp2
              go_roundw
              case rel => exact ⟨i + 1, by go_num, hlt, HB15.out⟩
              case measure => simp [intOf]; omega
end Go.Proofs.YtellifcjamedkaaGreat
namespace Go.Proofs.YtellifcjamedkaaGreat
open Go.ChangeShapes Go.WideShapes Go.ChangeAt Go.RowKit Go.Lib Base Base2
theorem laidOut : laidOutB Tryz.prog = true := by kernel_rfl
theorem patchesL (v : Slots) (a : BookT) (la ma : Option Addr) (lc mc ln mn : Nat) (L M : List ChV) (W : World) (ha : BookIn W v a) (hwa : BookWf a) (hl : L.length = ln) (hc : ∀ W', Below W.heap.size W W' → ChAt W' la L) (hi : ∀ x ∈ L, ChIn W x) (hm : M.length = mn) (hd : ∀ W', Below W.heap.size W W' → ChAt W' ma M) (hj : ∀ x ∈ M, ChIn W x) :
    Calls Tryz.prog 3 #[.agg (cellsB v a), .slice la ln lc, .slice ma mn mc] W fun e w' => e = .returned (.bool true) ∧ Below W.heap.size W w' := by
  subst hl hm
  exact patches3 v a la ma lc mc L M W ha hwa ⟨hc, fun x hx => ⟨(hi x hx).v1, (hi x hx).v2⟩⟩ ⟨hd, fun x hx => ⟨(hj x hx).v1, (hj x hx).v2⟩⟩ (fun x hx => ⟨(hi x hx).l, (hi x hx).a, (hi x hx).b, (hi x hx).i2⟩)
end Go.Proofs.YtellifcjamedkaaGreat
