/- The program's Put of a book: the contract. What the program's Get has, round by round; plain. The program's Get of a book: the contract. What the laws of books as bytes ask of the program: it holds. -/
import Derived.Test.YtnhljfhpfpfniaaGreatMFlds
import Derived.Test.YtnhljfhpfpfniaaGreatBkQ12
import Derived.Test.YtnhljfhpfpfniaaGreatSnLaw
import Derived.OrdersHeld
namespace Go.Proofs.YtnhljfhpfpfniaaGreat
open Go.RowKit Base Base2

/-- The bytes of a book, so far. -/
def putP (b : BookT) (q : Nat) : List UInt8 := M.enc b.co.toNat ++ putCols ((colsT b).take q)
theorem putP_next (b : BookT) {q : Nat} (hq : q < 15) : putP b q ++ putL (colQ q b) = putP b (q + 1) := by
  unfold putP putCols
  rw [List.take_add_one, colQ_of b hq]
  simp
theorem putP_all (b : BookT) : putP b 15 = snapL b := rfl
set_option maxRecDepth 100000 in
theorem putP_len {b : BookT} (h : BookOk 1024 b) (q : Nat) : (putP b q).length ≤ 10 + q * 20500 := by
  have h1 := (M.enc_len b.co.toNat).2
  have h2 : ∀ q, (putCols ((colsT b).take q)).length ≤ q * 20500 := by
    intro q
    induction q with
    | zero => simp [putCols]
    | succ q ih =>
      unfold putCols at ih ⊢
      rw [List.take_add_one]
      cases hc : (colsT b)[q]? with
      | none => simp at ih ⊢; omega
      | some c =>
        have h3 := putB_len (cols_len h c (List.mem_of_getElem? hc)).1
        rw [putB_size] at h3
        simp at ih ⊢; omega
  have := h2 q
  unfold putP
  rw [List.length_append]
  omega
theorem colQ_ok {b : BookT} {m q : Nat} (h : BookOk m b) (hq : q < 15) : (colQ q b).length ≤ m ∧ ∀ x ∈ colQ q b, in64 x := cols_len h _ (List.mem_of_getElem? (colQ_of b hq))
theorem flatF_at {fs : List Fld} {q : Nat} {f : Fld} (h : fs[q]? = some f) : (flatF fs)[q * 3]? = some (.int .i64 (f.m : Int)) ∧ (flatF fs)[q * 3 + 1]? = some (.func (.func f.tf) #[] f.tc) ∧ (flatF fs)[q * 3 + 2]? = some (.func (.func f.kf) #[] f.kc) := by
  induction fs generalizing q with
  | nil => simp at h
  | cons g fs ih =>
    cases q with
    | zero =>
      obtain rfl : g = f := by simpa using h
      exact ⟨rfl, rfl, rfl⟩
    | succ q =>
      have ih := ih (by simpa using h)
      have e : flatF (g :: fs) = g.cells ++ flatF fs := rfl
      have hl : g.cells.length = 3 := rfl
      rw [e, List.getElem?_append_right (by omega), List.getElem?_append_right (by omega), List.getElem?_append_right (by omega), hl, show (q + 1) * 3 - 3 = q * 3 by omega, show (q + 1) * 3 + 1 - 3 = q * 3 + 1 by omega, show (q + 1) * 3 + 2 - 3 = q * 3 + 2 by omega]
      exact ih
/-- The cells of a field, in whatever later world. -/
theorem fld_cells {B : Nat} {v : Value} {fs : List Fld} {W0 : World} (h : W0.ownsRow B 57 3 v fs.length (flatF fs)) (hl : fs.length = 15) : ∃ g cap, v = .slice (some ⟨g, 0, none⟩) 15 cap ∧ ∀ (W : World), KeepM W0 W → ∀ q f, fs[q]? = some f → W.cell? ⟨g, q * 3, none⟩ = some (.int .i64 (f.m : Int)) ∧ W.cell? ⟨g, q * 3 + 1, none⟩ = some (.func (.func f.tf) #[] f.tc) ∧ W.cell? ⟨g, q * 3 + 2, none⟩ = some (.func (.func f.kf) #[] f.kc) := by
  rw [hl] at h
  have h0 := h
  rcases h.2 with ⟨_, hn⟩ | ⟨g, cap, cur, rfl, _, hg, _⟩
  · omega
  · refine ⟨g, cap, rfl, fun W hk q f hf => ?_⟩
    have hb := hk.same g _ hg rfl
    have hc : ∀ m u, (flatF fs)[m]? = some u → W.cell? ⟨g, m, none⟩ = some u := fun m u hu => by
      have := h0.cells (g := g) rfl m u hu
      rw [Addr.add_mid, Nat.zero_add] at this
      exact (World.cell?_of_block (a := ⟨g, m, none⟩) (hb.trans hg.symm)).trans this
    obtain ⟨e0, e1, e2⟩ := flatF_at hf
    exact ⟨hc _ _ e0, hc _ _ e1, hc _ _ e2⟩
/-- While Put goes on. -/
structure PutS (W1 W0 : World) (L : List UInt8) (W : World) : Prop where
  bld : Lib.IsBuilder 44 5 W1.heap.size W1.heap.size (Lib.byteCells L) W
  lo : Below W1.heap.size W1 W
  km : KeepM W0 W
theorem PutS.below {W1 W0 : World} {L : List UInt8} {W W' : World} (h : PutS W1 W0 L W) (hb : Below W.heap.size W W') : PutS W1 W0 L W' :=
  ⟨isB_belowC h.bld hb, h.lo.trans (hb.mono h.lo.size), h.km.trans (KeepM.below hb)⟩
set_option maxRecDepth 100000 in
set_option maxHeartbeats 8000000 in
theorem putS8 (v : Slots) (b : BookT) (w : World) (hb : BookIn w v b) (hk : BookOk 1024 b) :
    Calls Tryz.prog 8 #[.agg (cellsB v b)] w fun e w' => e = .returned (.tuple #[.string (putSn b).1, .int .i64 (putSn b).2]) ∧ Below w.heap.size w w' := by
  obtain ⟨R, hR⟩ : ∃ R, putSn b = R := ⟨_, rfl⟩
  have hbx := BoxB.new w v b
  have hA : Below w.heap.size w (w.alloc (.cells (cellsB v b) 27)) := (Below.refl _ w).alloc (Nat.le_refl _) _
  have hM := pmay9 v b (w.alloc (.cells (cellsB v b) 27)) (hb.below hA) (hk.monoS (by omega))
  have HI := Lib.hid (show (Tryz.prog.info? 27).map (·.size) = some (cellsB v b).size from info27)
  rw [hR]
  cases hmay : mayT b with
  | false =>
    rw [hmay] at hM
    have HR := Lib.hid (show R = (⟨#[]⟩, 1) by rw [← hR]; unfold putSn; rw [if_neg (by simp [hmay])])
    have HM := Lib.hid hM
    have HA := Lib.hid hA
    have HBX := Lib.hid hbx
    clear hM hA hbx hR hmay hb hk
    go_enter Tryz.func8, Tryz.ntmps8
    go_wp2_with (first
      | (go_at_call 14; refine HM.out.mono ?_; rintro e w1 ⟨rfl, hb1⟩; have HB1 := Lib.hid hb1; clear hb1)
      | ((with_reducible refine atLoad (ty := 27) (x := .tmp 1) rfl ?_); refine wpList_load_row rfl 27 (.tmp 1) rfl w.heap.size rfl 27 (cellsB v b) (0, 0) _ HBX.out Tryz.underlying27 rfl HI.out ?_))
    go_ret2
    exact ⟨by rw [HR.out]; rfl, HA.out.trans (HB1.out.mono HA.out.size)⟩
  | true =>
    rw [hmay] at hM
    have HR := Lib.hid (show R = (⟨(snapL b).toArray⟩, 0) by rw [← hR]; unfold putSn; rw [if_pos hmay]; rfl)
    have hsn : SnOk b := ⟨hmay, hk⟩
    obtain ⟨_, _, _, z4, z5⟩ := hsn.sizes
    have HM := Lib.hid hM
    have HA := Lib.hid hA
    have HBX := Lib.hid hbx
    have HBI := Lib.hid hb
    have HBK := Lib.hid hk
    clear hM hA hbx hR hmay hb hk hsn
    go_enter Tryz.func8, Tryz.ntmps8
    go_upto_region 4 with (first
      | (go_at_call 14; refine HM.out.mono ?_; rintro e w1 ⟨rfl, hb1⟩; have HB1 := Lib.hid hb1; clear hb1)
      | ((with_reducible refine atLoad (ty := 27) (x := .tmp 1) rfl ?_); refine wpList_load_row rfl 27 (.tmp 1) rfl w.heap.size rfl 27 (cellsB v b) (0, 0) _ HBX.out Tryz.underlying27 rfl HI.out ?_))
    have hB1 : Below w.heap.size w w1 := HA.out.trans (HB1.out.mono HA.out.size)
    have hgl : w.heap.size < w1.heap.size := by have := HB1.out.size; simp at this; omega
    have hx1 : BoxB w1 w.heap.size v b := HBX.out.below HB1.out (by simp)
    have HBW := Lib.hid hB1
    have HXW := Lib.hid (fun W (h : Below w1.heap.size w1 W) => hx1.below h hgl)
    have HIW := Lib.hid (fun W (h : Below w1.heap.size w1 W) => HBI.out.below (hB1.trans (h.mono hB1.size)))
    refine at_world (Φ := fun W => Lib.IsBuilder 44 5 w1.heap.size w1.heap.size (Lib.byteCells []) W ∧ Below w1.heap.size w1 W) ⟨isB_newC w1, (Below.refl _ _).alloc (Nat.le_refl _) _⟩ ?_
    rintro W4 ⟨hb4, hl4⟩
    have k4 := (HXW.out _ hl4).cells.2.2.2.2
    have hcw : IntKind.u64.wrap b.co = b.co := by rw [IntKind.wrap_u64]; omega
    have HNM := Lib.hid (fun W => num8 b.co W z4 (by omega))
    have HE := Lib.hid (show ([] : List UInt8) ++ (M.encB b.co.toNat).data.toList = putP b 0 by simp [putP, putCols, M.encB])
    have hsz := encB_size b.co.toNat
    generalize M.encB b.co.toNat = E at *
    have HB4 := Lib.hid hb4
    have HL4 := Lib.hid hl4
    clear hb4 hl4 hB1 hx1 HM HA HBX HBI HB1
    go_upto_region 5 with (first
      | (go_at_call 15; refine (writeB _ _ _ E _ HB5.out (by simp; omega) HL5.out.size).mono ?_; rintro e w6 ⟨rfl, hb6, hl6, _⟩; rw [HE.out] at hb6; have HB6 := Lib.hid hb6; have HL6 := Lib.hid (HL5.out.trans hl6); clear hb6 hl6)
      | (go_at_call 16; refine (HNM.out _).mono ?_; rintro e w5 ⟨rfl, hb5⟩; have HB5 := Lib.hid (isB_belowC HB4.out hb5); have HL5 := Lib.hid (HL4.out.trans (hb5.mono HL4.out.size)); clear hb5))
    clear k4 hcw HNM HE hsz HB4 HL4 HB5 HL5
    go_wp2_with (go_at_call 17; refine (fields17 w1.heap.size w.heap.size _).mono ?_; rintro e w7 ⟨vf, fs, rfl, hown, hl, hf, hb7⟩; obtain ⟨gf, cap, rfl, hcs⟩ := fld_cells hown hl; have HF := Lib.hid hf; have HLN := Lib.hid hl; have HCS := Lib.hid hcs; have HP7 := Lib.hid (show PutS w1 w7 (putP b 0) w7 from ⟨isB_belowC HB6.out hb7, HL6.out.trans (hb7.mono HL6.out.size), KeepM.refl _⟩); clear hown hl hf hb7 hcs)
    go_loopw [19] (fun vi W => ∃ q : Nat, vi = .int .i64 (q : Int) ∧ q ≤ 15 ∧ PutS w1 w7 (putP b q) W) (fun vi _ => 15 - (intOf vi).toNat)
    case atStart => exact ⟨0, rfl, Nat.zero_le _, HP7.out⟩
    case round =>
      obtain ⟨q, rfl, hq, hps⟩ := hrel
      have HP := Lib.hid hps
      clear hps HP7
      by_cases hlt : q < 15
      · obtain ⟨fl, hfl⟩ : ∃ f, fs[q]? = some f := ⟨fs[q]'(by rw [HLN.out]; exact hlt), by simp⟩
        have hfo := HF.out q fl hfl
        obtain ⟨lp, nb, ib, htc, hkc⟩ := hfo.is
        obtain ⟨k0, k1, k2⟩ := HCS.out wr HP.out.km q fl hfl
        have hent := hfo.ent
        have hTL := fun W (h : PutS w1 w7 (putP b q) W) => hfo.tell W v b h.km (HXW.out W h.lo) (HIW.out W h.lo) (HBK.out.monoS (by omega))
        obtain ⟨mm, tf, tc, kf, kc⟩ := fl
        dsimp only at htc hkc k0 k1 k2 hent hTL
        subst htc hkc
        have HTL := Lib.hid hTL
        obtain ⟨hl1, hl2⟩ := colQ_ok HBK.out hlt
        have HCP := Lib.hid (fun (a : Option Addr) (c : Nat) W (h : I64s W a (colQ q b)) => put7 a c (colQ q b) W h (by omega) hl2)
        have hpl := putB_len hl1
        rw [putB_size] at hpl
        have HNX := Lib.hid (putP_next b hlt)
        have hlen := putP_len HBK.out q
        have HSE := Lib.hid (show (⟨(putA (colQ q b).length (runsS (colQ q b))).toArray⟩ : ByteArray).data.toList = putL (colQ q b) from rfl)
        have hsx : (⟨(putA (colQ q b).length (runsS (colQ q b))).toArray⟩ : ByteArray).size = (putL (colQ q b)).length := Lib.size_eq _
        generalize (⟨(putA (colQ q b).length (runsS (colQ q b))).toArray⟩ : ByteArray) = E2 at *
        clear hfl hfo hTL hl1 hl2
        go_upto_region 8 with (fail)
        refine at_world (Φ := fun W => PutS w1 w7 (putP b q) W ∧ W.cell? ⟨wr.heap.size, 1, none⟩ = some (.func (.func tf) #[] #[ptrV lp, ptrV nb])) ⟨HP.out.below ((Below.refl _ _).alloc (Nat.le_refl _) _), by rw [cell_of_row _ _ _ _ _ _ (heap_alloc_new wr _)]; rfl⟩ ?_
        rintro W8 ⟨hp8, k8⟩
        have HP8 := Lib.hid hp8
        clear hp8 k0 k1 k2
        go_wp2_with (first
          | (go_at_call 15; refine (writeB _ _ _ E2 _ HPB.out.bld (by rw [hsx]; omega) HPB.out.lo.size).mono ?_; rintro e w12 ⟨rfl, hb12, hl12, hk12⟩; rw [HSE.out, HNX.out] at hb12; have HPC := Lib.hid (show PutS w1 w7 (putP b (q + 1)) w12 from ⟨hb12, HPB.out.lo.trans hl12, HPB.out.km.trans hk12.m⟩); clear hb12 hl12 hk12)
          | (go_at_call 18; refine (HCP.out _ _ _ HI2.out).mono ?_; rintro e w11 ⟨rfl, hb11⟩; have HPB := Lib.hid (HPA.out.below hb11); clear hb11)
          | (with_reducible refine (HTL.out _ HP8.out).mono ?_; rintro e w10 ⟨⟨a2, c2, rfl, hI2⟩, hb10⟩; have HPA := Lib.hid (HP8.out.below hb10); have HI2 := Lib.hid hI2; clear hI2 hb10))
        go_roundw
        case rel => exact ⟨q + 1, by go_num, hlt, HPC.out⟩
        case measure => simp [intOf]; omega
      · obtain rfl : q = 15 := by omega
        have hne : putP b 15 ≠ [] := fun e => by have := (M.enc_len b.co.toNat).1; have h2 := congrArg List.length e; unfold putP at h2; rw [List.length_append, List.length_nil] at h2; omega
        have HST := Lib.hid (stringK _ _ _ _ HP.out.bld hne)
        rw [putP_all] at HST
        clear hne
        go_wp2_with (go_at_call 19; refine HST.out.mono ?_; rintro e w12 ⟨rfl, hb12, _⟩; have HB12 := Lib.hid (HBW.out.trans ((HP.out.lo.trans hb12).mono HBW.out.size)); clear hb12)
        go_ret2
        exact ⟨by rw [HR.out]; rfl, HB12.out⟩
end Go.Proofs.YtnhljfhpfpfniaaGreat

namespace Go.Proofs.YtnhljfhpfpfniaaGreat
open Go.RowKit Base Base2

/-- Things of the first columns: the rest is nought. -/
def rowsK (k : Nat) (cs : List (List Int)) : List Item := (List.range (cs.getD 0 []).length).map (fun i => (List.range k).map (fun j => (cs.getD j []).getD i 0))
def seg {α : Type} (cs : List α) (o n : Nat) : List α := (cs.drop o).take n
theorem seg_in {α : Type} (cs : List α) (x : α) {o n : Nat} (h1 : o ≤ cs.length) (h2 : cs.length < o + n) : seg (cs ++ [x]) o n = seg cs o n ++ [x] ∧ (seg cs o n).length = cs.length - o := by
  unfold seg
  rw [List.drop_append_of_le_length h1, List.take_of_length_le (by simp; omega), List.take_of_length_le (by simp; omega)]
  exact ⟨rfl, by simp⟩
theorem seg_low {α : Type} (cs : List α) (x : α) {o n : Nat} (h : o + n ≤ cs.length) : seg (cs ++ [x]) o n = seg cs o n := by
  unfold seg
  rw [List.drop_append_of_le_length (by omega), List.take_append_of_le_length (by simp; omega)]
theorem seg_high {α : Type} (cs : List α) (x : α) {o n : Nat} (h : cs.length < o) : seg (cs ++ [x]) o n = [] ∧ seg cs o n = [] := by
  unfold seg
  rw [List.drop_eq_nil_of_le (by simp; omega), List.drop_eq_nil_of_le (by omega)]
  exact ⟨List.take_nil, List.take_nil⟩
def bookP (cs : List (List Int)) (n : Nat) : BookT := ⟨rowsK 4 (seg cs 0 4), rowsK 3 (seg cs 4 3), rowsK 6 (seg cs 7 6), rowsK 2 (seg cs 13 2), n⟩
def lensP (cs : List (List Int)) : Bool := lenAs (seg cs 0 4) && lenAs (seg cs 4 3) && lenAs (seg cs 7 6) && lenAs (seg cs 13 2)
theorem range_map_ext {α : Type} (G : Nat → α) (l : List α) (k : Nat) (hk : l.length = k) (h : ∀ i x, l[i]? = some x → G i = x) : (List.range k).map G = l := by
  apply List.ext_getElem?
  intro i
  rw [List.getElem?_map]
  by_cases hi : i < k
  · rw [List.getElem?_range hi]
    obtain ⟨x, hx⟩ : ∃ x, l[i]? = some x := ⟨l[i]'(by omega), by simp [hk, hi]⟩
    rw [hx, ← h i x hx]; rfl
  · rw [List.getElem?_eq_none (by simpa using hi), List.getElem?_eq_none (by omega)]; rfl
theorem rowsK_full {k : Nat} {cs : List (List Int)} (h : cs.length = k) : rowsK k cs = rowsT cs := by
  unfold rowsK rowsT
  apply List.map_congr_left
  intro i _
  refine range_map_ext _ _ k (by simpa using h) fun j x hx => ?_
  rw [List.getElem?_map] at hx
  obtain ⟨c, hc, rfl⟩ := Option.map_eq_some_iff.1 hx
  have e : cs.getD j [] = c := by rw [List.getD_eq_getElem?_getD, hc]; rfl
  rw [e]
theorem lenAs_nil : lenAs [] = true := rfl
theorem lenAs_one (x : List Int) : lenAs [x] = true := by simp [lenAs]
theorem lenAs_app {cs : List (List Int)} (x : List Int) (h : cs ≠ []) : lenAs (cs ++ [x]) = (lenAs cs && (x.length == (cs.getD 0 []).length)) := by
  match cs, h with
  | c :: cs, _ =>
    unfold lenAs
    rw [List.all_append]
    simp
theorem rowsK_len (k : Nat) (cs : List (List Int)) : (rowsK k cs).length = (cs.getD 0 []).length := by simp [rowsK]
theorem setC_get (j : Nat) : ∀ (xs : List Int) (l : List Item) (i : Nat) (x : Int) (y : Item), xs[i]? = some x → l[i]? = some y → (setC j xs l)[i]? = some (y.set j x)
  | [], l, i, x, y, hx, _ => by simp at hx
  | x' :: xs, [], i, x, y, _, hy => by simp at hy
  | x' :: xs, y' :: l, 0, x, y, hx, hy => by
    obtain rfl : x' = x := by simpa using hx
    obtain rfl : y' = y := by simpa using hy
    rfl
  | x' :: xs, y' :: l, i + 1, x, y, hx, hy => by
    show (setC j xs l)[i]? = _
    exact setC_get j xs l i x y (by simpa using hx) (by simpa using hy)
theorem range_set {α : Type} (G : Nat → α) (k j : Nat) (x : α) : ((List.range k).map G).set j x = (List.range k).map (fun i => if i = j then x else G i) := by
  symm
  refine range_map_ext _ _ k (by simp) fun i y hy => ?_
  rw [List.getElem?_set] at hy
  by_cases e : j = i
  · subst e
    simp at hy
    rw [if_pos rfl]
    exact hy.2
  · rw [if_neg e, List.getElem?_map] at hy
    rw [if_neg (Ne.symm e)]
    obtain ⟨q, hq, rfl⟩ := Option.map_eq_some_iff.1 hy
    rw [List.getElem?_eq_some_iff] at hq
    obtain ⟨_, hq⟩ := hq
    rw [List.getElem_range] at hq
    rw [hq]
theorem setC_rows (j k n : Nat) (F : Nat → Nat → Int) (xs : List Int) (h : xs.length = n) : setC j xs ((List.range n).map (fun i => (List.range k).map (F i))) = (List.range n).map (fun i => (List.range k).map (fun q => if q = j then xs.getD i 0 else F i q)) := by
  symm
  refine range_map_ext _ _ n (by rw [setC_len]; simp) fun i y hy => ?_
  have hi : i < n := by have := (List.getElem?_eq_some_iff.1 hy).1; rw [setC_len] at this; simpa using this
  have hx : xs[i]? = some (xs.getD i 0) := by rw [List.getD_eq_getElem?_getD]; simp [h, hi]
  have hl : ((List.range n).map (fun i => (List.range k).map (F i)))[i]? = some ((List.range k).map (F i)) := by rw [List.getElem?_map, List.getElem?_range hi]; rfl
  rw [setC_get j xs _ i _ _ hx hl] at hy
  rw [← Option.some.inj hy, range_set]
theorem zeros_rows (k n : Nat) : zerosI k n = (List.range n).map (fun _ => (List.range k).map (fun _ => (0 : Int))) := by
  symm
  refine range_map_ext _ _ n (zeros_len k n) fun i y hy => ?_
  have hy := (List.mem_replicate.1 (List.mem_of_getElem? hy)).2
  rw [hy]
  refine range_map_ext _ _ k (by simp) fun j z hz => ?_
  exact ((List.mem_replicate.1 (List.mem_of_getElem? hz)).2).symm
theorem getD_app_lt (cs : List (List Int)) (x : List Int) {j : Nat} (h : j < cs.length) : (cs ++ [x]).getD j [] = cs.getD j [] := by
  rw [List.getD_eq_getElem?_getD, List.getD_eq_getElem?_getD, List.getElem?_append_left h]
theorem getD_app_eq (cs : List (List Int)) (x : List Int) : (cs ++ [x]).getD cs.length [] = x := by
  rw [List.getD_eq_getElem?_getD, List.getElem?_append_right (Nat.le_refl _), Nat.sub_self]; rfl
theorem getD_gt (cs : List (List Int)) {j : Nat} (h : cs.length ≤ j) : cs.getD j [] = [] := by
  rw [List.getD_eq_getElem?_getD, List.getElem?_eq_none h]; rfl
theorem takeL_rows {k : Nat} {cs : List (List Int)} {xs : List Int} (hk : cs.length < k) (hok : okL cs.length xs (rowsK k cs) = true) : takeL k cs.length xs (rowsK k cs) = rowsK k (cs ++ [xs]) := by
  have hF : ∀ i, (List.range k).map (fun q => if q = cs.length then xs.getD i 0 else (cs.getD q []).getD i 0) = (List.range k).map (fun j => ((cs ++ [xs]).getD j []).getD i 0) := fun i => by
    apply List.map_congr_left
    intro q _
    by_cases h1 : q = cs.length
    · subst h1; rw [if_pos rfl, getD_app_eq]
    · rw [if_neg h1]
      by_cases h2 : q < cs.length
      · rw [getD_app_lt cs xs h2]
      · rw [getD_gt cs (by omega), getD_gt (cs ++ [xs]) (by simp; omega)]
  unfold takeL
  by_cases h0 : cs.length = 0
  · rw [if_pos h0]
    obtain rfl : cs = [] := List.eq_nil_of_length_eq_zero h0
    rw [zeros_rows, setC_rows 0 k xs.length (fun _ _ => 0) xs rfl]
    unfold rowsK
    apply List.map_congr_left
    intro i _
    have h := hF i
    simp only [List.length_nil] at h
    rw [← h]
    apply List.map_congr_left
    intro q _
    split
    · rfl
    · simp
  · unfold okL at hok
    have hl : xs.length = (rowsK k cs).length := by simpa [h0] using hok
    rw [if_neg h0, if_pos hl]
    rw [rowsK_len] at hl
    unfold rowsK
    rw [setC_rows cs.length k _ _ xs hl, getD_app_lt cs xs (by omega)]
    apply List.map_congr_left
    intro i _
    exact hF i
theorem okL_lens {k : Nat} {cs : List (List Int)} (xs : List Int) (h : lenAs cs = true) : okL cs.length xs (rowsK k cs) = lenAs (cs ++ [xs]) := by
  unfold okL
  by_cases h0 : cs = []
  · subst h0; simp [lenAs]
  · rw [lenAs_app xs h0, h, rowsK_len]
    have : (cs.length == 0) = false := by simpa using h0
    rw [this]; rfl
theorem lenAs_no {cs : List (List Int)} (xs : List Int) (h : lenAs cs = false) : lenAs (cs ++ [xs]) = false := by
  have h0 : cs ≠ [] := by rintro rfl; cases h
  rw [lenAs_app xs h0, h]; rfl
/-- A column more. -/
theorem bookP_next {cs : List (List Int)} {xs : List Int} {n q : Nat} (hq : cs.length = q) (hlt : q < 15) (hl : lensP cs = true) : okQ q xs (bookP cs n) = lensP (cs ++ [xs]) ∧ (okQ q xs (bookP cs n) = true → takeQ q xs (bookP cs n) = bookP (cs ++ [xs]) n) := by
  subst hq
  unfold lensP at hl
  simp only [Bool.and_eq_true] at hl
  obtain ⟨⟨⟨l1, l2⟩, l3⟩, l4⟩ := hl
  unfold okQ takeQ
  by_cases h1 : cs.length < 4
  · obtain ⟨e1, e2⟩ := seg_in cs xs (o := 0) (n := 4) (by omega) (by omega)
    obtain ⟨a1, b1⟩ := seg_high cs xs (o := 4) (n := 3) h1
    obtain ⟨a2, b2⟩ := seg_high cs xs (o := 7) (n := 6) (by omega)
    obtain ⟨a3, b3⟩ := seg_high cs xs (o := 13) (n := 2) (by omega)
    rw [if_pos h1, if_pos h1]
    unfold bookP lensP
    rw [e1, a1, b1, a2, b2, a3, b3]
    rw [Nat.sub_zero] at e2
    generalize seg cs 0 4 = sg at *
    dsimp only
    rw [← e2, okL_lens xs l1]
    refine ⟨by simp [lenAs_nil], fun h => ?_⟩
    rw [takeL_rows (by omega) (by rw [okL_lens xs l1]; exact h)]
  · by_cases h2 : cs.length < 7
    · obtain ⟨e1, e2⟩ := seg_in cs xs (o := 4) (n := 3) (by omega) (by omega)
      have a1 := seg_low cs xs (o := 0) (n := 4) (by omega)
      obtain ⟨a2, b2⟩ := seg_high cs xs (o := 7) (n := 6) h2
      obtain ⟨a3, b3⟩ := seg_high cs xs (o := 13) (n := 2) (by omega)
      rw [if_neg h1, if_neg h1, if_pos h2, if_pos h2]
      unfold bookP lensP
      rw [e1, a1, a2, b2, a3, b3]
      generalize seg cs 4 3 = sg at *
      dsimp only
      rw [← e2, okL_lens xs l2]
      refine ⟨by simp [lenAs_nil, l1], fun h => ?_⟩
      rw [takeL_rows (by omega) (by rw [okL_lens xs l2]; exact h)]
    · by_cases h3 : cs.length < 13
      · obtain ⟨e1, e2⟩ := seg_in cs xs (o := 7) (n := 6) (by omega) (by omega)
        have a1 := seg_low cs xs (o := 0) (n := 4) (by omega)
        have a2 := seg_low cs xs (o := 4) (n := 3) (by omega)
        obtain ⟨a3, b3⟩ := seg_high cs xs (o := 13) (n := 2) h3
        rw [if_neg h1, if_neg h1, if_neg h2, if_neg h2, if_pos h3, if_pos h3]
        unfold bookP lensP
        rw [e1, a1, a2, a3, b3]
        generalize seg cs 7 6 = sg at *
        dsimp only
        rw [← e2, okL_lens xs l3]
        refine ⟨by simp [lenAs_nil, l1, l2], fun h => ?_⟩
        rw [takeL_rows (by omega) (by rw [okL_lens xs l3]; exact h)]
      · obtain ⟨e1, e2⟩ := seg_in cs xs (o := 13) (n := 2) (by omega) (by omega)
        have a1 := seg_low cs xs (o := 0) (n := 4) (by omega)
        have a2 := seg_low cs xs (o := 4) (n := 3) (by omega)
        have a3 := seg_low cs xs (o := 7) (n := 6) (by omega)
        rw [if_neg h1, if_neg h1, if_neg h2, if_neg h2, if_neg h3, if_neg h3]
        unfold bookP lensP
        rw [e1, a1, a2, a3]
        generalize seg cs 13 2 = sg at *
        dsimp only
        rw [← e2, okL_lens xs l4]
        refine ⟨by simp [l1, l2, l3], fun h => ?_⟩
        rw [takeL_rows (by omega) (by rw [okL_lens xs l4]; exact h)]
theorem lensP_no {cs : List (List Int)} (xs : List Int) (hl : lensP cs = false) : lensP (cs ++ [xs]) = false := by
  cases h : lensP (cs ++ [xs]) with
  | false => rfl
  | true =>
    have hp : ∀ o n, lenAs (seg (cs ++ [xs]) o n) = true → lenAs (seg cs o n) = true := fun o n h1 => by
      by_cases a : o ≤ cs.length
      · by_cases b : cs.length < o + n
        · rw [(seg_in cs xs a b).1] at h1
          cases h2 : lenAs (seg cs o n) with
          | true => rfl
          | false => rw [lenAs_no xs h2] at h1; cases h1
        · rwa [seg_low cs xs (by omega)] at h1
      · rw [(seg_high cs xs (by omega)).2]; rfl
    unfold lensP at h hl
    simp only [Bool.and_eq_true] at h
    obtain ⟨⟨⟨l1, l2⟩, l3⟩, l4⟩ := h
    rw [hp 0 4 l1, hp 4 3 l2, hp 7 6 l3, hp 13 2 l4] at hl
    cases hl
theorem takeL_ok {k j m : Nat} {xs : List Int} {l : List Item} (hx : xs.length ≤ m) (hin : ∀ x ∈ xs, in6 x) (h : ItemsOk k m l) : ItemsOk k m (takeL k j xs l) := by
  unfold takeL
  split
  · exact setC_ok xs _ hin (zeros_ok k hx)
  · split
    · exact setC_ok xs _ hin h
    · exact h
theorem takeQ_ok {q m : Nat} {xs : List Int} {b : BookT} (hx : xs.length ≤ m) (hin : ∀ x ∈ xs, in6 x) (h : BookOk m b) : BookOk m (takeQ q xs b) ∧ (takeQ q xs b).co = b.co := by
  unfold takeQ
  split
  · exact ⟨⟨takeL_ok hx hin h.hs, h.ss, h.os, h.rs, h.co⟩, rfl⟩
  · split
    · exact ⟨⟨h.hs, takeL_ok hx hin h.ss, h.os, h.rs, h.co⟩, rfl⟩
    · split
      · exact ⟨⟨h.hs, h.ss, takeL_ok hx hin h.os, h.rs, h.co⟩, rfl⟩
      · exact ⟨⟨h.hs, h.ss, h.os, takeL_ok hx hin h.rs, h.co⟩, rfl⟩
/-- What Get has, so far: the bytes' end, a fault, whether the columns are even, the book. -/
structure GInv (e0 : Int) (s0 : List UInt8) (n q : Nat) (rest : ByteArray) (flt : Int) (ev : Bool) (b : BookT) : Prop where
  ok : BookOk 1024 b
  good : flt = 0 → e0 = 0 ∧ ∃ cs, getCols (mostT.take q) s0 = (cs, rest.data.toList, 0) ∧ cs.length = q ∧ ev = lensP cs ∧ (ev = true → b = bookP cs n)
  bad : flt ≠ 0 → (e0 ≠ 0 ∧ flt = e0) ∨ (e0 = 0 ∧ (getCols mostT s0).2.2 = flt)
theorem drop_extract (s : ByteArray) (k : Nat) : (s.extract k s.size).data.toList = s.data.toList.drop k := ext_drop s k
theorem GInv.next {e0 : Int} {s0 : List UInt8} {n q m : Nat} {rest : ByteArray} {flt : Int} {ev : Bool} {b : BookT} (h : GInv e0 s0 n q rest flt ev b) (hq : q < 15) (hm : mostT[q]? = some m) :
    GInv e0 s0 n (q + 1) (nextS rest flt m).2.1 (nextS rest flt m).2.2 (okQ q (nextS rest flt m).1 b && ev) (takeQ q (nextS rest flt m).1 b) ∧ (nextS rest flt m).1.length ≤ 1024 := by
  have hm2 : m ≤ 1024 := by
    have hmem := List.mem_of_getElem? hm
    simp [mostT] at hmem
    omega
  unfold nextS
  by_cases hf : flt = 0
  · rw [if_neg (by simp [hf])]
    obtain ⟨h0, cs, hg, hl, hev, hb⟩ := h.good hf
    obtain ⟨l, k, er, hgs⟩ : ∃ l k er, getS rest.data.toList m = (l, k, er) := ⟨_, _, _, rfl⟩
    rw [hgs]
    dsimp only
    by_cases her : er = 0
    · subst her
      obtain ⟨_, p2, p3, p4⟩ := put_get hgs
      have hn := getCols_next hg hm hgs
      refine ⟨⟨(takeQ_ok (by omega) p4 h.ok).1, fun _ => ⟨h0, cs ++ [l], by rw [hn, orZ_ok, drop_extract], by rw [List.length_append, hl]; rfl, ?_, fun ht => ?_⟩, fun hne => absurd rfl hne⟩, by omega⟩
      · cases hl2 : lensP cs with
        | true =>
          have := hb (hev.trans hl2)
          rw [hev, hl2, Bool.and_true, this, (bookP_next hl hq hl2).1]
        | false => rw [hev, hl2, Bool.and_false, lensP_no l hl2]
      · simp only [Bool.and_eq_true] at ht
        have hb2 := hb ht.2
        rw [hb2] at ht ⊢
        exact (bookP_next hl hq (hev.symm.trans ht.2)).2 ht.1
    · have hl0 : l = [] := by have := getS_err (s := rest.data.toList) (m := m) (by rw [hgs]; exact her); rwa [hgs] at this
      subst hl0
      refine ⟨⟨(takeQ_ok (by simp) (by simp) h.ok).1, fun he => absurd he her, fun _ => .inr ⟨h0, ?_⟩⟩, by simp⟩
      have := getCols_fail hg hm (by rw [hgs]; exact her)
      rw [this, hgs]
  · rw [if_pos hf]
    exact ⟨⟨(takeQ_ok (by simp) (by simp) h.ok).1, fun he => absurd he hf, fun _ => h.bad hf⟩, by simp⟩
theorem lensP_all {cs : List (List Int)} (h : cs.length = 15) (n : Nat) : lensP cs = lensT cs ∧ bookP cs n = bookOf cs n := by
  have e1 : seg cs 0 4 = cs.take 4 := rfl
  have e4 : seg cs 13 2 = cs.drop 13 := by unfold seg; rw [List.take_of_length_le (by simp; omega)]
  refine ⟨by unfold lensP lensT; rw [e1, e4]; rfl, ?_⟩
  unfold bookP bookOf
  rw [e4, rowsK_full (cs := seg cs 0 4) (by simp [seg]; omega), rowsK_full (cs := seg cs 4 3) (by simp [seg]; omega), rowsK_full (cs := seg cs 7 6) (by simp [seg]; omega), rowsK_full (cs := cs.drop 13) (by simp; omega)]
  rfl
/-- What stands in the end. -/
theorem GInv.done {s : List UInt8} {n P : Nat} {e0 : Int} {rest : ByteArray} {flt : Int} {ev : Bool} {b : BookT} (hn : numM s 1099511627776 = (n, P, e0)) (h : GInv e0 (s.drop P) n 15 rest flt ev b) :
    getSnap s = if flt ≠ 0 then (zeroB, flt) else if rest.data.toList ≠ [] ∨ ev = false ∨ mayT b = false then (zeroB, 3) else (b, 0) := by
  unfold getSnap
  rw [hn]
  dsimp only
  by_cases hf : flt = 0
  · obtain ⟨h0, cs, hg, hl, hev, hb⟩ := h.good hf
    have hg2 : getCols mostT (s.drop P) = (cs, rest.data.toList, 0) := hg
    obtain ⟨q1, q2⟩ := lensP_all hl n
    have n0 : ¬ e0 ≠ 0 := by simp [h0]
    have n1 : ¬ (0 : Int) ≠ 0 := by simp
    have n2 : ¬ flt ≠ 0 := by simp [hf]
    rw [if_neg n0, hg2]
    dsimp only
    rw [if_neg n1, if_neg n2]
    by_cases hr : rest.data.toList = []
    · have n3 : ¬ rest.data.toList ≠ [] := fun h => h hr
      rw [if_neg n3]
      cases hl2 : lensT cs with
      | false =>
        have hev2 : ev = false := by rw [hev, q1, hl2]
        rw [if_pos rfl, if_pos (.inr (.inl hev2))]
      | true =>
        have n4 : ¬ true = false := by simp
        have hev2 : ev = true := by rw [hev, q1, hl2]
        rw [if_neg n4]
        have hb2 := hb hev2
        rw [← q2, ← hb2]
        cases hm : mayT b with
        | false => rw [if_pos rfl, if_pos (.inr (.inr rfl))]
        | true =>
          have n5 : ¬ (rest.data.toList ≠ [] ∨ ev = false ∨ true = false) := by rw [hev2]; simp [n3] <;> exact hr
          rw [if_neg n4, if_neg n5]
    · rw [if_pos hr, if_pos (.inl hr)]
  · rw [if_pos hf]
    rcases h.bad hf with ⟨h1, h2⟩ | ⟨h1, h2⟩
    · rw [if_pos h1, h2]
    · rw [if_neg (by simp [h1]), if_pos (by rw [h2]; exact hf), h2]
theorem GInv.start {s : ByteArray} {n P : Nat} {e0 : Int} (hn : numM s.data.toList 1099511627776 = (n, P, e0)) : GInv e0 (s.data.toList.drop P) n 0 (AfterX s 0 (P : Int) e0).1 (AfterX s 0 (P : Int) e0).2 true ⟨[], [], [], [], (n : Int)⟩ := by
  have hnb : n ≤ 1099511627776 := by
    by_cases he : e0 = 0
    · subst he; exact (numM_some hn).2
    · rw [numM_zero hn he]; omega
  have hz : ∀ k, ItemsOk k 1024 [] := fun k => ⟨Nat.zero_le _, fun x hx => by cases hx⟩
  refine ⟨⟨hz _, hz _, hz _, hz _, by unfold in6; dsimp only; omega⟩, fun hf => ?_, fun hf => ?_⟩
  · unfold AfterX at hf ⊢
    rw [if_pos rfl] at hf ⊢
    by_cases he : e0 = 0
    · subst he
      rw [if_pos rfl, Int.toNat_natCast]
      refine ⟨rfl, [], ?_, rfl, rfl, fun _ => rfl⟩
      rw [drop_extract]; rfl
    · rw [if_neg he] at hf
      exact absurd hf he
  · unfold AfterX at hf ⊢
    rw [if_pos rfl] at hf ⊢
    by_cases he : e0 = 0
    · rw [if_pos he] at hf; exact absurd rfl hf
    · rw [if_neg he]; exact .inl ⟨he, rfl⟩
/-- What is left is an end of the bytes. -/
def Sfx (S rest : ByteArray) : Prop := rest.size ≤ S.size ∧ S.extract (S.size - rest.size) S.size = rest
theorem Sfx.drop {S rest : ByteArray} (h : Sfx S rest) {k : Nat} (hk : k ≤ rest.size) : Sfx S (rest.extract k rest.size) := by
  obtain ⟨h1, h2⟩ := h
  have hz : (rest.extract k rest.size).size = rest.size - k := by simp [ByteArray.size_extract]
  refine ⟨by omega, ?_⟩
  rw [hz]
  apply ByteArray.ext
  apply Array.toList_inj.1
  rw [drop_extract, drop_extract]
  have e2 : rest.data.toList = S.data.toList.drop (S.size - rest.size) := by
    conv => lhs; rw [← h2]
    rw [drop_extract]
  rw [e2, List.drop_drop]
  congr 1
  omega
theorem Sfx.refl (S : ByteArray) : Sfx S S := by
  refine ⟨Nat.le_refl _, ?_⟩
  rw [Nat.sub_self]
  apply ByteArray.ext
  apply Array.toList_inj.1
  rw [drop_extract]; rfl
theorem Sfx.next {S rest : ByteArray} {flt : Int} {m : Nat} (h : Sfx S rest) : Sfx S (nextS rest flt m).2.1 := by
  unfold nextS
  by_cases hf : flt = 0
  · rw [if_neg (by simp [hf])]
    obtain ⟨l, k, er, hg⟩ : ∃ l k er, getS rest.data.toList m = (l, k, er) := ⟨_, _, _, rfl⟩
    rw [hg]
    dsimp only
    by_cases he : er = 0
    · subst he
      rw [orZ_ok]
      exact h.drop (by rw [Lib.size_eq]; exact (put_get hg).2.1)
    · rw [orZ_no _ _ _ he]; exact h
  · rw [if_pos hf]; exact h
theorem Sfx.start {s : ByteArray} {n P : Nat} {e0 : Int} (hn : numM s.data.toList 1099511627776 = (n, P, e0)) : Sfx s (AfterX s 0 (P : Int) e0).1 := by
  have hle := numTo_le s (fun n => decide ((n : Int) ≤ ((1099511627776 : Nat) : Int)))
  unfold AfterX
  rw [if_pos rfl]
  by_cases he : e0 = 0
  · rw [if_pos he, Int.toNat_natCast]
    refine (Sfx.refl s).drop ?_
    have h2 : numTo s.data.toList (fun n => decide ((n : Int) ≤ ((1099511627776 : Nat) : Int))) = (n, P, e0) := hn
    rw [h2] at hle
    exact hle
  · rw [if_neg he]; exact Sfx.refl s
end Go.Proofs.YtnhljfhpfpfniaaGreat

namespace Go.Proofs.YtnhljfhpfpfniaaGreat
open Go.RowKit Base Base2

/-- While Get goes on; W1: the world in which the answer's box lies. -/
structure GetW (W1 W0 : World) (gb p : Nat) (b : BookT) (rest : ByteArray) (flt : Int) (W : World) : Prop where
  rd : RdX W p rest flt
  bk : ∃ v, BkS W1.heap.size gb W v b
  lo : Below W1.heap.size W1 W
  km : KeepM W0 W
  pB : W1.heap.size ≤ p
theorem GetW.below {W1 W0 : World} {gb p : Nat} {b : BookT} {rest : ByteArray} {flt : Int} {W W' : World} (h : GetW W1 W0 gb p b rest flt W) (hb : Below W.heap.size W W') : GetW W1 W0 gb p b rest flt W' := by
  obtain ⟨v, hv⟩ := h.bk
  exact ⟨h.rd.below hb h.rd.lt, ⟨v, hv.below hb⟩, h.lo.trans (hb.mono h.lo.size), h.km.trans (KeepM.below hb), h.pB⟩
theorem GetW.read {W1 W0 : World} {gb p : Nat} {b : BookT} {rest rest' : ByteArray} {flt flt' : Int} {W W' : World} (h : GetW W1 W0 gb p b rest flt W) (hr : RdX W' p rest' flt') (hg : W.grownBy W' (some p)) : GetW W1 W0 gb p b rest' flt' W' := by
  obtain ⟨v, hv⟩ := h.bk
  exact ⟨hr, ⟨v, hv.grown hg h.rd rfl⟩, h.lo.grown hg h.lo.size (fun k e => by cases e; exact h.pB), h.km.trans (KeepM.grown hg h.rd rfl), h.pB⟩
theorem GetW.took {W1 W0 : World} {gb p : Nat} {b b' : BookT} {rest : ByteArray} {flt : Int} {W W' : World} (h : GetW W1 W0 gb p b rest flt W) (hb : ∃ v', BkS W1.heap.size gb W' v' b') (hk : KeepT W W') (hl : Below W1.heap.size W W') : GetW W1 W0 gb p b' rest flt W' :=
  ⟨hk.same _ _ h.rd rfl, hb, h.lo.trans hl, h.km.trans hk.m, h.pB⟩
theorem BkS.low {B gb : Nat} {W W' : World} {v : Slots} {b : BookT} (h : BkS B gb W v b) (hs : ∀ i, B ≤ i → W'.heap[i]? = W.heap[i]?) : BkS B gb W' v b :=
  ⟨(hs gb h.lo).trans h.box, own_lowS h.h hs, own_lowS h.s hs, own_lowS h.o hs, own_lowS h.r hs, h.lo⟩
/-- What Get's end answers. -/
theorem get_zero_end {w W1 W : World} {R : BookT × Int} {e : Int} (hA : Below w.heap.size w W1) (hl : Below W1.heap.size W1 W) (hR : R = (zeroB, e)) {ks : Array Value} : (∃ v, Ending.returned (.tuple #[.agg #[.slice none 0 0, .slice none 0 0, .slice none 0 0, .slice none 0 0, .int .i64 0], .int .i64 e]) = .returned (.tuple #[.agg (cellsB v R.1), .int .i64 R.2]) ∧ BookIn (W.setRow w.heap.size ks) v R.1) ∧ Below w.heap.size w (W.setRow w.heap.size ks) := by
  subst hR
  exact ⟨⟨zeroS, rfl, in_zero _⟩, below_rowB (hA.trans (hl.mono hA.size)) (Nat.le_refl _)⟩
theorem get_book_end {w W1 W : World} {R : BookT × Int} {gb : Nat} {v : Slots} {b : BookT} (hs : w.heap.size + 1 = W1.heap.size) (hA : Below w.heap.size w W1) (hl : Below W1.heap.size W1 W) (hb : BkS W1.heap.size gb W v b) (hk : BookOk 1024 b) (hR : R = (b, 0)) {ks : Array Value} : (∃ u, Ending.returned (.tuple #[.agg (cellsB v b), .int .i64 0]) = .returned (.tuple #[.agg (cellsB u R.1), .int .i64 R.2]) ∧ BookIn (W.setRow w.heap.size ks) u R.1) ∧ Below w.heap.size w (W.setRow w.heap.size ks) := by
  subst hR
  exact ⟨⟨v, rfl, (hb.low (fun i hi => setRow_ne _ (by omega))).isIn hk⟩, below_rowB (hA.trans (hl.mono hA.size)) (Nat.le_refl _)⟩
set_option maxRecDepth 100000 in
set_option maxHeartbeats 8000000 in
theorem getS10 (S : ByteArray) (w : World) (hS : S.size ≤ 100000) :
    Calls Tryz.prog 10 #[.string S] w fun e w' => (∃ v, e = .returned (.tuple #[.agg (cellsB v (getSn S).1), .int .i64 (getSn S).2]) ∧ BookIn w' v (getSn S).1) ∧ Below w.heap.size w w' := by
  obtain ⟨R, hR⟩ : ∃ R, getSn S = R := ⟨_, rfl⟩
  obtain ⟨n, P, e0, hn⟩ : ∃ n P e0, numM S.data.toList 1099511627776 = (n, P, e0) := ⟨_, _, _, rfl⟩
  have HSX := Lib.hid (Sfx.start hn)
  have HG0 := Lib.hid (GInv.start hn)
  have HDN := Lib.hid (fun (rest : ByteArray) (flt : Int) (ev : Bool) (b : BookT) (h : GInv e0 (S.data.toList.drop P) n 15 rest flt ev b) => (show R = _ from hR.symm.trans (h.done hn)))
  have hnb : n ≤ 1099511627776 := by
    by_cases he : e0 = 0
    · subst he; exact (numM_some hn).2
    · rw [numM_zero hn he]; omega
  have HRD := Lib.hid (fun W => read18 S W)
  have hN := fun p W (h : RdX W p S 0) => num19 p S 0 1099511627776 W (by omega) h
  have hn' : numTo S.data.toList (fun n => decide ((n : Int) ≤ 1099511627776)) = (n, P, e0) := hn
  simp only [hn', orZ_ok] at hN
  rw [hR]
  have HN := Lib.hid hN
  generalize (AfterX S 0 (P : Int) e0).1 = rest0 at *
  generalize (AfterX S 0 (P : Int) e0).2 = flt0 at *
  clear hN hn hn' hR
  have hcw : IntKind.i64.wrap (n : Int) = (n : Int) := by rw [IntKind.wrap_i64]; omega
  go_enter Tryz.func10, Tryz.ntmps10
  go_upto_region 3 with (first
    | (go_at_call 23; refine (HN.out _ _ HR2.out).mono ?_; rintro e w3 ⟨rfl, hr3, hg3⟩; have HR3 := Lib.hid hr3; have HG3 := Lib.hid hg3; clear hr3 hg3)
    | (go_at_call 22; refine (HRD.out _).mono ?_; rintro e w2 ⟨rfl, hr2, hb2⟩; rw [World.size_alloc] at hr2; have HR2 := Lib.hid hr2; have HB2 := Lib.hid hb2; clear hr2 hb2))
  obtain ⟨W1, hW1⟩ : ∃ x, w.alloc (.cells #[.slice none 0 0, .slice none 0 0, .slice none 0 0, .slice none 0 0, .int .i64 0] 27) = x := ⟨_, rfl⟩
  have hs1 : w.heap.size + 1 = W1.heap.size := by rw [← hW1]; simp
  have hA : Below w.heap.size w W1 := by rw [← hW1]; exact (Below.refl _ w).alloc (Nat.le_refl _) _
  have hz1 : W1.heap[w.heap.size]? = some (.cells #[.slice none 0 0, .slice none 0 0, .slice none 0 0, .slice none 0 0, .int .i64 0] 27 (0, 0)) := by rw [← hW1]; exact heap_alloc_new w _
  have hb2 := HB2.out
  rw [hW1] at hb2
  have hl3 : Below W1.heap.size W1 w3 := hb2.grown HG3.out hb2.size (fun k e => by cases e; omega)
  have hcg := HG3.out
  have h34 : Below w3.heap.size w3 (w3.alloc (.cells #[.slice none 0 0, .slice none 0 0, .slice none 0 0, .slice none 0 0, .int .i64 (n : Int)] 27)) := (Below.refl _ _).alloc (Nat.le_refl _) _
  have hge := hl3.size
  refine at_world (Φ := fun W => RdX W (w.heap.size + 1) rest0 flt0 ∧ BkS W1.heap.size w3.heap.size W ⟨none, none, none, none, 0, 0, 0, 0⟩ ⟨[], [], [], [], (n : Int)⟩ ∧ Below W1.heap.size W1 W) ⟨HR3.out.below h34 HR3.out.lt, BkS.zero (heap_alloc_new w3 _) hge, hl3.trans (h34.mono hge)⟩ ?_
  rintro W4 ⟨hr4, hk4, hl4⟩
  have HA := Lib.hid hA
  have HZ1 := Lib.hid hz1
  have HR4 := Lib.hid hr4
  have HK4 := Lib.hid hk4
  have HL4 := Lib.hid hl4
  have HS1 := Lib.hid hs1
  clear hA hz1 hr4 hk4 hl4 hW1 hb2 hl3 h34 hcg HR2 HB2 HR3 HG3 HN HRD hcw hge hs1
  generalize w3.heap.size = gb at *
  go_wp2_with (go_at_call 17; refine (fields17 W1.heap.size gb _).mono ?_; rintro e w7 ⟨vf, fs, rfl, hown, hl, hf, hb7⟩; obtain ⟨gf, cap, rfl, hcs⟩ := fld_cells hown hl; have HF := Lib.hid hf; have HLN := Lib.hid hl; have HCS := Lib.hid hcs; have HP7 := Lib.hid (show GetW W1 w7 gb (w.heap.size + 1) ⟨[], [], [], [], (n : Int)⟩ rest0 flt0 w7 from ⟨HR4.out.below hb7 HR4.out.lt, ⟨_, HK4.out.below hb7⟩, HL4.out.trans (hb7.mono HL4.out.size), KeepM.refl _, by have := HS1.out; omega⟩); clear hown hl hf hb7 hcs)
  clear HR4 HK4 HL4
  go_loopw [6, 18] (fun v6 vi W => ∃ (q : Nat) (rest : ByteArray) (flt : Int) (ev : Bool) (b : BookT), vi = .int .i64 (q : Int) ∧ q ≤ 15 ∧ v6 = .bool ev ∧ GInv e0 (S.data.toList.drop P) n q rest flt ev b ∧ Sfx S rest ∧ GetW W1 w7 gb (w.heap.size + 1) b rest flt W) (fun _ vi _ => 15 - (intOf vi).toNat)
  case atStart => exact ⟨0, rest0, flt0, true, _, rfl, Nat.zero_le _, rfl, HG0.out, HSX.out, HP7.out⟩
  case round =>
    obtain ⟨q, rest, flt, ev, b, rfl, hq, rfl, hgi, hsx, hps⟩ := hrel
    have HGI := Lib.hid hgi
    have HSF := Lib.hid hsx
    have HP := Lib.hid hps
    clear hps HP7 hgi hsx HG0 HSX
    by_cases hlt : q < 15
    · obtain ⟨fl, hfl⟩ : ∃ f, fs[q]? = some f := ⟨fs[q]'(by rw [HLN.out]; exact hlt), by simp⟩
      have hfo := HF.out q fl hfl
      obtain ⟨lp, nb, ib, htc, hkc⟩ := hfo.is
      obtain ⟨k0, k1, k2⟩ := HCS.out wr HP.out.km q fl hfl
      have henk := hfo.enk
      obtain ⟨hgn, hxl⟩ := HGI.out.next hlt hfo.m
      have hsn := HSF.out.next (flt := flt) (m := fl.m)
      have hTK := fun W v a c => hfo.take W v b a c (nextS rest flt fl.m).1
      have hmb : fl.m ≤ 65536 := by
        have hmem := List.mem_of_getElem? hfo.m
        simp [mostT] at hmem
        omega
      obtain ⟨mm, tf, tc, kf, kc⟩ := fl
      dsimp only at htc hkc k0 k1 k2 henk hTK hgn hxl hsn hmb
      subst htc hkc
      have HNS := Lib.hid (fun W (h : RdX W (w.heap.size + 1) rest flt) => next24 S rest (w.heap.size + 1) flt mm W h (by omega) HSF.out.1 HSF.out.2 hmb)
      obtain ⟨⟨xs, rest', flt'⟩, hns⟩ : ∃ r, nextS rest flt mm = r := ⟨_, rfl⟩
      rw [hns] at hgn hxl hsn hTK HNS
      dsimp only at hgn hxl hsn hTK
      have HOK := Lib.hid HGI.out.ok
      have HTK := Lib.hid (fun W v a c h1 h2 h3 (h4 : I64s W a xs) (h5 : SepA gb v b a) => show Calls Tryz.prog kf #[.slice a xs.length c, ptrV ib, ptrV lp, ptrV nb] W _ from hTK W v a c h1 h2 h3 (HOK.out.monoS (by omega)) h4 hxl h5)
      have HGN := Lib.hid hgn
      have HSN := Lib.hid hsn
      clear hfl hfo hTK hns hgn hxl hsn hmb
      go_upto_region 7 with (fail)
      refine at_world (Φ := fun W => GetW W1 w7 gb (w.heap.size + 1) b rest flt W ∧ W.heap[wr.heap.size]? = some (.cells #[.int .i64 (mm : Int), .func (.func tf) #[] #[ptrV lp, ptrV nb], .func (.func kf) #[] #[ptrV ib, ptrV lp, ptrV nb]] 57 (0, 0))) ⟨HP.out.below ((Below.refl _ _).alloc (Nat.le_refl _) _), heap_alloc_new wr _⟩ ?_
      rintro W8 ⟨hp8, k8⟩
      have HP8 := Lib.hid (hp8.below ((Below.refl _ W8).drew))
      have HK8 := Lib.hid k8
      clear hp8 k8 k0 k1 k2
      generalize wr.heap.size = g8 at *
      obtain ⟨okv, hok⟩ : ∃ o, okQ q xs b = o := ⟨_, rfl⟩
      rw [hok] at HTK HGN
      clear hok
      cases okv with
      | true =>
        rw [Bool.true_and] at HGN
        refine wp_region_held_drew (S := fun W => W.heap[g8]? = some (.cells #[.int .i64 (mm : Int), .func (.func tf) #[] #[ptrV lp, ptrV nb], .func (.func kf) #[] #[ptrV ib, ptrV lp, ptrV nb]] 57 (0, 0))) (by kernel_rfl) (by exact HK8.out) (fun hS => ?_)
        refine wpAnyH_take (i := 0) (v := .pointer (some ⟨g8, 2, none⟩)) rfl (by kernel_rfl) (by kernel_rfl) (by kernel_rfl) (fun _ _ _ h => h) (Or.inl ⟨by simp [Region.wanted], fun W _ => by go_simp⟩) hS ?_
        simp only [List.getElem_toArray, List.getElem_cons_zero, Act.put, List.setIfInBounds_toArray, List.set_cons_zero, List.set_cons_succ]
        refine wpAnyH_take (i := 1) (v := .func (.func kf) #[] #[ptrV ib, ptrV lp, ptrV nb]) rfl (by kernel_rfl) (by kernel_rfl) (by kernel_rfl) (fun _ _ _ h => h) (Or.inl ⟨by simp [Region.wanted], fun W hW => by (have c2 : W.cell? ⟨g8, 2, none⟩ = some (.func (.func kf) #[] #[ptrV ib, ptrV lp, ptrV nb]) := (cell_of_row _ _ _ _ _ _ hW).trans rfl); go_simp⟩) hS ?_
        simp only [List.getElem_toArray, List.getElem_cons_zero, List.getElem_cons_succ, Act.put, List.setIfInBounds_toArray, List.set_cons_zero, List.set_cons_succ]
        refine wpAnyH_take (i := 2) (v := .string S) rfl (by kernel_rfl) (by kernel_rfl) (by kernel_rfl) (fun _ _ _ h => h) (Or.inl ⟨by simp [Region.wanted], fun W _ => by go_simp⟩) hS ?_
        simp only [List.getElem_toArray, List.getElem_cons_zero, List.getElem_cons_succ, Act.put, List.setIfInBounds_toArray, List.set_cons_zero, List.set_cons_succ]
        refine wpAnyH_take (i := 3) (v := .pointer (some ⟨w.heap.size + 1, 0, none⟩)) rfl (by kernel_rfl) (by kernel_rfl) (by kernel_rfl) (fun _ _ _ h => h) (Or.inl ⟨by simp [Region.wanted], fun W _ => by go_simp⟩) hS ?_
        simp only [List.getElem_toArray, List.getElem_cons_zero, List.getElem_cons_succ, Act.put, List.setIfInBounds_toArray, List.set_cons_zero, List.set_cons_succ]
        refine wpAnyH_take (i := 4) (v := .pointer (some ⟨g8, 0, none⟩)) rfl (by kernel_rfl) (by kernel_rfl) (by kernel_rfl) (fun _ _ _ h => h) (Or.inl ⟨by simp [Region.wanted], fun W _ => by go_simp⟩) hS ?_
        simp only [List.getElem_toArray, List.getElem_cons_zero, List.getElem_cons_succ, Act.put, List.setIfInBounds_toArray, List.set_cons_zero, List.set_cons_succ]
        refine wpAnyH_take (i := 5) (v := .int .i64 (mm : Int)) rfl (by kernel_rfl) (by kernel_rfl) (by kernel_rfl) (fun _ _ _ h => h) (Or.inl ⟨by simp [Region.wanted], fun W hW => by (have c0 : W.cell? ⟨g8, 0, none⟩ = some (.int .i64 (mm : Int)) := (cell_of_row _ _ _ _ _ _ hW).trans rfl); go_simp⟩) hS ?_
        simp only [List.getElem_toArray, List.getElem_cons_zero, List.getElem_cons_succ, Act.put, List.setIfInBounds_toArray, List.set_cons_zero, List.set_cons_succ]
        refine wpAnyH_ready (rs := [6]) (by kernel_rfl) (by simp) ?_
        refine AllReadyH.cons rfl (fun K1 hK1 => ?_) AllReadyH.nil
        refine wanted_go rfl ?_
        simp only [List.getElem_toArray, List.getElem_cons_zero, List.getElem_cons_succ]
        go_wp2_with (go_at_call 24; refine (HNS.out _ HP8.out.rd).mono ?_; rintro e w10 ⟨⟨a2, c2, rfl, hI, hfr⟩, hr, hg⟩; obtain ⟨v9, hv9⟩ := HP8.out.bk; have HSP := Lib.hid (SepA.fresh hv9 hfr); have HV := Lib.hid (hv9.grown hg HP8.out.rd rfl); have HI := Lib.hid hI; have HPX := Lib.hid (HP8.out.read hr hg); have HKX := Lib.hid ((KeepM.grown hg HP8.out.rd rfl).same _ _ hS rfl); clear hI hfr hr hg hv9)
        refine hK1.out _ _ (HKX.out) (fun hS1 => ?_)
        refine wpAnyH_ready (rs := [7]) (by kernel_rfl) (by simp) ?_
        refine AllReadyH.cons rfl (fun K2 hK2 => ?_) AllReadyH.nil
        refine wanted_go rfl ?_
        simp only [List.getElem_toArray, List.getElem_cons_zero, List.getElem_cons_succ]
        go_wp2_with (with_reducible refine (HTK.out _ v9 a2 c2 HPX.out.km HPX.out.lo.size HV.out HI.out HSP.out).mono ?_; rintro e w11 ⟨rfl, hb11, hk11, hl11⟩; have HPZ := Lib.hid (HPX.out.took hb11 hk11 hl11); have HKZ := Lib.hid (hk11.same _ _ HKX.out rfl); clear hb11 hk11 hl11)
        refine hK2.out _ _ (HKZ.out) (fun hS2 => ?_)
        refine wpAnyH_take (i := 8) (v := .bool true) rfl (by kernel_rfl) (by kernel_rfl) (by kernel_rfl) (fun _ _ _ h => h) (Or.inl ⟨by simp [Region.wanted], fun W _ => by go_simp⟩) hS2 ?_
        simp only [List.getElem_toArray, List.getElem_cons_zero, List.getElem_cons_succ, Act.put, List.setIfInBounds_toArray, List.set_cons_zero, List.set_cons_succ]
        refine wpAnyH_take (i := 9) (v := .bool ev) rfl (by kernel_rfl) (by kernel_rfl) (by kernel_rfl) (fun _ _ _ h => h) (Or.inl ⟨by rfl, fun W _ => by go_simp⟩) hS2 ?_
        simp only [List.getElem_toArray, List.getElem_cons_zero, List.getElem_cons_succ, Act.put, List.setIfInBounds_toArray, List.set_cons_zero, List.set_cons_succ]
        refine wpAnyH_take (i := 10) (v := .bool ev) rfl (by kernel_rfl) (by kernel_rfl) (by kernel_rfl) (fun _ _ _ h => h) (Or.inl ⟨by simp [Region.wanted], fun W _ => by go_simp⟩) hS2 ?_
        simp only [List.getElem_toArray, List.getElem_cons_zero, List.getElem_cons_succ, Act.put, List.setIfInBounds_toArray, List.set_cons_zero, List.set_cons_succ]
        refine wpAnyH_take (i := 11) (v := .bool ev) rfl (by kernel_rfl) (by kernel_rfl) (by kernel_rfl) (fun _ _ _ h => h) (Or.inl ⟨by simp [Region.wanted], fun W _ => by go_simp⟩) hS2 ?_
        simp only [List.getElem_toArray, List.getElem_cons_zero, List.getElem_cons_succ, Act.put, List.setIfInBounds_toArray, List.set_cons_zero, List.set_cons_succ]
        refine wpAnyH_done (by kernel_rfl) ?_ _
        go_wp2
        go_roundw
        case rel => exact ⟨q + 1, rest', flt', ev, _, by go_num, hlt, rfl, HGN.out, HSN.out, HPZ.out⟩
        case measure => simp [intOf]; omega
      | false =>
        rw [Bool.false_and] at HGN
        refine wp_region_held_drew (S := fun W => W.heap[g8]? = some (.cells #[.int .i64 (mm : Int), .func (.func tf) #[] #[ptrV lp, ptrV nb], .func (.func kf) #[] #[ptrV ib, ptrV lp, ptrV nb]] 57 (0, 0))) (by kernel_rfl) (by exact HK8.out) (fun hS => ?_)
        refine wpAnyH_take (i := 0) (v := .pointer (some ⟨g8, 2, none⟩)) rfl (by kernel_rfl) (by kernel_rfl) (by kernel_rfl) (fun _ _ _ h => h) (Or.inl ⟨by simp [Region.wanted], fun W _ => by go_simp⟩) hS ?_
        simp only [List.getElem_toArray, List.getElem_cons_zero, Act.put, List.setIfInBounds_toArray, List.set_cons_zero, List.set_cons_succ]
        refine wpAnyH_take (i := 1) (v := .func (.func kf) #[] #[ptrV ib, ptrV lp, ptrV nb]) rfl (by kernel_rfl) (by kernel_rfl) (by kernel_rfl) (fun _ _ _ h => h) (Or.inl ⟨by simp [Region.wanted], fun W hW => by (have c2 : W.cell? ⟨g8, 2, none⟩ = some (.func (.func kf) #[] #[ptrV ib, ptrV lp, ptrV nb]) := (cell_of_row _ _ _ _ _ _ hW).trans rfl); go_simp⟩) hS ?_
        simp only [List.getElem_toArray, List.getElem_cons_zero, List.getElem_cons_succ, Act.put, List.setIfInBounds_toArray, List.set_cons_zero, List.set_cons_succ]
        refine wpAnyH_take (i := 2) (v := .string S) rfl (by kernel_rfl) (by kernel_rfl) (by kernel_rfl) (fun _ _ _ h => h) (Or.inl ⟨by simp [Region.wanted], fun W _ => by go_simp⟩) hS ?_
        simp only [List.getElem_toArray, List.getElem_cons_zero, List.getElem_cons_succ, Act.put, List.setIfInBounds_toArray, List.set_cons_zero, List.set_cons_succ]
        refine wpAnyH_take (i := 3) (v := .pointer (some ⟨w.heap.size + 1, 0, none⟩)) rfl (by kernel_rfl) (by kernel_rfl) (by kernel_rfl) (fun _ _ _ h => h) (Or.inl ⟨by simp [Region.wanted], fun W _ => by go_simp⟩) hS ?_
        simp only [List.getElem_toArray, List.getElem_cons_zero, List.getElem_cons_succ, Act.put, List.setIfInBounds_toArray, List.set_cons_zero, List.set_cons_succ]
        refine wpAnyH_take (i := 4) (v := .pointer (some ⟨g8, 0, none⟩)) rfl (by kernel_rfl) (by kernel_rfl) (by kernel_rfl) (fun _ _ _ h => h) (Or.inl ⟨by simp [Region.wanted], fun W _ => by go_simp⟩) hS ?_
        simp only [List.getElem_toArray, List.getElem_cons_zero, List.getElem_cons_succ, Act.put, List.setIfInBounds_toArray, List.set_cons_zero, List.set_cons_succ]
        refine wpAnyH_take (i := 5) (v := .int .i64 (mm : Int)) rfl (by kernel_rfl) (by kernel_rfl) (by kernel_rfl) (fun _ _ _ h => h) (Or.inl ⟨by simp [Region.wanted], fun W hW => by (have c0 : W.cell? ⟨g8, 0, none⟩ = some (.int .i64 (mm : Int)) := (cell_of_row _ _ _ _ _ _ hW).trans rfl); go_simp⟩) hS ?_
        simp only [List.getElem_toArray, List.getElem_cons_zero, List.getElem_cons_succ, Act.put, List.setIfInBounds_toArray, List.set_cons_zero, List.set_cons_succ]
        refine wpAnyH_ready (rs := [6]) (by kernel_rfl) (by simp) ?_
        refine AllReadyH.cons rfl (fun K1 hK1 => ?_) AllReadyH.nil
        refine wanted_go rfl ?_
        simp only [List.getElem_toArray, List.getElem_cons_zero, List.getElem_cons_succ]
        go_wp2_with (go_at_call 24; refine (HNS.out _ HP8.out.rd).mono ?_; rintro e w10 ⟨⟨a2, c2, rfl, hI, hfr⟩, hr, hg⟩; obtain ⟨v9, hv9⟩ := HP8.out.bk; have HSP := Lib.hid (SepA.fresh hv9 hfr); have HV := Lib.hid (hv9.grown hg HP8.out.rd rfl); have HI := Lib.hid hI; have HPX := Lib.hid (HP8.out.read hr hg); have HKX := Lib.hid ((KeepM.grown hg HP8.out.rd rfl).same _ _ hS rfl); clear hI hfr hr hg hv9)
        refine hK1.out _ _ (HKX.out) (fun hS1 => ?_)
        refine wpAnyH_ready (rs := [7]) (by kernel_rfl) (by simp) ?_
        refine AllReadyH.cons rfl (fun K2 hK2 => ?_) AllReadyH.nil
        refine wanted_go rfl ?_
        simp only [List.getElem_toArray, List.getElem_cons_zero, List.getElem_cons_succ]
        go_wp2_with (with_reducible refine (HTK.out _ v9 a2 c2 HPX.out.km HPX.out.lo.size HV.out HI.out HSP.out).mono ?_; rintro e w11 ⟨rfl, hb11, hk11, hl11⟩; have HPZ := Lib.hid (HPX.out.took hb11 hk11 hl11); have HKZ := Lib.hid (hk11.same _ _ HKX.out rfl); clear hb11 hk11 hl11)
        refine hK2.out _ _ (HKZ.out) (fun hS2 => ?_)
        refine wpAnyH_take (i := 8) (v := .bool false) rfl (by kernel_rfl) (by kernel_rfl) (by kernel_rfl) (fun _ _ _ h => h) (Or.inl ⟨by simp [Region.wanted], fun W _ => by go_simp⟩) hS2 ?_
        simp only [List.getElem_toArray, List.getElem_cons_zero, List.getElem_cons_succ, Act.put, List.setIfInBounds_toArray, List.set_cons_zero, List.set_cons_succ]
        refine wpAnyH_take (i := 9) (v := undef) rfl (by kernel_rfl) (by kernel_rfl) (by kernel_rfl) (fun _ _ _ h => h) (Or.inr ⟨by rfl, rfl⟩) hS2 ?_
        simp only [List.getElem_toArray, List.getElem_cons_zero, List.getElem_cons_succ, Act.put, List.setIfInBounds_toArray, List.set_cons_zero, List.set_cons_succ]
        refine wpAnyH_take (i := 10) (v := .bool false) rfl (by kernel_rfl) (by kernel_rfl) (by kernel_rfl) (fun _ _ _ h => h) (Or.inl ⟨by simp [Region.wanted], fun W _ => by go_simp⟩) hS2 ?_
        simp only [List.getElem_toArray, List.getElem_cons_zero, List.getElem_cons_succ, Act.put, List.setIfInBounds_toArray, List.set_cons_zero, List.set_cons_succ]
        refine wpAnyH_take (i := 11) (v := .bool false) rfl (by kernel_rfl) (by kernel_rfl) (by kernel_rfl) (fun _ _ _ h => h) (Or.inl ⟨by simp [Region.wanted], fun W _ => by go_simp⟩) hS2 ?_
        simp only [List.getElem_toArray, List.getElem_cons_zero, List.getElem_cons_succ, Act.put, List.setIfInBounds_toArray, List.set_cons_zero, List.set_cons_succ]
        refine wpAnyH_done (by kernel_rfl) ?_ _
        go_wp2
        go_roundw
        case rel => exact ⟨q + 1, rest', flt', false, _, by go_num, hlt, rfl, HGN.out, HSN.out, HPZ.out⟩
        case measure => simp [intOf]; omega
    · obtain rfl : q = 15 := by omega
      have hdn := HDN.out rest flt ev b HGI.out
      have HZW := Lib.hid (show ∀ W, Below W1.heap.size W1 W → W.heap[w.heap.size]? = some (.cells #[.slice none 0 0, .slice none 0 0, .slice none 0 0, .slice none 0 0, .int .i64 0] 27 (0, 0)) from fun W h => (h.block _ (by have := HS1.out; omega)).trans HZ1.out)
      have HIZ := Lib.hid (show (Tryz.prog.info? 27).map (·.size) = some (#[.slice none 0 0, .slice none 0 0, .slice none 0 0, .slice none 0 0, .int .i64 0] : Array Value).size from info27)
      have HLF := Lib.hid (left23 _ rest flt wr HP.out.rd)
      have HFL := Lib.hid (fun W (h : RdX W (w.heap.size + 1) rest flt) => fail30 (w.heap.size + 1) rest flt 3 W h)
      have hzr : rest.data.toList = [] ↔ rest.size = 0 := by rw [Lib.size_eq]; exact List.length_eq_zero_iff.symm
      obtain ⟨z, hz⟩ : ∃ z, rest.size = z := ⟨_, rfl⟩
      rw [hz] at HLF hzr
      have HOK := Lib.hid HGI.out.ok
      obtain ⟨v, hv⟩ := HP.out.bk
      have HV := Lib.hid hv
      have HI := Lib.hid (show (Tryz.prog.info? 27).map (·.size) = some (cellsB v b).size from info27)
      have HMY := Lib.hid (pmay9 v b wr (hv.isIn HGI.out.ok) (HGI.out.ok.monoS (by omega)))
      clear hv hz hlt HDN HGI HSF HF HCS HLN hq
      by_cases hbad : rest.data.toList ≠ [] ∨ ev = false ∨ mayT b = false
      · -- told as wrong
        have hRF : ∃ fe, orZ flt 3 flt = fe ∧ (fe != 0) = true ∧ R = (zeroB, fe) := by
          by_cases hf : flt = 0
          · subst hf
            rw [if_neg (by simp), if_pos hbad] at hdn
            exact ⟨3, rfl, rfl, hdn⟩
          · rw [if_pos hf] at hdn
            exact ⟨flt, orZ_no _ _ _ hf, by simpa using hf, hdn⟩
        obtain ⟨fe, hfe, hne, hRR⟩ := hRF
        have HRR := Lib.hid hRR
        rw [hfe] at HFL
        have HFT := Lib.hid (fun W (h : RdX W (w.heap.size + 1) rest fe) => fault22 (w.heap.size + 1) rest fe W h)
        clear hdn hRR hfe
        by_cases hz0 : z = 0
        · subst hz0
          have hrest := hzr.2 rfl
          cases hev : ev with
          | false =>
            clear hzr hbad hrest HMY
            go_wp2_with (first
              | ((with_reducible refine atStore (ty := 27) (x := .tmp 2) (y := .tmp 52) rfl ?_); refine wpList_store_row rfl 27 (.tmp 2) (.tmp 52) rfl w.heap.size #[.slice none 0 0, .slice none 0 0, .slice none 0 0, .slice none 0 0, .int .i64 0] rfl rfl 27 #[.slice none 0 0, .slice none 0 0, .slice none 0 0, .slice none 0 0, .int .i64 0] (HZW.out _ HB3.out.lo) info27 rfl (by simp [Value.oneCell']) ?_)
              | (go_at_call 27; refine (HFT.out _ HB3.out.rd).mono ?_; rintro e y4 ⟨rfl, rfl⟩)
              | (go_at_call 26; refine (HFL.out _ HP.out.rd).mono ?_; rintro e y3 ⟨rfl, hr3, hg3⟩; have HB3 := Lib.hid (HP.out.read hr3 hg3); clear hr3 hg3)
              | (go_at_call 25; refine HLF.out.mono ?_; rintro e y1 ⟨rfl, rfl⟩))
            refine ret_cell_tmp rfl rfl rfl rfl (setRow_heap _ _ _ _ _ _ (HZW.out _ HB3.out.lo)) Tryz.underlying27 rfl HIZ.out ?_
            exact get_zero_end HA.out HB3.out.lo HRR.out
          | true =>
            have hmy : mayT b = false := by
              rcases hbad with h | h | h
              · exact absurd hrest h
              · rw [hev] at h; cases h
              · exact h
            rw [hmy] at HMY
            clear hzr hbad hrest hmy
            go_wp2_with (first
              | ((with_reducible refine atStore (ty := 27) (x := .tmp 2) (y := .tmp 52) rfl ?_); refine wpList_store_row rfl 27 (.tmp 2) (.tmp 52) rfl w.heap.size #[.slice none 0 0, .slice none 0 0, .slice none 0 0, .slice none 0 0, .int .i64 0] rfl rfl 27 #[.slice none 0 0, .slice none 0 0, .slice none 0 0, .slice none 0 0, .int .i64 0] (HZW.out _ HB3.out.lo) info27 rfl (by simp [Value.oneCell']) ?_)
              | (go_at_call 27; refine (HFT.out _ HB3.out.rd).mono ?_; rintro e y4 ⟨rfl, rfl⟩)
              | (go_at_call 26; refine (HFL.out _ HB2.out.rd).mono ?_; rintro e y3 ⟨rfl, hr3, hg3⟩; have HB3 := Lib.hid (HB2.out.read hr3 hg3); clear hr3 hg3)
              | (go_at_call 14; refine HMY.out.mono ?_; rintro e y2 ⟨rfl, hb2⟩; have HB2 := Lib.hid (HP.out.below hb2); have HVB := Lib.hid (HV.out.below hb2); clear hb2)
              | ((with_reducible refine atLoad (ty := 27) (x := .tmp 5) rfl ?_); refine wpList_load_rowG (by rfl) 27 (.tmp 5) rfl gb rfl 27 (cellsB v b) (0, 0) _ HV.out.box Tryz.underlying27 rfl HI.out ?_)
              | (go_at_call 25; refine HLF.out.mono ?_; rintro e y1 ⟨rfl, rfl⟩))
            refine ret_cell_tmp rfl rfl rfl rfl (setRow_heap _ _ _ _ _ _ (HZW.out _ HB3.out.lo)) Tryz.underlying27 rfl HIZ.out ?_
            exact get_zero_end HA.out HB3.out.lo HRR.out
        · have hz1 : 0 < z := by omega
          clear hzr hbad hz0 HMY
          go_wp2_with (first
            | ((with_reducible refine atStore (ty := 27) (x := .tmp 2) (y := .tmp 52) rfl ?_); refine wpList_store_row rfl 27 (.tmp 2) (.tmp 52) rfl w.heap.size #[.slice none 0 0, .slice none 0 0, .slice none 0 0, .slice none 0 0, .int .i64 0] rfl rfl 27 #[.slice none 0 0, .slice none 0 0, .slice none 0 0, .slice none 0 0, .int .i64 0] (HZW.out _ HB3.out.lo) info27 rfl (by simp [Value.oneCell']) ?_)
            | (go_at_call 27; refine (HFT.out _ HB3.out.rd).mono ?_; rintro e y4 ⟨rfl, rfl⟩)
            | (go_at_call 26; refine (HFL.out _ HP.out.rd).mono ?_; rintro e y3 ⟨rfl, hr3, hg3⟩; have HB3 := Lib.hid (HP.out.read hr3 hg3); clear hr3 hg3)
            | (go_at_call 25; refine HLF.out.mono ?_; rintro e y1 ⟨rfl, rfl⟩))
          refine ret_cell_tmp rfl rfl rfl rfl (setRow_heap _ _ _ _ _ _ (HZW.out _ HB3.out.lo)) Tryz.underlying27 rfl HIZ.out ?_
          exact get_zero_end HA.out HB3.out.lo HRR.out
      · have hrest : rest.data.toList = [] := by
          by_cases h : rest.data.toList = []
          · exact h
          · exact absurd (.inl h) hbad
        have hev : ev = true := by
          cases h : ev with
          | true => rfl
          | false => exact absurd (.inr (.inl h)) hbad
        have hmy : mayT b = true := by
          cases h : mayT b with
          | true => rfl
          | false => exact absurd (.inr (.inr h)) hbad
        obtain rfl := hzr.1 hrest
        rw [hmy] at HMY
        rw [if_neg hbad] at hdn
        subst hev
        have HFT := Lib.hid (fun W (h : RdX W (w.heap.size + 1) rest flt) => fault22 (w.heap.size + 1) rest flt W h)
        clear hzr hbad hrest hmy HFL
        by_cases hf : flt = 0
        · subst hf
          rw [if_neg (by simp)] at hdn
          have HRR := Lib.hid hdn
          clear hdn
          go_wp2_with (first
            | ((with_reducible refine atStore (ty := 27) (x := .tmp 2) (y := .tmp 54) rfl ?_); refine wpList_store_row rfl 27 (.tmp 2) (.tmp 54) rfl w.heap.size (cellsB v b) rfl rfl 27 #[.slice none 0 0, .slice none 0 0, .slice none 0 0, .slice none 0 0, .int .i64 0] (HZW.out _ HB2.out.lo) info27 rfl (by simp [cellsB, Value.oneCell']) ?_)
            | ((with_reducible refine atLoad (ty := 27) (x := .tmp 5) rfl ?_); refine wpList_load_row rfl 27 (.tmp 5) rfl gb rfl 27 (cellsB v b) (0, 0) _ HVB.out.box Tryz.underlying27 rfl HI.out ?_)
            | (go_at_call 27; refine (HFT.out _ HB2.out.rd).mono ?_; rintro e y4 ⟨rfl, rfl⟩)
            | (go_at_call 14; refine HMY.out.mono ?_; rintro e y2 ⟨rfl, hb2⟩; have HB2 := Lib.hid (HP.out.below hb2); have HVB := Lib.hid (HV.out.below hb2); clear hb2)
            | ((with_reducible refine atLoad (ty := 27) (x := .tmp 5) rfl ?_); refine wpList_load_rowG (by rfl) 27 (.tmp 5) rfl gb rfl 27 (cellsB v b) (0, 0) _ HV.out.box Tryz.underlying27 rfl HI.out ?_)
            | (go_at_call 25; refine HLF.out.mono ?_; rintro e y1 ⟨rfl, rfl⟩))
          refine ret_cell_tmp (v := .int .i64 0) rfl rfl rfl rfl (setRow_heap _ _ _ _ _ _ (HZW.out _ HB2.out.lo)) Tryz.underlying27 rfl HI.out ?_
          exact get_book_end HS1.out HA.out HB2.out.lo HVB.out HOK.out HRR.out
        · rw [if_pos hf] at hdn
          have HRR := Lib.hid hdn
          have hne : (flt != 0) = true := by simpa using hf
          clear hdn hf
          go_wp2_with (first
            | ((with_reducible refine atStore (ty := 27) (x := .tmp 2) (y := .tmp 52) rfl ?_); refine wpList_store_row rfl 27 (.tmp 2) (.tmp 52) rfl w.heap.size #[.slice none 0 0, .slice none 0 0, .slice none 0 0, .slice none 0 0, .int .i64 0] rfl rfl 27 #[.slice none 0 0, .slice none 0 0, .slice none 0 0, .slice none 0 0, .int .i64 0] (HZW.out _ HB2.out.lo) info27 rfl (by simp [Value.oneCell']) ?_)
            | (go_at_call 27; refine (HFT.out _ HB2.out.rd).mono ?_; rintro e y4 ⟨rfl, rfl⟩)
            | (go_at_call 14; refine HMY.out.mono ?_; rintro e y2 ⟨rfl, hb2⟩; have HB2 := Lib.hid (HP.out.below hb2); have HVB := Lib.hid (HV.out.below hb2); clear hb2)
            | ((with_reducible refine atLoad (ty := 27) (x := .tmp 5) rfl ?_); refine wpList_load_rowG (by rfl) 27 (.tmp 5) rfl gb rfl 27 (cellsB v b) (0, 0) _ HV.out.box Tryz.underlying27 rfl HI.out ?_)
            | (go_at_call 25; refine HLF.out.mono ?_; rintro e y1 ⟨rfl, rfl⟩))
          refine ret_cell_tmp rfl rfl rfl rfl (setRow_heap _ _ _ _ _ _ (HZW.out _ HB2.out.lo)) Tryz.underlying27 rfl HIZ.out ?_
          exact get_zero_end HA.out HB2.out.lo HRR.out
end Go.Proofs.YtnhljfhpfpfniaaGreat

namespace Go.Proofs.YtnhljfhpfpfniaaGreat
open Go.RowKit Base Base2

theorem snapC : SnapC (fun _ => True) where
  keep := fun _ _ _ _ => trivial
  put := fun v b W _ hb hk => putS8 v b W hb hk
  get := fun s W _ hs => getS10 s W hs
end Go.Proofs.YtnhljfhpfpfniaaGreat
