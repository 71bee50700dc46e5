/- The program's Diff: the contract. -/
import Derived.Test.YtellifcjamedkaaGreatDpBeside
import Derived.Test.YtellifcjamedkaaGreatMDp
import Derived.Test.YtellifcjamedkaaGreatDpSmall
import Derived.Test.YtellifcjamedkaaGreatMQm
namespace Go.Proofs.YtellifcjamedkaaGreat
open Go.RowKit Go.Shelf Base Base2
open List renaming getElem_toArray → lgT, getElem_cons_zero → lgZ, getElem_cons_succ → lgS, setIfInBounds_toArray → lsT, set_cons_zero → lsZ, set_cons_succ → lsS
attribute [local go_sem] Oper.semAt_some
/-- A load whose run is known. -/
theorem loadE {P : Program} {ops : Array Oper} {rest : List Oper} {o : Oper} {a : Act} {w : World} {Q : Exit → Act → World → Prop} (hw : Region.wanted o (yielded ops a.tmps) = true) (ty : TypeId) (x : Operand) (ho : o.op = .load ty x) (p v : Value) (hx : a.eval x = p) (hl : (Instr.loadAt ty p).run P w = .ok v w) (h : wpList P ops Q rest (a.put o.dst v) w) : wpList P ops Q (o :: rest) a w :=
  BigFrame.wpList_want hw fun _ hK => by
    unfold Oper.wp execOp
    simp only [ho, hx, Sem.run_bind, Sem.run_pure, hl, Result.andThen_ok]
    exact hK _ _ h
theorem loadEIn {F : Fence} {n : Nat} {P : Program} {ops : Array Oper} {rest : List Oper} {o : Oper} {a : Act} {w : World} {Q : Exit → Act → World → Prop} (hw : Region.wanted o (yielded ops a.tmps) = true) (hab : ∀ f, o.about P w a.eval = some f → F.fn f) (ty : TypeId) (x : Operand) (ho : o.op = .load ty x) (p v : Value) (hx : a.eval x = p) (hl : (Instr.loadAt ty p).run P w = .ok v w) (h : wpListIn F n P ops Q rest (a.put o.dst v) w) : wpListIn F n P ops Q (o :: rest) a w := by
  rw [wpListIn, if_pos hw]
  unfold Oper.wpIn
  refine ⟨hab, ?_⟩
  rw [Oper.semAt_eq _ _ _ (fun c e => by rw [ho] at e; cases e)]
  unfold execOp
  simp only [ho, hx, Sem.run_bind, Sem.run_pure, hl, Result.andThen_ok]
  exact h
theorem atLoadIn {F : Fence} {n : Nat} {P : Program} {ops : Array Oper} {rest : List Oper} {o : Oper} {a : Act} {w : World} {Q : Exit → Act → World → Prop} {ty : TypeId} {x : Operand} (_ : o.op = .load ty x) (h : wpListIn F n P ops Q (o :: rest) a w) : wpListIn F n P ops Q (o :: rest) a w := h
theorem wpIn_only {F : Fence} {n : Nat} {P : Program} {c : Code} {K : Act → World → Prop} {Q : Exit → Act → World → Prop} {a : Act} {w : World} (h : c.wpIn F n P (Exit.then K (fun _ _ _ => False)) a w) : c.wpIn F n P (Exit.then K Q) a w :=
  wpIn_mono h fun e _ _ he => by
    cases e with
    | normal => exact he
    | _ => exact he.elim
theorem besideF (x y : Value) (a : Option Addr) (n c gf : Nat) (lb : Array Value) (w : World) (hx : x = .func (.func gf) #[] lb) (hy : y = .slice a n c) : Calls Tryz.prog 36 #[x, y] w fun e w' => e = .returned (.func (.func 65) #[] #[.pointer (some ⟨w.heap.size + 1, 0, none⟩), .pointer (some ⟨w.heap.size, 0, none⟩)]) ∧ w' = (w.alloc (.cells #[x] 61)).alloc (.cells #[y] 86) := by
  subst hx hy
  go_enter Tryz.func36, Tryz.ntmps36
  go_wp2
  go_ret
  exact ⟨rfl, rfl⟩
theorem rowArr_form (z : Option RowV) : rowArr z = (z.getD zeroRV).cells.toArray := by cases z <;> rfl
theorem okD {W : World} {z : Option RowV} (h : ∀ x, z = some x → RowOkW W x) : RowOkW W (z.getD zeroRV) := by
  cases z with
  | none => exact .inl rfl
  | some x => exact h x rfl
/-- What Diff's rounds turn. -/
def RDiff (B : Nat) (k : Nat) (o : Obj) : Prop := B ≤ k ∧ ((∃ cs, o = .cells cs 35 (0, 0)) ∨ ∃ cs, o = .cells cs 59 (0, 0))
theorem RDiff.no (B : Nat) : NoT [58, 58, 2, 117, 118, 86] (RDiff B) := fun k cs t fz h => by
  rcases h with ⟨_, ⟨cs', e⟩ | ⟨cs', e⟩⟩ <;> cases e <;> decide
theorem RDiff.cells {B k : Nat} {o : Obj} (h : RDiff B k o) : o.isCells = true := by rcases h with ⟨_, ⟨cs, rfl⟩ | ⟨cs, rfl⟩⟩ <;> rfl
theorem RDiff.book (B g : Nat) (cs : Array Value) : ¬ RDiff B g (.cells cs 27 (0, 0)) := fun h => by
  rcases h with ⟨_, ⟨cs', e⟩ | ⟨cs', e⟩⟩ <;> cases e
/-- What Diff answers of two books that may be. -/
def DiffOut (w : World) (D : List ChT) (e : Ending) (w' : World) : Prop := ∃ vo o, e = .returned (.tuple #[vo, .int .i64 0]) ∧ CpS w.heap.size w o vo w' ∧ o.map ChV.c = D
theorem flatW_get : ∀ (l : List RowV) (i : Nat) (x : RowV), l[i]? = some x → ∀ (j : Nat) (u : Value), x.cells[j]? = some u → (flatW l)[i * 4 + j]? = some u
  | [], i, x, h => by simp at h
  | y :: l, 0, x, h => fun j u hu => by
    obtain rfl : y = x := by simpa using h
    have e : flatW (y :: l) = y.cells ++ flatW l := rfl
    have hj := (List.getElem?_eq_some_iff.1 hu).1
    rw [e, Nat.zero_mul, Nat.zero_add, List.getElem?_append_left hj]; exact hu
  | y :: l, i + 1, x, h => fun j u hu => by
    have ih := flatW_get l i x (by simpa using h) j u hu
    have e : flatW (y :: l) = y.cells ++ flatW l := rfl
    have hl : y.cells.length = 4 := rfl
    rw [e, List.getElem?_append_right (by omega), hl, show (i + 1) * 4 + j - 4 = i * 4 + j by omega]
    exact ih
theorem rest_of {B : Nat} {W0 W : World} {o : List RowV} {v : Value} (h : RpS B W0 o v W) : RestRow W v o := by
  refine ⟨?_, h.val⟩
  have hr := h.row
  rcases hr.2 with ⟨rfl, hn⟩ | ⟨g, cap, cur, rfl, _, hg, hc, _, hs, ht⟩
  · have e : o = [] := List.length_eq_zero_iff.1 hn
    subst e
    exact ⟨none, 0, rfl, .inl rfl, Nat.le_refl _⟩
  · refine ⟨_, cap, rfl, .inr ⟨g, 0, cur, rfl, hg, fun i xs hi j u hu => ?_⟩, hc⟩
    rw [List.getElem?_map] at hi
    cases hx : o[i]? with
    | none => rw [hx] at hi; cases hi
    | some x =>
      rw [hx] at hi
      cases hi
      have h1 := flatW_get o i x hx j u hu
      rw [← ht] at h1
      have h2 := (List.getElem?_eq_some_iff.1 h1).1
      rw [List.length_take] at h2
      rw [List.getElem?_take_of_lt (by omega)] at h1
      rw [Nat.zero_add]
      simpa using h1
theorem below_al {B : Nat} {w W W' : World} {o : Obj} (h : Below B w W) (e : W' = W.alloc o) (hB : B ≤ W.heap.size) : Below B w W' := by subst e; exact h.alloc hB o
set_option maxRecDepth 100000 in
set_option maxHeartbeats 16000000 in
theorem diff_yes (v u : Slots) (a b : BookT) (w : World) (ha : BookIn w v a) (hb : BookIn w u b) (ka : BookOk 2000 a) (kb : BookOk 2000 b) (h1 : mayT a = true) (h2 : mayT b = true) :
    Calls Tryz.prog 17 #[.agg (cellsB v a), .agg (cellsB u b)] w (DiffOut w (diffT a b)) := by
  refine (callsIn_wide (n := 10)).1 ?_
  obtain ⟨i0, hi0, hz0, hz1, hz2⟩ := info_parts infoCp
  have HMA := Lib.hid (mayB h1 ka)
  have HMB := Lib.hid (mayB h2 kb)
  obtain ⟨W0, hW0⟩ : ∃ x, ((w.alloc (.cells (cellsB v a) 27)).alloc (.cells (cellsB u b) 27)) = x := ⟨_, rfl⟩
  have hA : Below w.heap.size w W0 := by rw [← hW0]; exact ((Below.refl _ w).alloc (Nat.le_refl _) _).alloc (by simp) _
  have hg1 : BoxB W0 w.heap.size v a := by rw [← hW0]; exact two_new.1
  have hg2 : BoxB W0 (w.heap.size + 1) u b := by rw [← hW0]; exact two_new.2
  have HLO := Lib.hid (fun W (h : Below W0.heap.size W0 W) => show Below w.heap.size w W from hA.trans (h.mono hA.size))
  have HL1 := Lib.hid (fun W (h : Below W0.heap.size W0 W) => load_book (hg1.below h (lt_of_blk hg1)))
  have HL2 := Lib.hid (fun W (h : Below W0.heap.size W0 W) => load_book (hg2.below h (lt_of_blk hg2)))
  have HM1 := Lib.hid (pmay9 v a W0 (ha.below hA) ka)
  have HM2 := Lib.hid (fun W (h : Below W0.heap.size W0 W) => pmay9 u b W (hb.below (HLO.out W h)) kb)
  rw [h1] at HM1
  rw [h2] at HM2
  have HR1 := Lib.hid (fun W => rowsF v a W)
  have HR2 := Lib.hid (fun W => rowsF u b W)
  have HCO := Lib.hid (fun (W : World) (h : Below w.heap.size w W) (g : Nat) (hg : BoxB W g u b) => collect 49 #[.pointer (some ⟨g, 0, none⟩)] (enters_of Tryz.func49 (by kernel_rfl) rfl) (rowsD b) (rowsD_len kb).2 W (rows_seq (RCol W.heap.size) w u b hb kb g W h hg (fun k o h2 => Nat.le_trans h.size h2.1) (fun h => by rcases h with ⟨_, ⟨cs, fz, e⟩ | ⟨cs, fz, e⟩⟩ <;> cases e)))
  have HIN := Lib.hid (fun (w0 : World) (h : Below w.heap.size w w0) (g : Nat) (hg : BoxB w0 g v a) (hgw : w.heap.size ≤ g) => show ∀ (l p1 : Nat) (W : World), w0.heap.size ≤ l → w0.heap.size ≤ p1 → Below w0.heap.size w0 W → SeqK Tryz.prog 49 #[.pointer (some ⟨g, 0, none⟩)] encRv (fun _ => False) (RRow l p1 (RDiff w.heap.size)) (TlRow (rowsD a)) (fun xs => xs.map RowV.r = rowsD a) W from fun l p1 W hl hp hW => rows_seq (RRow l p1 (RDiff w.heap.size)) w v a ha ka g W (h.trans (hW.mono h.size)) (hg.below hW (lt_of_blk hg)) (fun k o h2 => by
    have := h.size
    rcases h2 with (⟨rfl, _⟩ | h2) | ⟨rfl, _⟩
    · omega
    · exact h2.1
    · omega) (fun h2 => by
    rcases h2 with (⟨_, h2⟩ | h2) | ⟨_, cs, h2⟩
    · cases h2
    · exact RDiff.book _ _ _ h2
    · cases h2))
  have HKA := Lib.hid (rowsD_len ka)
  have HKB := Lib.hid (rowsD_len kb)
  clear ha hb ka kb hg1 hg2 hA h1 h2
  refine callsIn_of_wp_marks Tryz.func17 rfl trivial ?_ rfl
  simp only [Tryz.ntmps17, List.size_toArray, List.length_cons, List.length_nil, Nat.reduceAdd, Nat.reduceSub, Array.replicate_succ, Array.replicate_zero, List.push_toArray, List.append_toArray, List.nil_append, List.cons_append]
  generalize hCA : cellsB v a = CA at *
  generalize hCB : cellsB u b = CB at *
  have HCAE := Lib.hid hCA
  have HCBE := Lib.hid hCB
  clear hCA hCB
  gi_wp2_with (first
    | ((with_reducible refine atLoadIn (ty := 27) (x := .tmp 2) rfl ?_); refine loadEIn (wanted_noneD rfl) (fun _ _ => trivial) 27 (.tmp 2) rfl _ (.agg CA) rfl (HL1.out _ (Below.refl _ _)) ?_)
    | ((with_reducible refine atLoadIn (ty := 27) (x := .tmp 3) rfl ?_); refine loadEIn (by rfl) (fun _ _ => trivial) 27 (.tmp 3) rfl _ (.agg CB) rfl (HL2.out _ HB1.out) ?_)
    | (refine ⟨trivial, ?_⟩; gi_at_call 18; refine (callsIn_wide.2 (HM2.out _ HB1.out)).mono ?_; rintro e w2 ⟨rfl, hb2⟩; have HB2 := Lib.hid (HB1.out.trans (hb2.mono HB1.out.size)); clear hb2)
    | (refine ⟨trivial, ?_⟩; gi_at_call 18; refine (callsIn_wide.2 HM1.out).mono ?_; rintro e w1 ⟨rfl, hb1⟩; have HB1 := Lib.hid hb1; clear hb1))
  obtain ⟨w3, hw3⟩ : ∃ x, w2.alloc (.cells #[.slice none 0 0] 35) = x := ⟨_, rfl⟩
  have HB3 := Lib.hid (show Below W0.heap.size W0 w3 by rw [← hw3]; exact HB2.out.alloc HB2.out.size _)
  have HX3 := Lib.hid (show Boxed w3 w2.heap.size 35 (.slice none 0 0) by rw [← hw3]; exact heap_alloc_new w2 _)
  have HZ3 := Lib.hid (show w2.heap.size + 1 = w3.heap.size by rw [← hw3]; simp)
  rw [hw3]
  clear hw3
  refine wpIn_only ?_
  refine wpIn_wide.2 ?_
  refine wp_region_held_drew (S := fun W => Below w3.heap.size w3 W) (by kernel_rfl) ((Below.refl _ _).drew) (fun hS => ?_)
  refine wpAnyH_take (i := 0) (v := .agg CA) rfl (by kernel_rfl) (by kernel_rfl) (by kernel_rfl) (fun _ _ _ h => h) (yieldsIf_load rfl 27 (.tmp 2) rfl (.pointer (some ⟨w.heap.size, 0, none⟩)) _ rfl (fun W hW => HL1.out _ (HB3.out.trans (hW.mono HB3.out.size)))) hS ?_
  simp only [lgT, lgZ, Act.put, lsT, lsZ, lsS]
  refine wpAnyH_take (i := 2) (v := .agg CB) rfl (by kernel_rfl) (by kernel_rfl) (by kernel_rfl) (fun _ _ _ h => h) (yieldsIf_load rfl 27 (.tmp 3) rfl (.pointer (some ⟨w.heap.size + 1, 0, none⟩)) _ rfl (fun W hW => HL2.out _ (HB3.out.trans (hW.mono HB3.out.size)))) hS ?_
  simp only [lgT, lgZ, lgS, Act.put, lsT, lsZ, lsS]
  refine wpAnyH_ready (rs := [1]) (by kernel_rfl) (by simp) ?_
  refine AllReadyH.cons rfl (fun K1 hK1 => ?_) AllReadyH.nil
  refine wanted_go rfl ?_
  simp only [lgT, lgZ, lgS]
  go_wp2_with (go_at_call 21; refine (HR1.out _).mono ?_; rintro e w4 ⟨rfl, hw4⟩; have HW4 := Lib.hid hw4; clear hw4)
  refine hK1.out _ _ (below_al hS HW4.out (hS).size) (fun hS1 => ?_)
  refine wpAnyH_ready (rs := [3]) (by kernel_rfl) (by simp) ?_
  refine AllReadyH.cons rfl (fun K2 hK2 => ?_) AllReadyH.nil
  refine wanted_go rfl ?_
  simp only [lgT, lgZ, lgS]
  go_wp2_with (go_at_call 21; refine (HR2.out _).mono ?_; rintro e w5 ⟨rfl, hw5⟩; have HW5 := Lib.hid hw5; clear hw5)
  refine hK2.out _ _ (below_al hS1 HW5.out (hS1).size) (fun hS2 => ?_)
  refine wpAnyH_ready (rs := [4]) (by kernel_rfl) (by simp) ?_
  refine AllReadyH.cons rfl (fun K3 hK3 => ?_) AllReadyH.nil
  refine wanted_go rfl ?_
  simp only [lgT, lgZ, lgS]
  go_wp2_with (go_at_call 37; refine (HCO.out w5 (HLO.out _ (HB3.out.trans (hS2.mono HB3.out.size))) _ (by unfold BoxB; rw [HCBE.out, HW5.out]; exact heap_alloc_new w4 _)).mono ?_; rintro e w6 ⟨vo, oB, rfl, hr6, hm6⟩; obtain ⟨oa, oc, hvo, _⟩ := (rest_of hr6).sl; subst hvo; have HR6 := Lib.hid hr6; have HM6 := Lib.hid hm6; clear hr6 hm6)
  refine hK3.out _ _ ((hS2).trans (HR6.out.lo.mono (hS2).size)) (fun hS3 => ?_)
  refine wpAnyH_ready (rs := [5]) (by kernel_rfl) (by simp) ?_
  refine AllReadyH.cons rfl (fun K4 hK4 => ?_) AllReadyH.nil
  refine wanted_go rfl ?_
  simp only [lgT, lgZ, lgS]
  go_wp2_with (go_at_call 36; refine (besideF _ _ _ _ _ _ _ _ rfl rfl).mono ?_; rintro e w7 ⟨rfl, hw7⟩; have HW7 := Lib.hid hw7; clear hw7)
  refine hK4.out _ _ (below_al (below_al hS3 (by rfl) (hS3).size) HW7.out (by have := (hS3).size; simp; omega)) (fun hS4 => ?_)
  refine wpAnyH_done (by kernel_rfl) ?_ _
  gi_wp2
  have b45 : Below w4.heap.size w4 w5 := by rw [HW5.out]; exact (Below.refl _ _).alloc (Nat.le_refl _) _
  have b67 : Below w6.heap.size w6 w7 := by rw [HW7.out]; exact ((Below.refl _ _).alloc (Nat.le_refl _) _).alloc (by simp) _
  have b47 := bt2 (bt2 b45 HR6.out.lo) b67
  have hga : BoxB w7 w3.heap.size v a := by
    have h : w4.heap[w3.heap.size]? = some (.cells CA 27 (0, 0)) := by rw [HW4.out]; exact heap_alloc_new w3.drew _
    unfold BoxB
    rw [HCAE.out]
    exact (b47.block _ (lt_of_blk h)).trans h
  have hyb : Boxed w7 (w6.heap.size + 1) 86 (.slice oa oB.length oc) := by rw [HW7.out]; exact two_new.2
  have hxb : Boxed w7 w6.heap.size 61 (.func (.func 49) #[] #[.pointer (some ⟨w3.heap.size, 0, none⟩)]) := by rw [HW7.out]; exact two_new.1
  have h37 : Below W0.heap.size W0 w7 := HB3.out.trans (hS4.mono HB3.out.size)
  have hw7 : Below w.heap.size w w7 := HLO.out w7 h37
  have hsz3 := HB3.out.size
  have hww0 : w.heap.size ≤ W0.heap.size := by rw [← hW0]; simp; omega
  have hoB : oB.length ≤ 8001 := by have := congrArg List.length HM6.out; rw [List.length_map] at this; rw [this]; exact HKB.out.2
  have hseq := beside_seqRow (RDiff w.heap.size) (RDiff.no _) (rowsD a) oB (.slice oa oB.length oc) 49 #[.pointer (some ⟨w3.heap.size, 0, none⟩)] (enters_of Tryz.func49 (by kernel_rfl) rfl) (w6.heap.size + 1) w6.heap.size w7 hyb hxb ((rest_of HR6.out).turn (NoT.false _) (TurnsK.below b67)) (by omega) (rise_keys HMB.out HM6.out) (HIN.out w7 hw7 w3.heap.size hga (by omega)) (fun _ _ h => h.cells)
  rw [HM6.out] at hseq
  have HX7 := Lib.hid ((hS4.block _ HX3.out.lt).trans HX3.out)
  have HW := Lib.hid hw7
  have hw27 : w2.heap.size + 1 ≤ w7.heap.size := by have := HZ3.out; have := hS4.size; omega
  have hw2z : w.heap.size ≤ w2.heap.size := by have := HB2.out.size; omega
  have HSQ := Lib.hid hseq
  clear b45 b67 b47 hga hyb hxb h37 hw7 hsz3 hS hS1 hS2 hS3 hS4 hseq HIN HCO HR1 HR2 HL1 HL2 HW4 HW5 HW7 HR6 HB1 HB2 HB3 HX3 HZ3 HM1 HM2
  have hNT : ∀ ts, 86 ∉ ts → NoT ts (fun k o => w7.heap.size ≤ k ∧ (KRow o ∨ o.isCells = false)) := fun ts hm k cs t fz h => by
    rcases h with ⟨_, (h | ⟨cs', h⟩) | h⟩
    · cases h
    · cases h; exact hm
    · cases h
  refine range_kinds (gf := 65) (lb := #[.pointer (some ⟨w6.heap.size + 1, 0, none⟩), .pointer (some ⟨w6.heap.size, 0, none⟩)]) (w := w7) rfl (enters_of Tryz.func65 (by kernel_rfl) rfl) HSQ.out (fun _ _ h => .inl h.cells) (Below.refl _ _) (fun _ => rfl)
    (fun pre W => ∃ vl o, Boxed W w2.heap.size 35 vl ∧ CpS w.heap.size w o vl W ∧ o.map ChV.c = (pre.map plainRow).flatMap chOf ∧ o.length ≤ pre.length ∧ w7.heap.size ≤ W.heap.size) (fun _ _ _ => False) ?bi ?bx ?h0
    (fun pre z a' W => (∃ vl o, Boxed W w2.heap.size 35 vl ∧ CpS w.heap.size w o vl W ∧ o.map ChV.c = (pre.map plainRow).flatMap chOf ∧ o.length ≤ pre.length ∧ w7.heap.size ≤ W.heap.size) ∧ TlPRow (besideS keyT keyT (rowsD a) (rowsD b)) pre z W ∧ ∃ b1 b2, W.heap[b1]? = some (.cells (rowArr z.1) 58 (0, 0)) ∧ W.heap[b2]? = some (.cells (rowArr z.2) 58 (0, 0)) ∧ w7.heap.size ≤ b1 ∧ w7.heap.size ≤ b2 ∧ a' = ⟨#[.agg CA, .agg CB, .pointer (some ⟨w.heap.size, 0, none⟩), .pointer (some ⟨w.heap.size + 1, 0, none⟩), .slice none 0 0, .int .i64 0, .pointer (some ⟨w2.heap.size, 0, none⟩), .pointer (some ⟨b1, 0, none⟩), .pointer (some ⟨b2, 0, none⟩), undef, .agg CA, .bool true, .bool false, .bool false, .agg CB, .bool true, .bool false, .bool false, .agg CA, .func (.func 49) #[] #[.pointer (some ⟨w3.heap.size, 0, none⟩)], .agg CB, .func (.func 49) #[] #[.pointer (some ⟨w4.heap.size, 0, none⟩)], .slice oa oB.length oc, .func (.func 65) #[] #[.pointer (some ⟨w6.heap.size + 1, 0, none⟩), .pointer (some ⟨w6.heap.size, 0, none⟩)], .agg (rowArr z.1), .agg (rowArr z.2), undef, undef, undef, undef, undef, undef, undef, undef, undef, undef, undef, undef, undef, undef, undef, undef, undef, undef, undef, undef, undef, undef, undef, undef, undef, undef, undef], []⟩) ?bax ?assign ?body ?done ?stop
  case assign =>
    rintro lo pre z W K2 hI htl hK
    dsimp only [encRow2]
    obtain ⟨⟨⟨xl, xa, xb', xv⟩, A, C⟩, hx⟩ : ∃ x, z.1.getD zeroRV = x := ⟨_, rfl⟩
    obtain ⟨⟨⟨yl, ya, yb', yv⟩, B, D⟩, hy⟩ : ∃ x, z.2.getD zeroRV = x := ⟨_, rfl⟩
    rw [rowArr_form, rowArr_form, hx, hy]
    dsimp only [RowV.cells]
    gi_wp2
    have hbl : Below W.heap.size W ((W.alloc (.cells #[.int .i64 xl, .int .i64 xa, .int .i64 xb', .slice A xv.length C] 58)).alloc (.cells #[.int .i64 yl, .int .i64 ya, .int .i64 yb', .slice B yv.length D] 58)) := ((Below.refl _ W).alloc (Nat.le_refl _) _).alloc (by simp) _
    obtain ⟨vl, oc2, i1, i2, i3, i4, i5⟩ := hI
    have hlw := i1.lt
    refine hK _ _ (TurnsK.below hbl) ⟨⟨vl, oc2, (hbl.block _ i1.lt).trans i1, i2.below hbl, i3, i4, Nat.le_trans i5 hbl.size⟩, ⟨htl.1, fun x h => (htl.2.1 x h).turn (NoT.false _) (TurnsK.below hbl), fun x h => (htl.2.2 x h).turn (NoT.false _) (TurnsK.below hbl)⟩, W.heap.size, W.heap.size + 1, ?_, ?_, i5, by omega, ?_⟩
    · rw [rowArr_form, hx]; exact two_new.1
    · rw [rowArr_form, hy]; exact two_new.2
    · rw [rowArr_form, rowArr_form, hx, hy]; rfl
  case bi =>
    rintro pre A B ⟨vl, o, i1, i2, i3, i4, i5⟩ ht
    exact ⟨vl, o, boxed_turn i1 (hNT _ (by decide)) ht, i2.turn (hNT _ (by decide)) (fun k o h => by have := h.1; have := HW.out.size; omega) ht, i3, i4, Nat.le_trans i5 ht.size⟩
  case bx => exact fun _ _ _ _ h _ => h
  case h0 => exact ⟨_, [], HX7.out, (CpS.nil (Nat.le_refl _)).below HW.out, rfl, Nat.le_refl _, Nat.le_refl _⟩
  case bax =>
    rintro pre z a' s A B ⟨⟨vl, o, i1, i2, i3, i4, i5⟩, ⟨t1, t2, t3⟩, b1, b2, e1, e2, e3, e4, e5⟩ ht
    have hn : ∀ ts, NoT ts (fun k o => w7.heap.size ≤ k ∧ o.isCells = false) := fun ts => not_cells (fun k o h => h.2)
    exact ⟨⟨vl, o, boxed_turn i1 (hn _) ht, i2.turn (hn _) (fun k o h => by have := h.1; have := HW.out.size; omega) ht, i3, i4, Nat.le_trans i5 ht.size⟩, ⟨t1, fun x h => (t2 x h).turn (hn _) ht, fun x h => (t3 x h).turn (hn _) ht⟩, b1, b2, (hn _).at ht e1 (List.mem_singleton.2 rfl), (hn _).at ht e2 (List.mem_singleton.2 rfl), e3, e4, e5⟩
  case body =>
    rintro lo pre z a' W ⟨⟨vl, o, i1, i2, i3, i4, i5⟩, ⟨t1, t2, t3⟩, b1, b2, e1, e2, e3, e4, rfl⟩
    obtain ⟨p1, p2, p3, p4⟩ := beside_pre keyT keyT t1
    obtain ⟨z1, z2⟩ := z
    have hok1 : ∀ x, z1 = some x → RowOk x.r := fun x h => rows_ok HMA.out x.r (p2 x.r (by subst h; rfl))
    have hok2 : ∀ x, z2 = some x → RowOk x.r := fun x h => rows_ok HMB.out x.r (p3 x.r (by subst h; rfl))
    have hx0 := okD t2
    have hy0 := okD t3
    have hlen : o.length + 1 ≤ 20000 := by have := HKA.out.2; have := HKB.out.2; omega
    obtain ⟨m1, hm1⟩ : ∃ x, x = z1.getD zeroRV := ⟨_, rfl⟩
    obtain ⟨m2, hm2⟩ : ∃ x, x = z2.getD zeroRV := ⟨_, rfl⟩
    dsimp only at e1 e2 hx0 hy0
    rw [rowArr_form, ← hm1] at e1
    rw [rowArr_form, ← hm2] at e2
    rw [← hm1] at hx0
    rw [← hm2] at hy0
    rw [rowArr_form, rowArr_form, ← hm1, ← hm2]
    have hch : chOf (plainRow (z1, z2)) = if m1.r.v = m2.r.v then [] else [⟨if z1.isSome then m1.r.l else m2.r.l, if z1.isSome then m1.r.a else m2.r.a, if z1.isSome then m1.r.b else m2.r.b, m1.r.v, m2.r.v⟩] := by
      cases z1 with
      | some x => rw [hm1, hm2]; exact chOf_first (hok1 x rfl) hok2
      | none =>
        cases z2 with
        | none => exact absurd ⟨rfl, rfl⟩ p4
        | some y => rw [hm1, hm2]; exact chOf_second (hok2 y rfl)
    have hkey : (z1.isSome = true ∧ m1.r.l ≠ 0) ∨ (z1.isSome = false ∧ m1 = zeroRV ∧ m2.r.l ≠ 0) := by
      cases z1 with
      | some x => exact .inl ⟨rfl, by rw [hm1]; have := (hok1 x rfl).l1; show x.r.l ≠ 0; omega⟩
      | none =>
        cases z2 with
        | none => exact absurd ⟨rfl, rfl⟩ p4
        | some y => exact .inr ⟨rfl, hm1, by rw [hm2]; have := (hok2 y rfl).l1; show y.r.l ≠ 0; omega⟩
    have hl1 : m1.r.v.length ≤ 100000 := by
      rw [hm1]
      cases z1 with
      | some x => have := (hok1 x rfl).v; show x.r.v.length ≤ _; rw [this]; unfold allT; split <;> (try split) <;> omega
      | none => show 0 ≤ _; omega
    have HCH := Lib.hid hch
    have HL1 := Lib.hid hl1
    clear hch hok1 hok2 hm1 hm2 t1 t2 t3 p1 p2 p3 p4 hl1
    obtain ⟨⟨xl, xa, xb', xv⟩, A, C⟩ := m1
    obtain ⟨⟨yl, ya, yb', yv⟩, B, D⟩ := m2
    have E1 := Lib.hid (show W.heap[b1]? = some (.cells #[.int .i64 xl, .int .i64 xa, .int .i64 xb', .slice A xv.length C] 58 (0, 0)) from e1)
    have E2 := Lib.hid (show W.heap[b2]? = some (.cells #[.int .i64 yl, .int .i64 ya, .int .i64 yb', .slice B yv.length D] 58 (0, 0)) from e2)
    have c3 : W.cell? ⟨b1, 3, none⟩ = some (.slice A xv.length C) := by rw [cell_of_row _ _ _ _ _ _ E1.out]; rfl
    have g3 : W.cell? ⟨b2, 3, none⟩ = some (.slice B yv.length D) := by rw [cell_of_row _ _ _ _ _ _ E2.out]; rfl
    have HEQ := Lib.hid (equalI A B C D xv yv W (ValAt.i64s hx0) (ValAt.i64s hy0) HL1.out)
    have HXV := Lib.hid hx0
    have HYV := Lib.hid hy0
    have HI := Lib.hid (And.intro i1 (And.intro i2 (And.intro i3 (And.intro i4 i5))))
    clear e1 e2 hx0 hy0 i1 i2 i3 i4 i5 HL1
    by_cases hv : xv = yv
    · have hvb : (xv == yv) = true := by rw [beq_iff_eq]; exact hv
      rw [hvb] at HEQ
      have HCE := Lib.hid (HCH.out.trans (if_pos hv))
      clear hv hvb hkey HCH
      dsimp only
      gi_wp2_with (refine ⟨trivial, ?_⟩; gi_at_call 23; refine (callsIn_wide.2 HEQ.out).mono ?_; rintro e w8 ⟨rfl, m, hw8⟩; subst hw8)
      exact ⟨TurnsK.below (below_drews m), vl, o, HI.out.1, HI.out.2.1.below (below_drews m), by rw [List.map_append, List.flatMap_append, HI.out.2.2.1, List.map_singleton, List.flatMap_singleton, HCE.out, List.append_nil], by rw [List.length_append]; have := HI.out.2.2.2.1; omega, HI.out.2.2.2.2⟩
    · have hvb : (xv == yv) = false := by rw [beq_eq_false_iff_ne]; exact hv
      rw [hvb] at HEQ
      have HCE := Lib.hid (HCH.out.trans (if_neg hv))
      clear hv hvb HCH
      rcases hkey with ⟨hs, hkl⟩ | ⟨hs, hz, hkl⟩
      · rw [hs] at HCE
        have HKL := Lib.hid hkl
        clear hkl c3 g3
        have x0 : W.cell? ⟨b1, 0, none⟩ = some (.int .i64 xl) := by rw [cell_of_row _ _ _ _ _ _ E1.out]; rfl
        have x1 : W.cell? ⟨b1, 1, none⟩ = some (.int .i64 xa) := by rw [cell_of_row _ _ _ _ _ _ E1.out]; rfl
        have x2 : W.cell? ⟨b1, 2, none⟩ = some (.int .i64 xb') := by rw [cell_of_row _ _ _ _ _ _ E1.out]; rfl
        have x3 : W.cell? ⟨b1, 3, none⟩ = some (.slice A xv.length C) := by rw [cell_of_row _ _ _ _ _ _ E1.out]; rfl
        have y0 : W.cell? ⟨b2, 0, none⟩ = some (.int .i64 yl) := by rw [cell_of_row _ _ _ _ _ _ E2.out]; rfl
        have y1 : W.cell? ⟨b2, 1, none⟩ = some (.int .i64 ya) := by rw [cell_of_row _ _ _ _ _ _ E2.out]; rfl
        have y2 : W.cell? ⟨b2, 2, none⟩ = some (.int .i64 yb') := by rw [cell_of_row _ _ _ _ _ _ E2.out]; rfl
        have y3 : W.cell? ⟨b2, 3, none⟩ = some (.slice B yv.length D) := by rw [cell_of_row _ _ _ _ _ _ E2.out]; rfl
        have b1x : o.length + 1 ≤ maxLen := by unfold maxLen; omega
        have b2x : (o.length + 1) * 72 ≤ 140737488355328 := by omega
        dsimp only
        gi_wp2_with (first
          | (refine ⟨trivial, ?_⟩; gi_at_call 23; refine (callsIn_wide.2 HEQ.out).mono ?_; rintro e w8 ⟨rfl, m, hw8⟩; subst hw8)
          | (refine ⟨trivial, ?_⟩; gi_at_call 38; refine (callsIn_wide.2 (orFirst W.heap.size xl xa xb' yl ya yb' HKL.out _ (show ((W.drewN m).alloc (.cells #[.int .i64 xl, .int .i64 xa, .int .i64 xb', .int .i64 yl, .int .i64 ya, .int .i64 yb'] 56)).heap[W.heap.size]? = _ from heap_alloc_new (W.drewN m) _))).mono ?_; rintro e w9 ⟨rfl, hbo⟩; have hb9 : Below W.heap.size W w9 := (below_drews m).trans (((Below.refl _ (W.drewN m)).alloc (Nat.le_refl _) (.cells #[.int .i64 xl, .int .i64 xa, .int .i64 xb', .int .i64 yl, .int .i64 ya, .int .i64 yb'] 56)).trans (hbo.mono (by simp))); have hbk : Below W.heap.size W (w9.alloc (.cells #[.int .i64 xl, .int .i64 xa, .int .i64 xb'] 56)) := hb9.alloc hb9.size _; have HBK := Lib.hid hbk; have hlx := (hbk.block _ HI.out.1.lt).trans HI.out.1; have cl := cell_of_one hlx; have q3 : (w9.alloc (.cells #[.int .i64 xl, .int .i64 xa, .int .i64 xb'] 56)).cell? ⟨b1, 3, none⟩ = some (.slice A xv.length C) := (by rw [cell_of_row _ _ _ _ _ _ ((hbk.block _ (lt_of_blk E1.out)).trans E1.out)]; rfl); have r3 : (w9.alloc (.cells #[.int .i64 xl, .int .i64 xa, .int .i64 xb'] 56)).cell? ⟨b2, 3, none⟩ = some (.slice B yv.length D) := (by rw [cell_of_row _ _ _ _ _ _ ((hbk.block _ (lt_of_blk E2.out)).trans E2.out)]; rfl); have HL9 := Lib.hid hlx; have HC9 := Lib.hid (HI.out.2.1.below hbk); have HV9 := Lib.hid (And.intro (HXV.out.below hbk) (HYV.out.below hbk)); clear hbo hb9 hbk hlx)
          | (gi_at_builtin; refine wpListIn_append_own _ rfl _ _ 35 rfl w.heap.size 59 i0 (.agg #[.int .i64 0, .int .i64 0, .int .i64 0, .slice none 0 0, .slice none 0 0]) 5 72 Tryz.underlying35 hi0 hz0 hz1 hz2 rfl (by decide) _ _ _ rfl (HC9.out.row.alloc _) ⟨w9.heap.size + 1, 0, none⟩ 1 1 [.int .i64 xl, .int .i64 xa, .int .i64 xb', .slice A xv.length C, .slice B yv.length D] rfl rfl (by have h := new_run (w9.alloc (.cells #[.int .i64 xl, .int .i64 xa, .int .i64 xb'] 56)) [.int .i64 xl, .int .i64 xa, .int .i64 xb', .slice A xv.length C, .slice B yv.length D] 59; rw [World.size_alloc] at h; exact h) (one_chV ⟨⟨xl, xa, xb', xv, yv⟩, A, C, B, D⟩) b1x b2x (by have := HC9.out.sz; simp at this ⊢; omega) ?_; intro v' w10 hown hgrow _; obtain ⟨g', cap', rfl⟩ := ownsRow_succ hown; have hvt : Boxed w10 w2.heap.size 35 vl := (Boxed.alloc HL9.out _).kept hgrow (Boxed.not_row HL9.out (by decide) HC9.out.row); have hc2 := hvt.cell; have hf2 := hvt.frozen; have HB2 := Lib.hid hvt; have HA := Lib.hid (HC9.out.app (x := ⟨⟨xl, xa, xb', xv, yv⟩, A, C, B, D⟩) HV9.out hown hgrow); have HT := Lib.hid (HC9.out.app_turn hgrow); clear hown hgrow hvt))
        have hT2 : TurnsK (fun k o => k = w2.heap.size ∧ ∃ cs, o = .cells cs 35 (0, 0)) w10 (w10.setCell ⟨w2.heap.size, 0, none⟩ (.slice (some ⟨g', 0, none⟩) (o.length + 1) cap')) := (TurnsK.refl _ w10).setCell (p := ⟨w2.heap.size, 0, none⟩) HB2.out ⟨rfl, _, rfl⟩ _
        have hn2 : ∀ ts, 35 ∉ ts → NoT ts (fun k o => k = w2.heap.size ∧ ∃ cs, o = .cells cs 35 (0, 0)) := fun ts ht k cs t fz h => by obtain ⟨_, cs2, h⟩ := h; cases h; exact ht
        refine ⟨((TurnsK.below HBK.out).trans (HT.out.mono ?_)).trans (hT2.mono ?_), _, o ++ [_], set_blkN HB2.out 0 _, HA.out.turn (hn2 _ (by decide)) (fun k o h => by have := h.1; omega) hT2, ?_, ?_, ?_⟩
        · rintro k o ⟨h1, h2⟩; exact ⟨h1, .inr h2⟩
        · rintro k o ⟨rfl, h2⟩; exact ⟨hw2z, .inl h2⟩
        · rw [List.map_append, List.map_append, List.flatMap_append, HI.out.2.2.1, List.map_singleton, List.map_singleton, List.flatMap_singleton, HCE.out]; rfl
        · rw [List.length_append, List.length_append]; have := HI.out.2.2.2.1; simp only [List.length_singleton]; omega
        · have := hT2.size; have := HT.out.size; have := HBK.out.size; have := HI.out.2.2.2.2; omega
      · rw [hs] at HCE
        obtain ⟨hq1, hq2, hq3⟩ : (⟨xl, xa, xb', xv⟩ : RowT) = zeroRV.r ∧ A = none ∧ C = 0 := by
          have := congrArg RowV.r hz; have h2 := congrArg RowV.a hz; have h3 := congrArg RowV.c hz
          exact ⟨this, h2, h3⟩
        obtain ⟨rfl, rfl, rfl, rfl⟩ : xl = 0 ∧ xa = 0 ∧ xb' = 0 ∧ xv = [] := by simpa [zeroRV] using hq1
        subst hq2 hq3
        clear hq1 hz
        have HKL := Lib.hid hkl
        clear hkl c3 g3
        have x0 : W.cell? ⟨b1, 0, none⟩ = some (.int .i64 0) := by rw [cell_of_row _ _ _ _ _ _ E1.out]; rfl
        have x1 : W.cell? ⟨b1, 1, none⟩ = some (.int .i64 0) := by rw [cell_of_row _ _ _ _ _ _ E1.out]; rfl
        have x2 : W.cell? ⟨b1, 2, none⟩ = some (.int .i64 0) := by rw [cell_of_row _ _ _ _ _ _ E1.out]; rfl
        have x3 : W.cell? ⟨b1, 3, none⟩ = some (.slice none 0 0) := by rw [cell_of_row _ _ _ _ _ _ E1.out]; rfl
        have y0 : W.cell? ⟨b2, 0, none⟩ = some (.int .i64 yl) := by rw [cell_of_row _ _ _ _ _ _ E2.out]; rfl
        have y1 : W.cell? ⟨b2, 1, none⟩ = some (.int .i64 ya) := by rw [cell_of_row _ _ _ _ _ _ E2.out]; rfl
        have y2 : W.cell? ⟨b2, 2, none⟩ = some (.int .i64 yb') := by rw [cell_of_row _ _ _ _ _ _ E2.out]; rfl
        have y3 : W.cell? ⟨b2, 3, none⟩ = some (.slice B yv.length D) := by rw [cell_of_row _ _ _ _ _ _ E2.out]; rfl
        have b1x : o.length + 1 ≤ maxLen := by unfold maxLen; omega
        have b2x : (o.length + 1) * 72 ≤ 140737488355328 := by omega
        dsimp only
        gi_wp2_with (first
          | (refine ⟨trivial, ?_⟩; gi_at_call 23; refine (callsIn_wide.2 HEQ.out).mono ?_; rintro e w8 ⟨rfl, m, hw8⟩; subst hw8)
          | (refine ⟨trivial, ?_⟩; gi_at_call 38; refine (callsIn_wide.2 (orSecond W.heap.size yl ya yb' HKL.out _ (show ((W.drewN m).alloc (.cells #[.int .i64 0, .int .i64 0, .int .i64 0, .int .i64 yl, .int .i64 ya, .int .i64 yb'] 56)).heap[W.heap.size]? = _ from heap_alloc_new (W.drewN m) _))).mono ?_; rintro e w9 ⟨rfl, hbo⟩; have hb9 : Below W.heap.size W w9 := (below_drews m).trans (((Below.refl _ (W.drewN m)).alloc (Nat.le_refl _) (.cells #[.int .i64 0, .int .i64 0, .int .i64 0, .int .i64 yl, .int .i64 ya, .int .i64 yb'] 56)).trans (hbo.mono (by simp))); have hbk : Below W.heap.size W (w9.alloc (.cells #[.int .i64 yl, .int .i64 ya, .int .i64 yb'] 56)) := hb9.alloc hb9.size _; have HBK := Lib.hid hbk; have hlx := (hbk.block _ HI.out.1.lt).trans HI.out.1; have cl := cell_of_one hlx; have q3 : (w9.alloc (.cells #[.int .i64 yl, .int .i64 ya, .int .i64 yb'] 56)).cell? ⟨b1, 3, none⟩ = some (.slice none 0 0) := (by rw [cell_of_row _ _ _ _ _ _ ((hbk.block _ (lt_of_blk E1.out)).trans E1.out)]; rfl); have r3 : (w9.alloc (.cells #[.int .i64 yl, .int .i64 ya, .int .i64 yb'] 56)).cell? ⟨b2, 3, none⟩ = some (.slice B yv.length D) := (by rw [cell_of_row _ _ _ _ _ _ ((hbk.block _ (lt_of_blk E2.out)).trans E2.out)]; rfl); have HL9 := Lib.hid hlx; have HC9 := Lib.hid (HI.out.2.1.below hbk); have HV9 := Lib.hid (And.intro (HXV.out.below hbk) (HYV.out.below hbk)); clear hbo hb9 hbk hlx)
          | (gi_at_builtin; refine wpListIn_append_own _ rfl _ _ 35 rfl w.heap.size 59 i0 (.agg #[.int .i64 0, .int .i64 0, .int .i64 0, .slice none 0 0, .slice none 0 0]) 5 72 Tryz.underlying35 hi0 hz0 hz1 hz2 rfl (by decide) _ _ _ rfl (HC9.out.row.alloc _) ⟨w9.heap.size + 1, 0, none⟩ 1 1 [.int .i64 yl, .int .i64 ya, .int .i64 yb', .slice none 0 0, .slice B yv.length D] rfl rfl (by have h := new_run (w9.alloc (.cells #[.int .i64 yl, .int .i64 ya, .int .i64 yb'] 56)) [.int .i64 yl, .int .i64 ya, .int .i64 yb', .slice none 0 0, .slice B yv.length D] 59; rw [World.size_alloc] at h; exact h) (one_chV ⟨⟨yl, ya, yb', [], yv⟩, none, 0, B, D⟩) b1x b2x (by have := HC9.out.sz; simp at this ⊢; omega) ?_; intro v' w10 hown hgrow _; obtain ⟨g', cap', rfl⟩ := ownsRow_succ hown; have hvt : Boxed w10 w2.heap.size 35 vl := (Boxed.alloc HL9.out _).kept hgrow (Boxed.not_row HL9.out (by decide) HC9.out.row); have hc2 := hvt.cell; have hf2 := hvt.frozen; have HB2 := Lib.hid hvt; have HA := Lib.hid (HC9.out.app (x := ⟨⟨yl, ya, yb', [], yv⟩, none, 0, B, D⟩) HV9.out hown hgrow); have HT := Lib.hid (HC9.out.app_turn hgrow); clear hown hgrow hvt))
        have hT2 : TurnsK (fun k o => k = w2.heap.size ∧ ∃ cs, o = .cells cs 35 (0, 0)) w10 (w10.setCell ⟨w2.heap.size, 0, none⟩ (.slice (some ⟨g', 0, none⟩) (o.length + 1) cap')) := (TurnsK.refl _ w10).setCell (p := ⟨w2.heap.size, 0, none⟩) HB2.out ⟨rfl, _, rfl⟩ _
        have hn2 : ∀ ts, 35 ∉ ts → NoT ts (fun k o => k = w2.heap.size ∧ ∃ cs, o = .cells cs 35 (0, 0)) := fun ts ht k cs t fz h => by obtain ⟨_, cs2, h⟩ := h; cases h; exact ht
        refine ⟨((TurnsK.below HBK.out).trans (HT.out.mono ?_)).trans (hT2.mono ?_), _, o ++ [_], set_blkN HB2.out 0 _, HA.out.turn (hn2 _ (by decide)) (fun k o h => by have := h.1; omega) hT2, ?_, ?_, ?_⟩
        · rintro k o ⟨h1, h2⟩; exact ⟨h1, .inr h2⟩
        · rintro k o ⟨rfl, h2⟩; exact ⟨hw2z, .inl h2⟩
        · rw [List.map_append, List.map_append, List.flatMap_append, HI.out.2.2.1, List.map_singleton, List.map_singleton, List.flatMap_singleton, HCE.out]; rfl
        · rw [List.length_append, List.length_append]; have := HI.out.2.2.2.1; simp only [List.length_singleton]; omega
        · have := hT2.size; have := HT.out.size; have := HBK.out.size; have := HI.out.2.2.2.2; omega
  case done =>
    rintro E zs W hE hf ⟨vl, o, i1, i2, i3, i4, i5⟩ hK
    have hc := cell_of_one i1
    have HI2 := Lib.hid i2
    have HI3 := Lib.hid (i3.trans (by rw [hf, beside_merge]; rfl : _ = diffT a b))
    have HKD := Lib.hid hK
    have HDD := Lib.hid hE
    clear i1 i2 i3 i4 i5 hf hK hE
    gi_wp2
    refine ⟨by simp, .inl ⟨_, _, rfl, run_takeDeferred HKD.out, ?_⟩⟩
    exact ⟨_, results_tmp2 rfl _ _ _, vl, o, rfl, HI2.out.turn (T := fun k o => k = E ∧ o.isCells = false) (not_cells (fun _ _ h => h.2)) (fun k o h => by have := h.1; have := HDD.out; have := HW.out.size; omega) ((TurnsK.refl _ W).putObj HKD.out ⟨rfl, rfl⟩ _), HI3.out⟩
  case stop =>
    rintro E c pre W _ h _
    exact h.elim
end Go.Proofs.YtellifcjamedkaaGreat
