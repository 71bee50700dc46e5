/- Patch: the program's contract. The program's Same of changes: the contract. -/
import Derived.Test.YtellifcjamedkaaGreatMPt
import Derived.Test.YtellifcjamedkaaGreatMMa
import Derived.Test.YtellifcjamedkaaGreatDfSame
import Derived.Test.YtellifcjamedkaaGreatMAm
namespace Go.Proofs.YtellifcjamedkaaGreat
open Go.RowKit Go.Shelf Base Base2
open List renaming getElem_toArray → lgT, getElem_cons_zero → lgZ, getElem_cons_succ → lgS, setIfInBounds_toArray → lsT, set_cons_zero → lsZ, set_cons_succ → lsS
attribute [local go_sem] Oper.semAt_some
theorem lo_put {w W : World} {E : Nat} {o o' : Obj} (h : Below w.heap.size w W) (hE : w.heap.size ≤ E) (hk : W.heap[E]? = some o) : Below w.heap.size w (W.putObj E o') :=
  h.trans (((TurnsK.refl (fun k _ => k = E) W).putObj hk rfl _).lo h.size (fun k ob hk a => by omega))
/-- How Patch stands between two rounds: b, the book that is being made; r4, r5, the answer's box and the error's. -/
structure PatI [LowB] (w : World) (gb n5 : Nat) (pre : List PCh) (W : World) : Prop where
  bk : ∃ vb, BkS w.heap.size gb W vb (layAll (pre.map plainCh))
  z4 : W.heap[w.heap.size + 1]? = some (.cells #[.slice none 0 0, .slice none 0 0, .slice none 0 0, .slice none 0 0, .int .i64 0] 27 (0, 0))
  z5 : W.heap[w.heap.size + 2]? = some (.cells #[.int .i64 0] 32 (0, 0))
  lo : Below w.heap.size w W
  ok : (pre.map plainCh).all pairOkB = true
  sz : n5 ≤ W.heap.size
structure PatX (w : World) (FULL : List (Option RowT × Option ChT)) (c : Code) (W : World) : Prop where
  c : c = Code.ret
  z4 : W.heap[w.heap.size + 1]? = some (.cells #[.slice none 0 0, .slice none 0 0, .slice none 0 0, .slice none 0 0, .int .i64 0] 27 (0, 0))
  z5 : W.heap[w.heap.size + 2]? = some (.cells #[.int .i64 7] 32 (0, 0))
  lo : Below w.heap.size w W
  no : FULL.all pairOkB = false
theorem PatI.turn [LowB] {w : World} {gb n5 : Nat} {pre : List PCh} {W W' : World} {S : Nat → Obj → Prop} (h : PatI w gb n5 pre W) (hT : NoT [27, 32, 71, 73, 76, 50] S) (hB : ∀ k o, S k o → w.heap.size ≤ k) (ht : TurnsK S W W') : PatI w gb n5 pre W' := by
  obtain ⟨vb, hb⟩ := h.bk
  exact ⟨⟨vb, hb.turn (hT.sub (by simp)) ht⟩, hT.at ht h.z4 (by simp), hT.at ht h.z5 (by simp), h.lo.trans (ht.lo h.lo.size (fun k o hk a => by have := hB k o a; omega)), h.ok, Nat.le_trans h.sz ht.size⟩
theorem PatX.turn {w : World} {FULL : List (Option RowT × Option ChT)} {c : Code} {W W' : World} {S : Nat → Obj → Prop} (h : PatX w FULL c W) (hT : NoT [27, 32, 71, 73, 76, 50] S) (hB : ∀ k o, S k o → w.heap.size ≤ k) (ht : TurnsK S W W') : PatX w FULL c W' :=
  ⟨h.c, hT.at ht h.z4 (by simp), hT.at ht h.z5 (by simp), h.lo.trans (ht.lo h.lo.size (fun k o hk a => by have := hB k o a; omega)), h.no⟩
/-- A round that laid a row. -/
theorem PatI.lay [LowB] {w : World} {gb n5 : Nat} {pre : List PCh} {z : PCh} {W W' : World} {r : RowT} {v' : Slots} (h : PatI w gb n5 pre W) (hg : gb ≠ w.heap.size + 1) (hl : layOf (plainCh z) = [r]) (hk : pairOkB (plainCh z) = true) (h1 : BkS w.heap.size gb W' v' (layB (layAll (pre.map plainCh)) r)) (h2 : KeepT W W') (h3 : Below w.heap.size W W') (h4 : KeepG gb W W') : PatI w gb n5 (pre ++ [z]) W' :=
  ⟨⟨v', by rw [List.map_append, List.map_singleton, layAll_snoc, hl]; exact h1⟩, h4 _ _ h.z4 (Ne.symm hg), h2.same _ _ h.z5 rfl, h.lo.trans h3, by rw [List.map_append, List.all_append, h.ok, List.map_singleton]; simp [hk], Nat.le_trans h.sz h3.size⟩
theorem PatI.skip [LowB] {w : World} {gb n5 : Nat} {pre : List PCh} {z : PCh} {W W' : World} (h : PatI w gb n5 pre W) (hl : layOf (plainCh z) = []) (hk : pairOkB (plainCh z) = true) (hb : Below W.heap.size W W') : PatI w gb n5 (pre ++ [z]) W' := by
  obtain ⟨vb, h1⟩ := h.bk
  exact ⟨⟨vb, by rw [List.map_append, List.map_singleton, layAll_snoc, hl]; exact h1.below hb⟩, (hb.block _ (lt_of_blk h.z4)).trans h.z4, (hb.block _ (lt_of_blk h.z5)).trans h.z5, h.lo.trans (hb.mono h.lo.size), by rw [List.map_append, List.all_append, h.ok, List.map_singleton]; simp [hk], Nat.le_trans h.sz hb.size⟩
theorem not_all {A : Type} {p : A → Bool} {l F : List A} {x : A} (h : ∃ s, l ++ [x] ++ s = F) (hx : p x = false) : F.all p = false := by
  obtain ⟨s, rfl⟩ := h
  rw [List.all_append, List.all_append]
  simp [hx]
theorem kinds_no {ts : List TypeId} {n : Nat} (hm : 35 ∉ ts) : NoT ts (fun k o => n ≤ k ∧ (KCh o ∨ o.isCells = false)) := fun k cs t fz h => by
  rcases h with ⟨_, (h | ⟨cs', h⟩) | h⟩
  · cases h
  · cases h; exact hm
  · cases h
set_option maxRecDepth 100000 in
set_option maxHeartbeats 16000000 in
theorem patch_yes (v : Slots) (a : BookT) (ya : Option Addr) (yc : Nat) (Y : List ChV) (w : World) (ha : BookIn w v a) (ka : BookOk 2000 a) (hm : mayT a = true) (hmc : mayCh (Y.map ChV.c) = true)
    (hr : RowsK 59 5 w ya (Y.map ChV.cells)) (hyc : Y.length ≤ yc) (hok : ∀ y ∈ Y, I64s w y.a1 y.c.was ∧ I64s w y.a2 y.c.now) (hlv : ∀ x ∈ Y, x.c.was.length ≤ 100000 ∧ x.c.now.length ≤ 100000) (hle : Y.length ≤ 10000)
    (hbk : (sideP a (Y.map ChV.c)).all pairOkB = true → BookOk 2000 (layAll (sideP a (Y.map ChV.c)))) :
    Calls Tryz.prog 7 #[.agg (cellsB v a), .slice ya Y.length yc] w (PatchOut w (patchP a (Y.map ChV.c))) := by
  obtain ⟨lb, hlb⟩ : ∃ lb : LowB, lb.n = w.heap.size := ⟨⟨w.heap.size⟩, rfl⟩
  obtain ⟨cq, hcq⟩ : ∃ cq : ChQ, ∀ y, cq.q y ↔ y ∈ Y := ⟨⟨fun y => y ∈ Y⟩, fun _ => Iff.rfl⟩
  have HLB := Lib.hid hlb
  have HOKV := Lib.hid (fun W (h : Below w.heap.size w W) (y : ChV) (hy : ChOk W y) => show I64s W y.a1 y.c.was ∧ LayV W y.a2 y.c.now from ⟨(hok y ((hcq y).1 hy)).1.below h, lay_of (hok y ((hcq y).1 hy)).2 hlb h⟩)
  refine (callsIn_wide (n := 10)).1 ?_
  have HP := Lib.hid (show patchP a (Y.map ChV.c) = if (sideP a (Y.map ChV.c)).all pairOkB = false then (zeroD, 7) else if mayT (layAll (sideP a (Y.map ChV.c))) = true then (layAll (sideP a (Y.map ChV.c)), 0) else (zeroD, 1) by unfold patchP; rw [if_neg (by rw [hm]; decide), if_neg (by rw [hmc]; decide)])
  have HBK := Lib.hid hbk
  have HMA := Lib.hid (mayB hm ka)
  have HON := Lib.hid (may_one hmc)
  have HRI := Lib.hid (may_rise hmc)
  obtain ⟨R, hR⟩ : ∃ R, patchP a (Y.map ChV.c) = R := ⟨_, rfl⟩
  rw [hR] at HP ⊢
  obtain ⟨W0, hW0⟩ : ∃ x, (((w.alloc (.cells (cellsB v a) 27)).alloc (.cells #[.slice none 0 0, .slice none 0 0, .slice none 0 0, .slice none 0 0, .int .i64 0] 27)).alloc (.cells #[.int .i64 0] 32)) = x := ⟨_, rfl⟩
  have hA : Below w.heap.size w W0 := by rw [← hW0]; exact (((Below.refl _ w).alloc (Nat.le_refl _) _).alloc (by simp) _).alloc (by simp; omega) _
  have hN := three_new (W := w) (O := .cells (cellsB v a) 27) (P := (.cells #[.slice none 0 0, .slice none 0 0, .slice none 0 0, .slice none 0 0, .int .i64 0] 27)) (S := .cells #[.int .i64 0] 32)
  rw [hW0] at hN
  have hg1 : BoxB W0 w.heap.size v a := hN.1
  have HLO := Lib.hid (fun W (h : Below W0.heap.size W0 W) => show Below w.heap.size w W from hA.trans (h.mono hA.size))
  have HL1 := Lib.hid (fun W (h : Below W0.heap.size W0 W) => load_book (hg1.below h (lt_of_blk hg1)))
  have HM1 := Lib.hid (pmay9 v a W0 (ha.below hA) ka)
  have HN4 := Lib.hid (fun W (h : Below W0.heap.size W0 W) => (h.block _ (lt_of_blk hN.2.1)).trans hN.2.1)
  have HN5 := Lib.hid (fun W (h : Below W0.heap.size W0 W) => (h.block _ (lt_of_blk hN.2.2)).trans hN.2.2)
  have HMC := Lib.hid (fun W (h : Below W0.heap.size W0 W) => may27 ya yc Y W (hr.below (HLO.out _ h)) (fun x hx => ⟨(hok x hx).1.below (HLO.out _ h), (hok x hx).2.below (HLO.out _ h)⟩) hlv (by omega))
  rw [hm] at HM1
  rw [hmc] at HMC
  have HR1 := Lib.hid (fun W => rowsF v a W)
  have HRS := Lib.hid (fun W (h : Below w.heap.size w W) => show RestCh W (.slice ya Y.length yc) Y from ⟨⟨ya, yc, rfl, hr.below h, hyc⟩, fun y hy => (hcq y).2 hy⟩)
  clear hcq hlb
  have HLV := Lib.hid hlv
  have HLE := Lib.hid hle
  have HKA := Lib.hid (rowsD_len ka)
  have HIN := Lib.hid (fun (gb : Nat) (w0 : World) (h : Below w.heap.size w w0) (g : Nat) (hg : BoxB w0 g v a) (hgw : w.heap.size ≤ g) (hg1 : g ≠ gb) (hg2 : g ≠ w.heap.size + 1) => show ∀ (l p1 : Nat) (W : World), w0.heap.size ≤ l → w0.heap.size ≤ p1 → Below w0.heap.size w0 W → SeqK Tryz.prog 49 #[.pointer (some ⟨g, 0, none⟩)] encRv (fun _ => False) (RCh l p1 (RPat w.heap.size gb (w.heap.size + 1) (w.heap.size + 2))) (TlRow (rowsD a)) (fun xs => xs.map RowV.r = rowsD a) W from fun l p1 W hl hp hW => rows_seq (RCh l p1 (RPat w.heap.size gb (w.heap.size + 1) (w.heap.size + 2))) w v a ha ka g W (h.trans (hW.mono h.size)) (hg.below hW (lt_of_blk hg)) (fun k o h2 => by
    have := h.size
    rcases h2 with (⟨rfl, _⟩ | h2) | ⟨rfl, _⟩
    · omega
    · exact h2.1
    · omega) (fun h2 => by
    rcases h2 with (⟨_, h2⟩ | h2) | ⟨_, cs, h2⟩
    · cases h2
    · exact RPat.book hg1 hg2 h2
    · cases h2))
  have HZ0 := Lib.hid (show W0.heap.size = w.heap.size + 3 by rw [← hW0]; simp)
  have HW0 := Lib.hid hW0
  obtain ⟨ny, hny⟩ : ∃ n, Y.length = n := ⟨_, rfl⟩
  have HNY := Lib.hid hny
  rw [hny] at HMC HRS HLE ⊢
  clear ha ka hg1 hA hN hm hmc hr hok hlv hle hbk hR hyc hny
  refine callsIn_of_wp_marks Tryz.func7 rfl trivial ?_ rfl
  simp only [Tryz.ntmps7, List.size_toArray, List.length_cons, List.length_nil, Nat.reduceAdd, Nat.reduceSub, Array.replicate_succ, Array.replicate_zero, List.push_toArray, List.append_toArray, List.nil_append, List.cons_append]
  generalize hCA : cellsB v a = CA at *
  have HCAE := Lib.hid hCA
  clear hCA
  gi_wp2_with (first
    | ((with_reducible refine atLoadIn (ty := 27) (x := .tmp 2) rfl ?_); refine loadEIn (wanted_noneD rfl) (fun _ _ => trivial) 27 (.tmp 2) rfl _ (.agg CA) rfl (HL1.out _ (by first | exact HB3.out | exact Below.refl _ _)) ?_)
    | (refine ⟨trivial, ?_⟩; gi_at_call 20; refine (callsIn_wide.2 (besideFC _ _ _ _ _ _ _ _ rfl rfl)).mono ?_; rintro e w5 ⟨rfl, hw5⟩; have HW5 := Lib.hid hw5; clear hw5)
    | (refine ⟨trivial, ?_⟩; gi_at_call 21; refine (callsIn_wide.2 (HR1.out _)).mono ?_; rintro e w4 ⟨rfl, hw4⟩; have HW4 := Lib.hid hw4; clear hw4)
    | (refine ⟨trivial, ?_⟩; gi_at_call 19; refine (callsIn_wide.2 (HMC.out _ HB1.out)).mono ?_; rintro e w2 ⟨rfl, hb2⟩; have HB2 := Lib.hid (HB1.out.trans (hb2.mono HB1.out.size)); have HB3 := Lib.hid (HB2.out.alloc HB2.out.size (.cells #[.slice none 0 0, .slice none 0 0, .slice none 0 0, .slice none 0 0, .int .i64 0] 27)); clear hb2)
    | (refine ⟨trivial, ?_⟩; gi_at_call 18; refine (callsIn_wide.2 HM1.out).mono ?_; rintro e w1 ⟨rfl, hb1⟩; have HB1 := Lib.hid hb1; clear hb1))
  have b34 : Below (w2.alloc (.cells #[.slice none 0 0, .slice none 0 0, .slice none 0 0, .slice none 0 0, .int .i64 0] 27)).heap.size (w2.alloc (.cells #[.slice none 0 0, .slice none 0 0, .slice none 0 0, .slice none 0 0, .int .i64 0] 27)) w4 := by rw [HW4.out]; exact (Below.refl _ _).alloc (Nat.le_refl _) _
  have b45 : Below w4.heap.size w4 w5 := by rw [HW5.out]; exact ((Below.refl _ _).alloc (Nat.le_refl _) _).alloc (by simp) _
  have hz4 : w4.heap.size = w2.heap.size + 2 := by rw [HW4.out]; simp
  have hz5 : w5.heap.size = w2.heap.size + 4 := by rw [HW5.out]; simp [hz4]
  have hga : BoxB w5 (w2.heap.size + 1) v a := by
    have h : w4.heap[w2.heap.size + 1]? = some (.cells CA 27 (0, 0)) := by rw [HW4.out]; exact two_new.2
    unfold BoxB
    rw [HCAE.out]
    exact (b45.block _ (lt_of_blk h)).trans h
  have hgb : w5.heap[w2.heap.size]? = some (.cells #[.slice none 0 0, .slice none 0 0, .slice none 0 0, .slice none 0 0, .int .i64 0] 27 (0, 0)) := by
    have h : w4.heap[w2.heap.size]? = some (.cells #[.slice none 0 0, .slice none 0 0, .slice none 0 0, .slice none 0 0, .int .i64 0] 27 (0, 0)) := by rw [HW4.out]; exact two_new.1
    exact (b45.block _ (lt_of_blk h)).trans h
  have hyb : Boxed w5 (w2.heap.size + 3) 35 (.slice ya ny yc) := by
    have h : Boxed w5 (w4.heap.size + 1) 35 (.slice ya ny yc) := by rw [HW5.out]; exact two_new.2
    rw [hz4] at h; exact h
  have hxb : Boxed w5 (w2.heap.size + 2) 61 (.func (.func 49) #[] #[.pointer (some ⟨w2.heap.size + 1, 0, none⟩)]) := by
    have h : Boxed w5 w4.heap.size 61 (.func (.func 49) #[] #[.pointer (some ⟨w2.heap.size + 1, 0, none⟩)]) := by rw [HW5.out]; exact two_new.1
    rw [hz4] at h; exact h
  have h05 : Below W0.heap.size W0 w5 := HB3.out.trans (((b34.mono HB3.out.size)).trans (b45.mono (Nat.le_trans HB3.out.size b34.size)))
  have hw5 : Below w.heap.size w w5 := HLO.out w5 h05
  have hsz2 := HB2.out.size
  have hsz0 := HZ0.out
  have hseq := beside_seqCh (RPat w.heap.size w2.heap.size (w.heap.size + 1) (w.heap.size + 2)) (RPat.no _ _ _ _) (rowsD a) Y (.slice ya ny yc) 49 #[.pointer (some ⟨w2.heap.size + 1, 0, none⟩)] (enters_of Tryz.func49 (by kernel_rfl) rfl) (w2.heap.size + 3) (w2.heap.size + 2) w5 hyb hxb (HRS.out _ hw5) (by rw [HNY.out]; exact HLE.out) HRI.out (HIN.out w2.heap.size w5 hw5 (w2.heap.size + 1) hga (by omega) (by omega) (by omega)) (fun _ _ h => h.cells)
  have HSQ := Lib.hid hseq
  have HI0 := Lib.hid (show PatI w w2.heap.size w5.heap.size [] w5 from ⟨⟨_, BkS.zero hgb (by omega) (Nat.le_of_eq HLB.out)⟩, HN4.out _ h05, HN5.out _ h05, hw5, rfl, Nat.le_refl _⟩)
  have HW := Lib.hid hw5
  have HGN := Lib.hid (show w2.heap.size ≠ w.heap.size + 1 by omega)
  have HGL := Lib.hid (show w.heap.size ≤ w2.heap.size by omega)
  simp only [World.size_alloc, hz4] at *
  clear b34 b45 hz4 hz5 hga hgb hyb hxb h05 hw5 hsz2 hsz0 hseq HIN HR1 HL1 HW4 HW5 HB1 HB2 HB3 HN4 HN5 HM1 HMC HRS HRI
  refine range_kinds (gf := 45) (lb := #[.pointer (some ⟨w2.heap.size + 3, 0, none⟩), .pointer (some ⟨w2.heap.size + 2, 0, none⟩)]) (w := w5) rfl (enters_of Tryz.func45 (by kernel_rfl) rfl) HSQ.out (fun _ _ h => .inl h.cells) (Below.refl _ _) (fun _ => rfl)
    (fun pre W => PatI w w2.heap.size w5.heap.size pre W) (fun c _ W => PatX w (sideP a (Y.map ChV.c)) c W) ?bi ?bx ?h0
    (fun pre z a' W => PatI w w2.heap.size w5.heap.size pre W ∧ TlPCh (sideP a (Y.map ChV.c)) pre z W ∧ ∃ b1 b2, W.heap[b1]? = some (.cells (rowArr z.1) 58 (0, 0)) ∧ W.heap[b2]? = some (.cells (chArr z.2) 59 (0, 0)) ∧ w5.heap.size ≤ b1 ∧ w5.heap.size ≤ b2 ∧ a' = ⟨#[.agg CA, .slice ya ny yc, .pointer (some ⟨w.heap.size, 0, none⟩), undef, .pointer (some ⟨w.heap.size + 1, 0, none⟩), .pointer (some ⟨w.heap.size + 2, 0, none⟩), .pointer (some ⟨w2.heap.size, 0, none⟩), .pointer (some ⟨b1, 0, none⟩), .pointer (some ⟨b2, 0, none⟩), .agg CA, .bool true, .bool false, undef, .slice ya ny yc, .bool true, .bool false, undef, .agg CA, .func (.func 49) #[] #[.pointer (some ⟨w2.heap.size + 1, 0, none⟩)], .slice ya ny yc, .func (.func 45) #[] #[.pointer (some ⟨w2.heap.size + 3, 0, none⟩), .pointer (some ⟨w2.heap.size + 2, 0, none⟩)], .agg (rowArr z.1), .agg (chArr z.2), undef, undef, undef, undef, undef, undef, undef, undef, undef, undef, undef, undef, undef, undef, undef, undef, undef, undef, undef, undef, undef, undef, undef, undef, undef, undef, undef, undef, undef, undef], []⟩) ?bax ?assign ?body ?done ?stop
  case assign =>
    rintro lo pre z W K2 hI htl hK
    dsimp only [encCh2]
    obtain ⟨⟨⟨xl, xa, xb', xv⟩, A, C⟩, hx⟩ : ∃ x, z.1.getD zeroRV = x := ⟨_, rfl⟩
    obtain ⟨⟨⟨yl, yaa, yb', yv, yn⟩, B, D, E, G⟩, hy⟩ : ∃ x, z.2.getD zeroCV = x := ⟨_, rfl⟩
    rw [rowArr_form, chArr_form, hx, hy]
    dsimp only [RowV.cells, ChV.cells]
    gi_wp2
    have hbl : Below W.heap.size W ((W.alloc (.cells #[.int .i64 xl, .int .i64 xa, .int .i64 xb', .slice A xv.length C] 58)).alloc (.cells #[.int .i64 yl, .int .i64 yaa, .int .i64 yb', .slice B yv.length D, .slice E yn.length G] 59)) := ((Below.refl _ W).alloc (Nat.le_refl _) _).alloc (by simp) _
    have hlw := hI.sz
    refine hK _ _ (TurnsK.below hbl) ⟨hI.turn (S := fun _ _ => False) (NoT.false _) (fun _ _ h => h.elim) (TurnsK.below hbl), ⟨htl.1, fun x h => (htl.2.1 x h).turn (NoT.false _) (TurnsK.below hbl), fun x h => (htl.2.2 x h).turn (NoT.false _) (TurnsK.below hbl)⟩, W.heap.size, W.heap.size + 1, ?_, ?_, hlw, by omega, ?_⟩
    · rw [rowArr_form, hx]; exact two_new.1
    · rw [chArr_form, hy]; exact two_new.2
    · rw [rowArr_form, chArr_form, hx, hy]; rfl
  case bi =>
    rintro pre A B hI ht
    exact hI.turn (kinds_no (by decide)) (fun k o h => by have := h.1; have := HW.out.size; omega) ht
  case bx =>
    rintro c pre A B hI ht
    exact hI.turn (kinds_no (by decide)) (fun k o h => by have := h.1; have := HW.out.size; omega) ht
  case h0 => exact HI0.out
  case bax =>
    rintro pre z a' s A B ⟨hI, ⟨t1, t2, t3⟩, b1, b2, e1, e2, e3, e4, e5⟩ ht
    have hn : ∀ ts, NoT ts (fun k o => w5.heap.size ≤ k ∧ o.isCells = false) := fun ts => not_cells (fun k o h => h.2)
    exact ⟨hI.turn (hn _) (fun k o h => by have := h.1; have := HW.out.size; omega) ht, ⟨t1, fun x h => (t2 x h).turn (hn _) ht, fun x h => (t3 x h).turn (hn _) ht⟩, b1, b2, (hn _).at ht e1 (List.mem_singleton.2 rfl), (hn _).at ht e2 (List.mem_singleton.2 rfl), e3, e4, e5⟩
  case body =>
    rintro lo pre z a' W ⟨hI, ⟨t1, t2, t3⟩, b1, b2, e1, e2, e3, e4, rfl⟩
    obtain ⟨p1, p2, p3, p4⟩ := beside_pre keyT keyC t1
    obtain ⟨z1, z2⟩ := z
    have HI := Lib.hid hI
    have HT1 := Lib.hid t1
    obtain ⟨vb, hbs⟩ := hI.bk
    have HBS := Lib.hid hbs
    have hlen := layAll_len (pre.map plainCh)
    rw [List.length_map] at hlen
    rw [List.length_map, HNY.out] at p1
    have HLN := Lib.hid (show (layAll (pre.map plainCh)).hs.length ≤ 20000 ∧ (layAll (pre.map plainCh)).ss.length ≤ 20000 ∧ (layAll (pre.map plainCh)).os.length ≤ 20000 ∧ (layAll (pre.map plainCh)).rs.length ≤ 20000 by
      have h1 := HKA.out.2
      have h2 := HLE.out
      omega)
    have HLO2 := Lib.hid hI.lo.size
    have hx0 := okD t2
    have hy0 := okC (fun y h => HOKV.out W hI.lo y (t3 y h))
    have hok1 : ∀ x, z1 = some x → RowOk x.r := fun x h => rows_ok HMA.out x.r (p2 x.r (by subst h; rfl))
    have hok2 : ∀ y, z2 = some y → 1 ≤ y.c.l ∧ y.c.l ≤ 5 ∧ (y.c.now ≠ [] → y.c.now.length = allT y.c.l) := fun y h => HON.out y.c (p3 y.c (by subst h; rfl))
    have hwas : wasOf (z1.map RowV.r) = (z1.getD zeroRV).r.v := by cases z1 <;> rfl
    obtain ⟨m1, hm1⟩ : ∃ x, x = z1.getD zeroRV := ⟨_, rfl⟩
    obtain ⟨m2, hm2⟩ : ∃ x, x = z2.getD zeroCV := ⟨_, rfl⟩
    dsimp only at e1 e2 hx0 hy0
    rw [rowArr_form, ← hm1] at e1
    rw [chArr_form, ← hm2] at e2
    rw [← hm1] at hx0 hwas
    rw [← hm2] at hy0
    rw [rowArr_form, chArr_form, ← hm1, ← hm2]
    have hl1 : m1.r.v.length ≤ 100000 := by
      rw [hm1]
      cases z1 with
      | some x => have := (hok1 x rfl).v; show x.r.v.length ≤ _; rw [this]; unfold allT; split <;> (try split) <;> omega
      | none => show 0 ≤ _; omega
    clear hI t1 t2 t3 p1 p2 p3 hbs hlen
    cases z2 with
    | none =>
      cases z1 with
      | none => exact absurd ⟨rfl, rfl⟩ p4
      | some x =>
        obtain rfl : m1 = x := hm1
        obtain rfl : m2 = zeroCV := hm2
        have hro := hok1 m1 rfl
        have HLA := Lib.hid (show layOf (plainCh (some m1, none)) = [m1.r] from rfl)
        obtain ⟨⟨xl, xa, xb', xv⟩, A, C⟩ := m1
        have HLAY := Lib.hid (lay29 w.heap.size w2.heap.size vb (layAll (pre.map plainCh)) ⟨xl, xa, xb', xv⟩ A C W HBS.out HLO2.out (.inl hx0) hro.l1 hro.l5 hro.v HLN.out)
        have k0 : W.cell? ⟨b2, 0, none⟩ = some (.int .i64 0) := by rw [cell_of_row _ _ _ _ _ _ e2]; rfl
        have HLD := Lib.hid (load_rowD (W := W) (g := b1) (o := 0) (u0 := .int .i64 xl) (u1 := .int .i64 xa) (u2 := .int .i64 xb') (u3 := .slice A xv.length C) (by rw [cell_of_row _ _ _ _ _ _ e1]; rfl) (by rw [cell_of_row _ _ _ _ _ _ e1]; rfl) (by rw [cell_of_row _ _ _ _ _ _ e1]; rfl) (by rw [cell_of_row _ _ _ _ _ _ e1]; rfl))
        clear e1 e2 hx0 hy0 hok1 hok2 hwas hl1 p4 hro
        dsimp only [RowV.cells, ChV.cells, zeroCV] at *
        gi_wp2_with (first
          | ((with_reducible refine atLoadIn (ty := 58) (x := .tmp 7) rfl ?_); refine loadEIn (wanted_noneD rfl) (fun _ _ => trivial) 58 (.tmp 7) rfl _ (.agg #[.int .i64 xl, .int .i64 xa, .int .i64 xb', .slice A xv.length C]) rfl HLD.out ?_)
          | (refine ⟨trivial, ?_⟩; gi_at_call 22; refine (callsIn_wide.2 HLAY.out).mono ?_; rintro e w8 ⟨rfl, ⟨v8, hb8⟩, hk8, hl8, hg8⟩; have HB8 := Lib.hid hb8; have HK8 := Lib.hid hk8; have HL8 := Lib.hid hl8; have HG8 := Lib.hid hg8; clear hb8 hk8 hl8 hg8))
        exact ⟨lay_turns HK8.out HL8.out HG8.out, HI.out.lay HGN.out HLA.out rfl HB8.out HK8.out HL8.out HG8.out⟩
    | some y =>
      obtain rfl : m2 = y := hm2
      have hyl := hok2 m2 rfl
      have HPK := Lib.hid (show pairOkB (plainCh (z1, some m2)) = (m1.r.v == m2.c.was) by rw [← hwas]; rfl)
      have HLA := Lib.hid (show layOf (plainCh (z1, some m2)) = if m2.c.now = [] then [] else [⟨m2.c.l, m2.c.a, m2.c.b, m2.c.now⟩] from rfl)
      generalize hz1 : z1 = z1' at *
      clear hok1 hok2 hwas hm1 hz1 p4
      have HZ := Lib.hid (show ∃ z : PCh, z = (z1', some m2) from ⟨_, rfl⟩)
      obtain ⟨zz, hzz⟩ := HZ.out
      rw [← hzz] at HPK HLA HT1 ⊢
      clear hzz HZ
      obtain ⟨⟨xl, xa, xb', xv⟩, A, C⟩ := m1
      obtain ⟨⟨yl, yaa, yb', yv, yn⟩, B, D, E, G⟩ := m2
      dsimp only [RowV.cells, ChV.cells] at *
      have HYL := Lib.hid hyl
      have g0 : (yl == 0) = false := by rw [beq_eq_false_iff_ne]; omega
      have HEQ := Lib.hid (equalI A B C D xv yv W (ValAt.i64s hx0) hy0.1 hl1)
      have HVN := Lib.hid hy0.2
      obtain ⟨ln, hln⟩ : ∃ n, yn.length = n := ⟨_, rfl⟩
      have HNN := Lib.hid hln
      rw [hln] at e2
      have HE2 := Lib.hid (show W.heap[b2]? = some (.cells #[.int .i64 yl, .int .i64 yaa, .int .i64 yb', .slice B yv.length D, .slice E ln G] 59 (0, 0)) from e2)
      have k0 : W.cell? ⟨b2, 0, none⟩ = some (.int .i64 yl) := by rw [cell_of_row _ _ _ _ _ _ HE2.out]; rfl
      have k3 : W.cell? ⟨b1, 3, none⟩ = some (.slice A xv.length C) := by rw [cell_of_row _ _ _ _ _ _ e1]; rfl
      have j3 : W.cell? ⟨b2, 3, none⟩ = some (.slice B yv.length D) := by rw [cell_of_row _ _ _ _ _ _ HE2.out]; rfl
      rw [hln]
      clear e1 e2 hx0 hy0 hl1 hln hyl
      obtain ⟨rv, hrv⟩ : ∃ r, (xv == yv) = r := ⟨_, rfl⟩
      rw [hrv] at HEQ HPK
      clear hrv
      cases rv with
      | false =>
        gi_wp2_with (first
          | ((with_reducible refine atStoreIn (ty := 27) (x := .tmp 4) (y := .tmp 36) rfl ?_); refine storeRowIn rfl (fun _ _ => trivial) 27 (.tmp 4) (.tmp 36) rfl (w.heap.size + 1) #[.slice none 0 0, .slice none 0 0, .slice none 0 0, .slice none 0 0, .int .i64 0] rfl rfl 27 #[.slice none 0 0, .slice none 0 0, .slice none 0 0, .slice none 0 0, .int .i64 0] HT4.out info27 rfl (by simp [Value.oneCell']) ?_)
          | (refine ⟨trivial, ?_⟩; gi_at_call 23; refine (callsIn_wide.2 HEQ.out).mono ?_; rintro e w8 ⟨rfl, m, hw8⟩; have hb8 : Below W.heap.size W w8 := (by rw [hw8]; exact below_drews m); clear hw8; have HB8 := Lib.hid hb8; have HT4 := Lib.hid ((hb8.block _ (lt_of_blk HI.out.z4)).trans HI.out.z4); obtain ⟨s1, s2, s3, s4, s5⟩ := two_set (m := 7) HT4.out ((hb8.block _ (lt_of_blk HI.out.z5)).trans HI.out.z5) (show (#[.slice none 0 0, .slice none 0 0, .slice none 0 0, .slice none 0 0, .int .i64 0] : Array Value).size = 5 from rfl); have HS3 := Lib.hid s3; have HS4 := Lib.hid s4; have HS5 := Lib.hid s5; clear s3 s4 s5 hb8))
        refine ⟨(TurnsK.below HB8.out).trans (HS5.out.mono ?_), rfl, HS3.out, HS4.out, (HI.out.lo.trans (HB8.out.mono HLO2.out)).trans (two_lo (by omega) (by omega) (Nat.le_trans HLO2.out HB8.out.size) HS5.out), not_all (by have h := HT1.out; rw [List.map_append, List.map_singleton] at h; exact h) HPK.out⟩
        rintro k ob (⟨rfl, cs, rfl⟩ | ⟨rfl, cs, rfl⟩)
        · exact ⟨by omega, .inl ⟨cs, _, rfl, fun _ => .inr rfl⟩⟩
        · exact ⟨by omega, .inr (.inl ⟨rfl, cs, rfl⟩)⟩
      | true =>
        by_cases hn : yn = []
        · have hl0 : ln = 0 := by rw [← HNN.out, hn]; rfl
          have HLA := Lib.hid (HLA.out.trans (if_pos hn))
          have gn : decide ((0 : Int) < (ln : Int)) = false := by simp [hl0]
          have gn2 : ¬ 0 < ln := by omega
          clear hn hl0
          gi_wp2_with (first
            | (refine ⟨trivial, ?_⟩; gi_at_call 23; refine (callsIn_wide.2 HEQ.out).mono ?_; rintro e w8 ⟨rfl, m, hw8⟩; have hb8 : Below W.heap.size W w8 := (by rw [hw8]; exact below_drews m); clear hw8; have HB8 := Lib.hid hb8; have j4 : w8.cell? ⟨b2, 4, none⟩ = some (.slice E ln G) := (by rw [cell_of_row _ _ _ _ _ _ ((hb8.block _ (lt_of_blk HE2.out)).trans HE2.out)]; rfl); clear hb8))
          exact ⟨TurnsK.below HB8.out, HI.out.skip HLA.out HPK.out HB8.out⟩
        · have HLA := Lib.hid (HLA.out.trans (if_neg hn))
          have hl0 : 0 < ln := by rw [← HNN.out]; exact List.length_pos_iff.2 hn
          have gn : decide ((0 : Int) < (ln : Int)) = true := by simp; omega
          have HNE := Lib.hid hn
          clear hn
          gi_wp2_with (first
            | (refine ⟨trivial, ?_⟩; gi_at_call 23; refine (callsIn_wide.2 HEQ.out).mono ?_; rintro e w8 ⟨rfl, m, hw8⟩; have hb8 : Below W.heap.size W w8 := (by rw [hw8]; exact below_drews m); clear hw8; have HB8 := Lib.hid hb8; have HE8 := Lib.hid ((hb8.block _ (lt_of_blk HE2.out)).trans HE2.out); have j4 : w8.cell? ⟨b2, 4, none⟩ = some (.slice E ln G) := (by rw [cell_of_row _ _ _ _ _ _ HE8.out]; rfl); clear hb8))
          have HRN := Lib.hid (RPat.no w.heap.size w2.heap.size (w.heap.size + 1) (w.heap.size + 2))
          have HKE := Lib.hid (fun W' (h : TurnsK (RPat w.heap.size w2.heap.size (w.heap.size + 1) (w.heap.size + 2)) w8 W') => HRN.out.at h HE8.out (by simp))
          have HLAY := Lib.hid (fun w9 (h : Below W.heap.size W w9) => lay29 w.heap.size w2.heap.size vb (layAll (pre.map plainCh)) ⟨yl, yaa, yb', yn⟩ E G w9 (HBS.out.below h) (Nat.le_trans HLO2.out h.size) (HVN.out.below h) HYL.out.1 HYL.out.2.1 (HYL.out.2.2 HNE.out) HLN.out)
          rw [show ({ l := yl, a := yaa, b := yb', v := yn } : RowT).v.length = ln from HNN.out] at HLAY
          clear j4 k0 k3 j3
          refine region_round (S := fun W' => TurnsK (RPat w.heap.size w2.heap.size (w.heap.size + 1) (w.heap.size + 2)) w8 W') (by kernel_rfl) (fun hq => by obtain ⟨_, _, h⟩ := hq; exact h) (by kernel_rfl) ((TurnsK.refl _ _).drew) (fun hS => ?_)
          refine wpAnyH_take (i := 0) (v := .agg #[.int .i64 yl, .int .i64 yaa, .int .i64 yb', .slice B yv.length D, .slice E ln G]) rfl (by kernel_rfl) (by kernel_rfl) (by kernel_rfl) (fun _ _ _ h => h) (yields_atD (by rfl) 59 (.tmp 8) rfl (.pointer (some ⟨b2, 0, none⟩)) _ rfl (fun W' hW => load_chB (HKE.out W' hW))) hS ?_
          simp only [lgT, lgZ, Act.put, lsT, lsZ, lsS]
          refine wpAnyH_take (i := 2) (v := .pointer (some ⟨b2, 4, none⟩)) rfl (by kernel_rfl) (by kernel_rfl) (by kernel_rfl) (fun _ _ _ h => h) (Or.inl ⟨by simp [Region.wanted], fun W _ => by go_simp⟩) hS ?_
          simp only [lgT, lgZ, lgS, Act.put, lsT, lsZ, lsS]
          refine wpAnyH_take (i := 3) (v := .slice E ln G) rfl (by kernel_rfl) (by kernel_rfl) (by kernel_rfl) (fun _ _ _ h => h) (Or.inl ⟨by simp [Region.wanted], fun W hW => by have kc := cell_of_row _ _ 4 _ _ _ (HKE.out W hW); go_simp⟩) hS ?_
          simp only [lgT, lgZ, lgS, Act.put, lsT, lsZ, lsS]
          refine wpAnyH_ready (rs := [1]) (by kernel_rfl) (by simp) ?_
          refine AllReadyH.cons rfl (fun K1 hK1 => ?_) AllReadyH.nil
          refine wanted_go rfl ?_
          simp only [lgT, lgZ, lgS]
          go_wp2_with (go_at_call 24; refine (atCh _ _ _ _ _ _ _ _ _ _).mono ?_; rintro e w9 ⟨rfl, hb9⟩; have HB9 := Lib.hid hb9; clear hb9)
          refine hK1.out _ _ ((hS).trans (TurnsK.below HB9.out)) (fun hS1 => ?_)
          refine wpAnyH_take (i := 4) (v := .agg #[.int .i64 yl, .int .i64 yaa, .int .i64 yb', .slice E ln G]) rfl (by kernel_rfl) (by kernel_rfl) (by kernel_rfl) (fun _ _ _ h => h) (Or.inl ⟨by simp [Region.wanted], fun W _ => by go_simp⟩) hS1 ?_
          simp only [lgT, lgZ, lgS, Act.put, lsT, lsZ, lsS]
          have h89 : Below w8.heap.size w8 w9 := ((Below.refl _ w8).drew).trans HB9.out
          have H9 := Lib.hid (HB8.out.trans (h89.mono HB8.out.size))
          clear h89
          refine wpAnyH_ready (rs := [5]) (by kernel_rfl) (by simp) ?_
          refine AllReadyH.cons rfl (fun K2 hK2 => ?_) AllReadyH.nil
          refine wanted_go rfl ?_
          simp only [lgT, lgZ, lgS]
          go_wp2_with (go_at_call 22; refine (HLAY.out _ H9.out).mono ?_; rintro e w10 ⟨rfl, ⟨v10, hb10⟩, hk8, hl8, hg8⟩; have HB10 := Lib.hid hb10; have HK8 := Lib.hid hk8; have HL8 := Lib.hid hl8; have HG8 := Lib.hid hg8; clear hb10 hk8 hl8 hg8)
          refine hK2.out _ _ ((hS1).trans (lay_turns HK8.out HL8.out HG8.out)) (fun hS2 => ?_)
          refine wpAnyH_done (by kernel_rfl) ?_ _
          gi_wp2
          exact ⟨(TurnsK.below H9.out).trans (lay_turns HK8.out HL8.out HG8.out), HI.out.lay HGN.out HLA.out HPK.out HB10.out ((KeepT.below H9.out).trans HK8.out) ((H9.out.mono HLO2.out).trans HL8.out) ((KeepG.below H9.out).trans HG8.out)⟩
  case done =>
    rintro E zs W hE hf hI hK
    have hok := hI.ok
    obtain ⟨vb, hbs⟩ := hI.bk
    rw [show zs.map plainCh = sideP a (Y.map ChV.c) from hf] at hok hbs
    have kb := HBK.out hok
    have HRR := Lib.hid (HP.out.trans (if_neg (by rw [hok]; decide)))
    obtain ⟨bb, hbb⟩ : ∃ x, layAll (sideP a (Y.map ChV.c)) = x := ⟨_, rfl⟩
    rw [hbb] at hbs kb HRR
    have HMY := Lib.hid (pmay9 vb bb W (hbs.isIn kb) kb)
    have HLB := Lib.hid (fun W' (h : Below W.heap.size W W') => load_book ((h.block _ (lt_of_blk hbs.box)).trans hbs.box : BoxB W' w2.heap.size vb bb))
    have HBS := Lib.hid hbs
    have HKB := Lib.hid kb
    have HZ4 := Lib.hid hI.z4
    have HZ5 := Lib.hid hI.z5
    have HLW := Lib.hid hI.lo
    have HK0 := Lib.hid hK
    have HEE := Lib.hid (Nat.le_trans HW.out.size hE)
    obtain ⟨CB, hCB⟩ : ∃ x, cellsB vb bb = x := ⟨_, rfl⟩
    have hcs : CB.size = 5 := by rw [← hCB]; rfl
    have hone : CB.all (·.oneCell') = true := by rw [← hCB]; simp [cellsB, Value.oneCell']
    rw [hCB] at HMY HLB
    have HCB := Lib.hid hCB
    clear hok hbs kb hbb hI hK hf hE hCB HBK HP HI0 HSQ
    have HNT := Lib.hid (show ∀ ts, 27 ∉ ts → 32 ∉ ts → NoT ts (fun k o => (k = w.heap.size + 1 ∧ ∃ cs, o = .cells cs 27 (0, 0)) ∨ (k = w.heap.size + 2 ∧ ∃ cs, o = .cells cs 32 (0, 0))) from fun ts h1 h2 k cs t fz h => by
      rcases h with ⟨_, cs', h⟩ | ⟨_, cs', h⟩
      · cases h; exact h1
      · cases h; exact h2)
    cases hmt : mayT bb with
    | false =>
      rw [hmt] at HMY
      have HRV := Lib.hid (HRR.out.trans (if_neg (by rw [hmt]; decide)))
      clear hmt hcs hone
      gi_wp2_with (first
        | ((with_reducible refine atLoadIn (ty := 27) (x := .tmp 6) rfl ?_); refine loadEIn (wanted_noneD rfl) (fun _ _ => trivial) 27 (.tmp 6) rfl _ (.agg CB) rfl (HLB.out _ (by first | exact HB9.out | exact Below.refl _ _)) ?_)
        | ((with_reducible refine atStoreIn (ty := 27) (x := .tmp 4) (y := .tmp 51) rfl ?_); refine storeRowIn rfl (fun _ _ => trivial) 27 (.tmp 4) (.tmp 51) rfl (w.heap.size + 1) #[.slice none 0 0, .slice none 0 0, .slice none 0 0, .slice none 0 0, .int .i64 0] rfl rfl 27 #[.slice none 0 0, .slice none 0 0, .slice none 0 0, .slice none 0 0, .int .i64 0] HT4.out info27 rfl (by simp [Value.oneCell']) ?_)
        | (refine ⟨trivial, ?_⟩; gi_at_call 18; refine (callsIn_wide.2 HMY.out).mono ?_; rintro e w9 ⟨rfl, hb9⟩; have HB9 := Lib.hid hb9; have HT4 := Lib.hid ((hb9.block _ (lt_of_blk HZ4.out)).trans HZ4.out); obtain ⟨s1, s2, s3, s4, s5⟩ := two_set (m := 1) (ds := #[.slice none 0 0, .slice none 0 0, .slice none 0 0, .slice none 0 0, .int .i64 0]) HT4.out ((hb9.block _ (lt_of_blk HZ5.out)).trans HZ5.out) (show (#[.slice none 0 0, .slice none 0 0, .slice none 0 0, .slice none 0 0, .int .i64 0] : Array Value).size = 5 from rfl); have HE3 := Lib.hid s3; have HE4 := Lib.hid s4; have HE5 := Lib.hid s5; have HKD := Lib.hid (s5.block _ _ ((hb9.block _ (lt_of_blk HK0.out)).trans HK0.out) (fun h => by rcases h with ⟨_, _, h⟩ | ⟨_, _, h⟩ <;> cases h)); clear s3 s4 s5 hb9))
      refine ⟨by simp, .inl ⟨_, _, rfl, run_takeDeferred HKD.out, ?_⟩⟩
      refine ⟨_, results_cells2 rfl rfl rfl (load_bk ((World.putObj_heap_other (by rintro rfl; have h := HKD.out; rw [HE3.out] at h; cases h)).trans HE3.out) rfl) (load_err ((World.putObj_heap_other (by rintro rfl; have h := HKD.out; rw [HE4.out] at h; cases h)).trans HE4.out)), ?_⟩
      rw [HRV.out]
      exact pat_zero (lo_put ((HLW.out.trans (HB9.out.mono HLW.out.size)).trans (two_lo (by omega) (by omega) (Nat.le_trans HLW.out.size HB9.out.size) HE5.out)) HEE.out HKD.out)
    | true =>
      rw [hmt] at HMY
      have HRV := Lib.hid (HRR.out.trans (if_pos hmt))
      clear hmt
      gi_wp2_with (first
        | ((with_reducible refine atLoadIn (ty := 27) (x := .tmp 6) rfl ?_); refine loadEIn (wanted_noneD rfl) (fun _ _ => trivial) 27 (.tmp 6) rfl _ (.agg CB) rfl (HLB.out _ (by first | exact HB9.out | exact Below.refl _ _)) ?_)
        | ((with_reducible refine atStoreIn (ty := 27) (x := .tmp 4) (y := .tmp 52) rfl ?_); refine storeRowIn rfl (fun _ _ => trivial) 27 (.tmp 4) (.tmp 52) rfl (w.heap.size + 1) CB rfl rfl 27 #[.slice none 0 0, .slice none 0 0, .slice none 0 0, .slice none 0 0, .int .i64 0] HT4.out (by rw [hcs]; exact info27) (by rw [hcs]; rfl) hone ?_)
        | (refine ⟨trivial, ?_⟩; gi_at_call 18; refine (callsIn_wide.2 HMY.out).mono ?_; rintro e w9 ⟨rfl, hb9⟩; have HB9 := Lib.hid hb9; have HT4 := Lib.hid ((hb9.block _ (lt_of_blk HZ4.out)).trans HZ4.out); obtain ⟨s1, s2, s3, s4, s5⟩ := two_set (m := 0) (ds := CB) HT4.out ((hb9.block _ (lt_of_blk HZ5.out)).trans HZ5.out) hcs; have HE3 := Lib.hid s3; have HE4 := Lib.hid s4; have HE5 := Lib.hid s5; have HKD := Lib.hid (s5.block _ _ ((hb9.block _ (lt_of_blk HK0.out)).trans HK0.out) (fun h => by rcases h with ⟨_, _, h⟩ | ⟨_, _, h⟩ <;> cases h)); clear s3 s4 s5 hb9))
      refine ⟨by simp, .inl ⟨_, _, rfl, run_takeDeferred HKD.out, ?_⟩⟩
      refine ⟨_, results_cells2 rfl rfl rfl (load_bk ((World.putObj_heap_other (by rintro rfl; have h := HKD.out; rw [HE3.out] at h; cases h)).trans HE3.out) hcs) (load_err ((World.putObj_heap_other (by rintro rfl; have h := HKD.out; rw [HE4.out] at h; cases h)).trans HE4.out)), ?_⟩
      rw [HRV.out]
      refine ⟨⟨vb, by rw [HCB.out], book_in_turn (HBS.out.below HB9.out) (S := fun k o => ((k = w.heap.size + 1 ∧ ∃ cs, o = .cells cs 27 (0, 0)) ∨ (k = w.heap.size + 2 ∧ ∃ cs, o = .cells cs 32 (0, 0))) ∨ (k = E ∧ o.isCells = false)) ?_ ((HE5.out.mono (fun _ _ => .inl)).putObj HKD.out (.inr ⟨rfl, rfl⟩) _) HKB.out, HBS.out.from'⟩, ?_⟩
      · rintro k cs t fz (h | ⟨_, h⟩)
        · exact HNT.out _ (by decide) (by decide) k cs t fz h
        · cases h
      · exact lo_put ((HLW.out.trans (HB9.out.mono HLW.out.size)).trans (two_lo (by omega) (by omega) (Nat.le_trans HLW.out.size HB9.out.size) HE5.out)) HEE.out HKD.out
  case stop =>
    rintro E c pre W hE hX hK
    obtain ⟨rfl, h4, h5, hlo, hno⟩ := hX
    have HE3 := Lib.hid h4
    have HE4 := Lib.hid h5
    have HKD := Lib.hid hK
    have HLW := Lib.hid hlo
    have HEE := Lib.hid (Nat.le_trans HW.out.size hE)
    have HRV := Lib.hid (HP.out.trans (if_pos hno))
    clear h4 h5 hlo hno hK
    gi_wp2
    refine ⟨by simp, .inl ⟨_, _, rfl, run_takeDeferred HKD.out, ?_⟩⟩
    refine ⟨_, results_cells2 rfl rfl rfl (load_bk ((World.putObj_heap_other (by rintro rfl; have h := HKD.out; rw [HE3.out] at h; cases h)).trans HE3.out) rfl) (load_err ((World.putObj_heap_other (by rintro rfl; have h := HKD.out; rw [HE4.out] at h; cases h)).trans HE4.out)), ?_⟩
    rw [HRV.out]
    exact pat_zero (lo_put HLW.out HEE.out HKD.out)
end Go.Proofs.YtellifcjamedkaaGreat
namespace Go.Proofs.YtellifcjamedkaaGreat
open Go.RowKit Base Base2
theorem eqC_iff {x y : ChT} : (x.l = y.l ∧ x.a = y.a ∧ x.b = y.b ∧ x.was = y.was ∧ x.now = y.now) ↔ x = y :=
  ⟨fun h => ChV.ext_c h.1 h.2.1 h.2.2.1 h.2.2.2.1 h.2.2.2.2, fun h => by subst h; exact ⟨rfl, rfl, rfl, rfl, rfl⟩⟩
set_option maxRecDepth 100000 in
set_option maxHeartbeats 8000000 in
theorem same33 (x y : ChV) (w : World) (hx : I64s w x.a1 x.c.was ∧ I64s w x.a2 x.c.now) (hy : I64s w y.a1 y.c.was ∧ I64s w y.a2 y.c.now) (hl : x.c.was.length ≤ 100000 ∧ x.c.now.length ≤ 100000) (R : Bool) (hR : R = true ↔ x.c = y.c) :
    Calls Tryz.prog 27 #[.agg x.cells.toArray, .agg y.cells.toArray] w fun e w' => e = .returned (.bool R) ∧ Below w.heap.size w w' := by
  have HW := Lib.hid (fun W (h : Below w.heap.size w W) => equalI x.a1 y.a1 x.c1 y.c1 x.c.was y.c.was W (hx.1.below h) (hy.1.below h) hl.1)
  have HN := Lib.hid (fun W (h : Below w.heap.size w W) => equalI x.a2 y.a2 x.c2 y.c2 x.c.now y.c.now W (hx.2.below h) (hy.2.below h) hl.2)
  have HR := Lib.hid (hR.trans eqC_iff.symm)
  clear hR hx hy hl
  obtain ⟨⟨xl, xa, xb, xv, xn⟩, A1, C1, A2, C2⟩ := x
  obtain ⟨⟨yl, ya, yb, yv, yn⟩, B1, D1, B2, D2⟩ := y
  dsimp only [ChV.cells, List.toArray] at HW HN HR ⊢
  obtain ⟨r0, g0⟩ : ∃ r : Bool, (xl == yl) = r := ⟨_, rfl⟩
  obtain ⟨r1, g1⟩ : ∃ r : Bool, (xa == ya) = r := ⟨_, rfl⟩
  obtain ⟨r2, g2⟩ : ∃ r : Bool, (xb == yb) = r := ⟨_, rfl⟩
  obtain ⟨r3, g3⟩ : ∃ r : Bool, (xv == yv) = r := ⟨_, rfl⟩
  obtain ⟨r4, g4⟩ : ∃ r : Bool, (xn == yn) = r := ⟨_, rfl⟩
  rw [g3] at HW
  rw [g4] at HN
  have HP := Lib.hid (show R = (r0 && r1 && r2 && r3 && r4) by
    rw [Bool.eq_iff_iff, HR.out, ← g0, ← g1, ← g2, ← g3, ← g4]
    simp only [Bool.and_eq_true, beq_iff_eq, and_assoc])
  clear HR g3 g4
  obtain ⟨n1, hn1⟩ : ∃ n, xv.length = n := ⟨_, rfl⟩
  obtain ⟨n2, hn2⟩ : ∃ n, xn.length = n := ⟨_, rfl⟩
  obtain ⟨m1, hm1⟩ : ∃ n, yv.length = n := ⟨_, rfl⟩
  obtain ⟨m2, hm2⟩ : ∃ n, yn.length = n := ⟨_, rfl⟩
  rw [hn1, hm1] at HW
  rw [hn2, hm2] at HN
  rw [hn1, hn2, hm1, hm2]
  clear hn1 hn2 hm1 hm2
  have HB := Lib.hid (show Below w.heap.size w ((w.alloc (.cells #[.int .i64 xl, .int .i64 xa, .int .i64 xb, .slice A1 n1 C1, .slice A2 n2 C2] 59)).alloc (.cells #[.int .i64 yl, .int .i64 ya, .int .i64 yb, .slice B1 m1 D1, .slice B2 m2 D2] 59)) from ((Below.refl _ w).alloc (Nat.le_refl _) _).alloc (by simp) _)
  cases r0 with
  | false =>
    go_enter Tryz.func27, Tryz.ntmps27
    go_wp2_with (first | (have hq := H1.out; clear hq; go_at_call 23; refine (HN.out _ H1.out).mono ?_; rintro e w2 ⟨rfl, k, hw2⟩; have H2 := Lib.hid (show Below w.heap.size w w2 by rw [hw2]; exact H1.out.trans ((below_drews k).mono H1.out.size)); clear hw2) | (go_at_call 23; refine (HW.out _ HB.out).mono ?_; rintro e w1 ⟨rfl, j, hw1⟩; have H1 := Lib.hid (show Below w.heap.size w w1 by rw [hw1]; exact HB.out.trans ((below_drews j).mono HB.out.size)); have q4 : w1.cell? ⟨w.heap.size, 4, none⟩ = some (.slice A2 n2 C2) := (by rw [hw1]; show World.cell? ((w.alloc (.cells #[.int .i64 xl, .int .i64 xa, .int .i64 xb, .slice A1 n1 C1, .slice A2 n2 C2] 59)).alloc (.cells #[.int .i64 yl, .int .i64 ya, .int .i64 yb, .slice B1 m1 D1, .slice B2 m2 D2] 59)) _ = _; rw [cell_of_row _ _ _ _ _ _ two_new.1]; rfl); have q5 : w1.cell? ⟨w.heap.size + 1, 4, none⟩ = some (.slice B2 m2 D2) := (by rw [hw1]; show World.cell? ((w.alloc (.cells #[.int .i64 xl, .int .i64 xa, .int .i64 xb, .slice A1 n1 C1, .slice A2 n2 C2] 59)).alloc (.cells #[.int .i64 yl, .int .i64 ya, .int .i64 yb, .slice B1 m1 D1, .slice B2 m2 D2] 59)) _ = _; rw [cell_of_row _ _ _ _ _ _ two_new.2]; rfl); clear hw1))
    go_ret
    exact ⟨ret_bool (by rw [HP.out]; cases r1 <;> cases r2 <;> cases r3 <;> cases r4 <;> rfl), HB.out⟩
  | true =>
    cases r1 with
    | false =>
      go_enter Tryz.func27, Tryz.ntmps27
      go_wp2_with (first | (have hq := H1.out; clear hq; go_at_call 23; refine (HN.out _ H1.out).mono ?_; rintro e w2 ⟨rfl, k, hw2⟩; have H2 := Lib.hid (show Below w.heap.size w w2 by rw [hw2]; exact H1.out.trans ((below_drews k).mono H1.out.size)); clear hw2) | (go_at_call 23; refine (HW.out _ HB.out).mono ?_; rintro e w1 ⟨rfl, j, hw1⟩; have H1 := Lib.hid (show Below w.heap.size w w1 by rw [hw1]; exact HB.out.trans ((below_drews j).mono HB.out.size)); have q4 : w1.cell? ⟨w.heap.size, 4, none⟩ = some (.slice A2 n2 C2) := (by rw [hw1]; show World.cell? ((w.alloc (.cells #[.int .i64 xl, .int .i64 xa, .int .i64 xb, .slice A1 n1 C1, .slice A2 n2 C2] 59)).alloc (.cells #[.int .i64 yl, .int .i64 ya, .int .i64 yb, .slice B1 m1 D1, .slice B2 m2 D2] 59)) _ = _; rw [cell_of_row _ _ _ _ _ _ two_new.1]; rfl); have q5 : w1.cell? ⟨w.heap.size + 1, 4, none⟩ = some (.slice B2 m2 D2) := (by rw [hw1]; show World.cell? ((w.alloc (.cells #[.int .i64 xl, .int .i64 xa, .int .i64 xb, .slice A1 n1 C1, .slice A2 n2 C2] 59)).alloc (.cells #[.int .i64 yl, .int .i64 ya, .int .i64 yb, .slice B1 m1 D1, .slice B2 m2 D2] 59)) _ = _; rw [cell_of_row _ _ _ _ _ _ two_new.2]; rfl); clear hw1))
      go_ret
      exact ⟨ret_bool (by rw [HP.out]; cases r2 <;> cases r3 <;> cases r4 <;> rfl), HB.out⟩
    | true =>
      cases r2 with
      | false =>
        go_enter Tryz.func27, Tryz.ntmps27
        go_wp2_with (first | (have hq := H1.out; clear hq; go_at_call 23; refine (HN.out _ H1.out).mono ?_; rintro e w2 ⟨rfl, k, hw2⟩; have H2 := Lib.hid (show Below w.heap.size w w2 by rw [hw2]; exact H1.out.trans ((below_drews k).mono H1.out.size)); clear hw2) | (go_at_call 23; refine (HW.out _ HB.out).mono ?_; rintro e w1 ⟨rfl, j, hw1⟩; have H1 := Lib.hid (show Below w.heap.size w w1 by rw [hw1]; exact HB.out.trans ((below_drews j).mono HB.out.size)); have q4 : w1.cell? ⟨w.heap.size, 4, none⟩ = some (.slice A2 n2 C2) := (by rw [hw1]; show World.cell? ((w.alloc (.cells #[.int .i64 xl, .int .i64 xa, .int .i64 xb, .slice A1 n1 C1, .slice A2 n2 C2] 59)).alloc (.cells #[.int .i64 yl, .int .i64 ya, .int .i64 yb, .slice B1 m1 D1, .slice B2 m2 D2] 59)) _ = _; rw [cell_of_row _ _ _ _ _ _ two_new.1]; rfl); have q5 : w1.cell? ⟨w.heap.size + 1, 4, none⟩ = some (.slice B2 m2 D2) := (by rw [hw1]; show World.cell? ((w.alloc (.cells #[.int .i64 xl, .int .i64 xa, .int .i64 xb, .slice A1 n1 C1, .slice A2 n2 C2] 59)).alloc (.cells #[.int .i64 yl, .int .i64 ya, .int .i64 yb, .slice B1 m1 D1, .slice B2 m2 D2] 59)) _ = _; rw [cell_of_row _ _ _ _ _ _ two_new.2]; rfl); clear hw1))
        go_ret
        exact ⟨ret_bool (by rw [HP.out]; cases r3 <;> cases r4 <;> rfl), HB.out⟩
      | true =>
        cases r3 with
        | false =>
          go_enter Tryz.func27, Tryz.ntmps27
          go_wp2_with (first | (have hq := H1.out; clear hq; go_at_call 23; refine (HN.out _ H1.out).mono ?_; rintro e w2 ⟨rfl, k, hw2⟩; have H2 := Lib.hid (show Below w.heap.size w w2 by rw [hw2]; exact H1.out.trans ((below_drews k).mono H1.out.size)); clear hw2) | (go_at_call 23; refine (HW.out _ HB.out).mono ?_; rintro e w1 ⟨rfl, j, hw1⟩; have H1 := Lib.hid (show Below w.heap.size w w1 by rw [hw1]; exact HB.out.trans ((below_drews j).mono HB.out.size)); have q4 : w1.cell? ⟨w.heap.size, 4, none⟩ = some (.slice A2 n2 C2) := (by rw [hw1]; show World.cell? ((w.alloc (.cells #[.int .i64 xl, .int .i64 xa, .int .i64 xb, .slice A1 n1 C1, .slice A2 n2 C2] 59)).alloc (.cells #[.int .i64 yl, .int .i64 ya, .int .i64 yb, .slice B1 m1 D1, .slice B2 m2 D2] 59)) _ = _; rw [cell_of_row _ _ _ _ _ _ two_new.1]; rfl); have q5 : w1.cell? ⟨w.heap.size + 1, 4, none⟩ = some (.slice B2 m2 D2) := (by rw [hw1]; show World.cell? ((w.alloc (.cells #[.int .i64 xl, .int .i64 xa, .int .i64 xb, .slice A1 n1 C1, .slice A2 n2 C2] 59)).alloc (.cells #[.int .i64 yl, .int .i64 ya, .int .i64 yb, .slice B1 m1 D1, .slice B2 m2 D2] 59)) _ = _; rw [cell_of_row _ _ _ _ _ _ two_new.2]; rfl); clear hw1))
          go_ret
          exact ⟨ret_bool (by rw [HP.out]; cases r4 <;> rfl), H1.out⟩
        | true =>
          go_enter Tryz.func27, Tryz.ntmps27
          go_wp2_with (first | (have hq := H1.out; clear hq; go_at_call 23; refine (HN.out _ H1.out).mono ?_; rintro e w2 ⟨rfl, k, hw2⟩; have H2 := Lib.hid (show Below w.heap.size w w2 by rw [hw2]; exact H1.out.trans ((below_drews k).mono H1.out.size)); clear hw2) | (go_at_call 23; refine (HW.out _ HB.out).mono ?_; rintro e w1 ⟨rfl, j, hw1⟩; have H1 := Lib.hid (show Below w.heap.size w w1 by rw [hw1]; exact HB.out.trans ((below_drews j).mono HB.out.size)); have q4 : w1.cell? ⟨w.heap.size, 4, none⟩ = some (.slice A2 n2 C2) := (by rw [hw1]; show World.cell? ((w.alloc (.cells #[.int .i64 xl, .int .i64 xa, .int .i64 xb, .slice A1 n1 C1, .slice A2 n2 C2] 59)).alloc (.cells #[.int .i64 yl, .int .i64 ya, .int .i64 yb, .slice B1 m1 D1, .slice B2 m2 D2] 59)) _ = _; rw [cell_of_row _ _ _ _ _ _ two_new.1]; rfl); have q5 : w1.cell? ⟨w.heap.size + 1, 4, none⟩ = some (.slice B2 m2 D2) := (by rw [hw1]; show World.cell? ((w.alloc (.cells #[.int .i64 xl, .int .i64 xa, .int .i64 xb, .slice A1 n1 C1, .slice A2 n2 C2] 59)).alloc (.cells #[.int .i64 yl, .int .i64 ya, .int .i64 yb, .slice B1 m1 D1, .slice B2 m2 D2] 59)) _ = _; rw [cell_of_row _ _ _ _ _ _ two_new.2]; rfl); clear hw1))
          go_ret
          exact ⟨ret_bool (by rw [HP.out]; cases r4 <;> rfl), H2.out⟩
set_option maxRecDepth 100000 in
set_option maxHeartbeats 16000000 in
theorem equalF32 (a u : Option Addr) (p q : Nat) (A B : List ChV) (w : World) (hA : RowsK 59 5 w a (A.map ChV.cells)) (hB : RowsK 59 5 w u (B.map ChV.cells)) (vA : ∀ x ∈ A, I64s w x.a1 x.c.was ∧ I64s w x.a2 x.c.now) (vB : ∀ x ∈ B, I64s w x.a1 x.c.was ∧ I64s w x.a2 x.c.now) (hl : ∀ x ∈ A, x.c.was.length ≤ 100000 ∧ x.c.now.length ≤ 100000) (R : Bool) (hR : R = true ↔ A.map ChV.c = B.map ChV.c) (hm : A.length ≤ 100000) :
    Calls Tryz.prog 26 #[.slice a A.length p, .slice u B.length q, .func (.func 27) #[] #[]] w fun e w' => e = .returned (.bool R) ∧ Below w.heap.size w w' := by
  have HR := Lib.hid hR
  have HLA := Lib.hid (fun (i : Nat) (x : ChV) (hi : A[i]? = some x) => load_chR hA hi)
  have HLB := Lib.hid (fun (i : Nat) (x : ChV) (hi : B[i]? = some x) => load_chR hB hi)
  have HSM := Lib.hid (fun (x y : ChV) (W : World) (hx : x ∈ A) (hy : y ∈ B) (h : Below w.heap.size w W) (r : Bool) (hr : r = true ↔ x.c = y.c) => same33 x y W ⟨(vA x hx).1.below h, (vA x hx).2.below h⟩ ⟨(vB y hy).1.below h, (vB y hy).2.below h⟩ (hl x hx) r hr)
  clear hR hA hB vA vB hl
  obtain ⟨n, hn⟩ : ∃ n, A.length = n := ⟨_, rfl⟩
  obtain ⟨k, hk⟩ : ∃ k, B.length = k := ⟨_, rfl⟩
  have HN := Lib.hid hn
  have HK := Lib.hid hk
  rw [hn] at hm ⊢
  rw [hk]
  clear hn hk
  by_cases hnk : n = k
  case neg =>
    have g1 : ((n : Int) != (k : Int)) = true := by simp; omega
    have HXY := Lib.hid (show R = false by rw [← Bool.not_eq_true, HR.out]; intro e; have h := congrArg List.length e; rw [List.length_map, List.length_map, HN.out, HK.out] at h; exact hnk h)
    go_enter Tryz.func26, Tryz.ntmps26
    go_wp2
    go_ret
    exact ⟨ret_bool HXY.out.symm, Below.refl _ _⟩
  subst hnk
  go_enter Tryz.func26, Tryz.ntmps26
  go_wp2
  go_loopw [17] (fun vi W => ∃ i : Nat, vi = .int .i64 (i : Int) ∧ i ≤ n ∧ (∀ j, j < i → (A[j]?).map ChV.c = (B[j]?).map ChV.c) ∧ Below w.heap.size w W) (fun vi _ => n - (intOf vi).toNat)
  case atStart => exact ⟨0, rfl, Nat.zero_le _, fun j h => absurd h (Nat.not_lt_zero _), Below.refl _ _⟩
  case round =>
    obtain ⟨i, rfl, hi, he, hw⟩ := hrel
    have HE := Lib.hid he
    have HWR := Lib.hid hw
    clear he hw
    by_cases hlt : i < n
    case neg =>
      have HXY := Lib.hid (show R = true by
        rw [HR.out]
        refine List.ext_getElem? fun j => ?_
        rw [List.getElem?_map, List.getElem?_map]
        by_cases hj : j < i
        · exact HE.out j hj
        · rw [List.getElem?_eq_none (by have := HN.out; omega), List.getElem?_eq_none (by have := HK.out; omega)])
      go_wp2
      go_ret
      exact ⟨ret_bool HXY.out.symm, HWR.out⟩
    obtain ⟨x, hx⟩ : ∃ x, A[i]? = some x := ⟨A[i]'(by have := HN.out; omega), by simp [show i < A.length by have := HN.out; omega]⟩
    obtain ⟨y, hy⟩ : ∃ y, B[i]? = some y := ⟨B[i]'(by have := HK.out; omega), by simp [show i < B.length by have := HK.out; omega]⟩
    obtain ⟨g, o, ha, hlx⟩ := HLA.out i x hx
    obtain ⟨g2, o2, hu, hly⟩ := HLB.out i y hy
    subst ha hu
    have HLX := Lib.hid hlx
    have HLY := Lib.hid hly
    clear hlx hly
    obtain ⟨r, hr⟩ : ∃ r : Bool, r = decide (x.c.l = y.c.l ∧ x.c.a = y.c.a ∧ x.c.b = y.c.b ∧ x.c.was = y.c.was ∧ x.c.now = y.c.now) := ⟨_, rfl⟩
    have hrc : r = true ↔ x.c = y.c := by rw [hr, decide_eq_true_eq]; exact eqC_iff
    have HRC := Lib.hid hrc
    have HSX := Lib.hid (fun W h => HSM.out x y W (List.mem_of_getElem? hx) (List.mem_of_getElem? hy) h r hrc)
    have HX := Lib.hid hx
    have HY := Lib.hid hy
    clear hr hrc hx hy
    obtain ⟨⟨xl, xa, xb, xw, xn⟩, X1, c1, X2, c2⟩ := x
    obtain ⟨⟨yl, ya, yb, yw, yn⟩, Y1, d1, Y2, d2⟩ := y
    dsimp only [ChV.cells, List.toArray] at HLX HLY HSX
    obtain ⟨n1, hn1⟩ : ∃ n, xw.length = n := ⟨_, rfl⟩
    obtain ⟨n2, hn2⟩ : ∃ n, xn.length = n := ⟨_, rfl⟩
    obtain ⟨m1, hm1⟩ : ∃ n, yw.length = n := ⟨_, rfl⟩
    obtain ⟨m2, hm2⟩ : ∃ n, yn.length = n := ⟨_, rfl⟩
    rw [hn1, hn2] at HLX HSX
    rw [hm1, hm2] at HLY HSX
    clear hn1 hn2 hm1 hm2
    go_upto_region 6 with (((with_reducible refine atLoad (ty := 59) (x := .tmp 20) rfl ?_); refine loadE (by rfl) 59 (.tmp 20) rfl _ (.agg #[.int .i64 xl, .int .i64 xa, .int .i64 xb, .slice X1 n1 c1, .slice X2 n2 c2]) rfl (HLX.out _ HWR.out) ?_))
    refine at_world (Φ := fun W => W.heap[wr.heap.size]? = some (.cells #[.int .i64 xl, .int .i64 xa, .int .i64 xb, .slice X1 n1 c1, .slice X2 n2 c2] 59 (0, 0)) ∧ Below wr.heap.size wr W ∧ W.heap.size = wr.heap.size + 1) ⟨heap_alloc_new wr _, (Below.refl _ _).alloc (Nat.le_refl _) _, by simp⟩ ?_
    rintro W3 ⟨hb1, hw3, hz3⟩
    have HW3 := Lib.hid (HWR.out.trans (hw3.mono HWR.out.size))
    have HBX1 := Lib.hid hb1
    clear hb1 hw3 hz3
    generalize wr.heap.size = gb at *
    go_upto_region 7 with (((with_reducible refine atLoad (ty := 59) (x := .tmp 24) rfl ?_); refine loadE (by rfl) 59 (.tmp 24) rfl _ (.agg #[.int .i64 yl, .int .i64 ya, .int .i64 yb, .slice Y1 m1 d1, .slice Y2 m2 d2]) rfl (HLY.out _ HW3.out) ?_))
    refine at_world (Φ := fun W => W.heap[W3.heap.size]? = some (.cells #[.int .i64 yl, .int .i64 ya, .int .i64 yb, .slice Y1 m1 d1, .slice Y2 m2 d2] 59 (0, 0)) ∧ W.heap[gb]? = some (.cells #[.int .i64 xl, .int .i64 xa, .int .i64 xb, .slice X1 n1 c1, .slice X2 n2 c2] 59 (0, 0)) ∧ Below W3.heap.size W3 W) ⟨heap_alloc_new W3 _, (Below.heap_alloc _ _ _ (lt_of_blk HBX1.out)).trans HBX1.out, (Below.refl _ _).alloc (Nat.le_refl _) _⟩ ?_
    rintro W4 ⟨hb2, hb1, hw4⟩
    have HW4 := Lib.hid (HW3.out.trans (hw4.mono HW3.out.size))
    have HLB1 := Lib.hid (load_chB hb1)
    have HLB2 := Lib.hid (load_chB hb2)
    clear hb2 hb1 hw4
    generalize W3.heap.size = gc at *
    cases r with
    | false =>
      have HF := Lib.hid (show R = false by
        rw [← Bool.not_eq_true, HR.out]
        intro e
        have h := congrArg (fun l : List ChT => l[i]?) e
        rw [List.getElem?_map, List.getElem?_map, HX.out, HY.out] at h
        exact absurd (HRC.out.2 (Option.some.inj h)) (by decide))
      go_wp2_with (first | ((with_reducible refine atLoad (ty := 59) (x := .tmp 8) rfl ?_); refine loadE (by rfl) 59 (.tmp 8) rfl _ (.agg #[.int .i64 xl, .int .i64 xa, .int .i64 xb, .slice X1 n1 c1, .slice X2 n2 c2]) rfl HLB1.out ?_) | ((with_reducible refine atLoad (ty := 59) (x := .tmp 9) rfl ?_); refine loadE (by rfl) 59 (.tmp 9) rfl _ (.agg #[.int .i64 yl, .int .i64 ya, .int .i64 yb, .slice Y1 m1 d1, .slice Y2 m2 d2]) rfl HLB2.out ?_) | (go_at_call 27; refine (HSX.out _ HW4.out).mono ?_; rintro e w5 ⟨rfl, hb5⟩; have HW5 := Lib.hid (HW4.out.trans (hb5.mono HW4.out.size)); clear hb5))
      go_ret
      exact ⟨ret_bool HF.out.symm, HW5.out⟩
    | true =>
      have HT := Lib.hid (HRC.out.1 rfl)
      go_wp2_with (first | ((with_reducible refine atLoad (ty := 59) (x := .tmp 8) rfl ?_); refine loadE (by rfl) 59 (.tmp 8) rfl _ (.agg #[.int .i64 xl, .int .i64 xa, .int .i64 xb, .slice X1 n1 c1, .slice X2 n2 c2]) rfl HLB1.out ?_) | ((with_reducible refine atLoad (ty := 59) (x := .tmp 9) rfl ?_); refine loadE (by rfl) 59 (.tmp 9) rfl _ (.agg #[.int .i64 yl, .int .i64 ya, .int .i64 yb, .slice Y1 m1 d1, .slice Y2 m2 d2]) rfl HLB2.out ?_) | (go_at_call 27; refine (HSX.out _ HW4.out).mono ?_; rintro e w5 ⟨rfl, hb5⟩; have HW5 := Lib.hid (HW4.out.trans (hb5.mono HW4.out.size)); clear hb5))
      go_roundw
      case rel => exact ⟨i + 1, by go_num, hlt, fun j hj => (Nat.lt_succ_iff_lt_or_eq.1 hj).elim (HE.out j) (fun e => by rw [e, HX.out, HY.out]; show some _ = some _; exact congrArg some HT.out), HW5.out⟩
      case measure => simp [intOf]; omega
set_option maxRecDepth 100000 in
set_option maxHeartbeats 8000000 in
theorem same15 (a u : Option Addr) (p q : Nat) (A B : List ChV) (w : World) (hA : RowsK 59 5 w a (A.map ChV.cells)) (hB : RowsK 59 5 w u (B.map ChV.cells)) (vA : ∀ x ∈ A, I64s w x.a1 x.c.was ∧ I64s w x.a2 x.c.now) (vB : ∀ x ∈ B, I64s w x.a1 x.c.was ∧ I64s w x.a2 x.c.now) (hl : ∀ x ∈ A, x.c.was.length ≤ 100000 ∧ x.c.now.length ≤ 100000) (R : Bool) (hR : R = true ↔ A.map ChV.c = B.map ChV.c) (hm : A.length ≤ 100000) :
    Calls Tryz.prog 11 #[.slice a A.length p, .slice u B.length q] w fun e w' => e = .returned (.bool R) ∧ Below w.heap.size w w' := by
  have HE := Lib.hid (equalF32 a u p q A B w hA hB vA vB hl R hR hm)
  clear hA hB vA vB hl hR hm
  go_enter Tryz.func11, Tryz.ntmps11
  go_wp2_with (go_at_call 26; refine HE.out.mono ?_; rintro e w1 ⟨rfl, hb⟩; have HB := Lib.hid hb; clear hb)
  go_ret
  exact ⟨rfl, HB.out⟩
end Go.Proofs.YtellifcjamedkaaGreat
