/- An account's stakes without their signs, as the program tells them: the contract. -/
import Derived.Test.YtmndkbfjmamnfaaMgP2
namespace Go.Proofs.Ytmndkbfjmamnfaa
open Go.RowKit Go.Shelf Base Base2

attribute [local go_sem] Oper.semAt_some
set_option maxRecDepth 100000 in
set_option maxHeartbeats 8000000 in
theorem sizes_seq (R : Nat → Obj → Prop) (V : World) (v : Slots) (b : BookT) (hb : BookIn V v b) (hk : BookOk 2000 b) (hm : mayT b = true) (hrs : riseL lt1 b.rs = true) (acc : Int) (g g2 : Nat) (w0 : World) (hV : Below V.heap.size V w0) (hg : BoxB w0 g v b) (ha : Boxed w0 g2 2 (.int .i64 acc)) (hR1 : ∀ k o, R k o → V.heap.size ≤ k) (hR2 : NoT [27, 2, 84] R) (hRc : ∀ k o, R k o → o.isCells = true) :
    SeqK Try.prog 52 #[.pointer (some ⟨g, 0, none⟩), .pointer (some ⟨g2, 0, none⟩)] (encZ b) (fun o => o.isCells = false) R (TlA (ofAcc 0 acc b.ss)) (fun xs => xs = ofAcc 0 acc b.ss) w0 := by
  intro l J Jx W hW hl hlr hJ hJx hY h0
  refine (callsIn_wide (n := 10)).1 ?_
  obtain ⟨FULL, hF⟩ : ∃ F, ofAcc 0 acc b.ss = F := ⟨_, rfl⟩
  have HF := Lib.hid hF
  rw [hF] at hY ⊢
  have hll : l < W.heap.size := by obtain ⟨r, hr⟩ := hlr; exact blk_ltK hr
  have HVW := Lib.hid (hV.trans (hW.mono hV.size))
  have hgW : BoxB W g v b := (hW.block g (blk_ltK hg)).trans hg
  have haW : Boxed W g2 2 (.int .i64 acc) := (hW.block g2 ha.lt).trans ha
  have HY := Lib.hid (show YieldA (encZ b) l R FULL J Jx from hY)
  have HJ := Lib.hid hJ
  have HJX := Lib.hid hJx
  have HK := Lib.hid hk
  have HM := Lib.hid hm
  have HRC := Lib.hid hRc
  have HR2 := Lib.hid hR2
  have HSQ := Lib.hid (fun (w2 : World) (h : Below V.heap.size V w2) (p q : Nat) (h1 : BoxB w2 p v b) (h2 : Boxed w2 q 2 (.int .i64 acc)) => show SeqK Try.prog 49 #[.pointer (some ⟨p, 0, none⟩), .pointer (some ⟨q, 0, none⟩)] (encS b) (fun _ => False) (TLR l R) (TlA FULL) (fun xs => xs = FULL) w2 from by
    rw [← hF]
    exact stakes_seq (TLR l R) V v b hb hk hrs acc p q w2 h h1 h2 (fun k o a => by rcases a with ⟨a, _⟩ | a; (have := hV.size; omega); exact hR1 k o a) ((hR2.sub (by simp)).tlr l))
  have HST := Lib.hid (fun W => stakes24 v b acc W)
  obtain ⟨w1, hw1⟩ : ∃ x, W.alloc (.cells #[.func (.yield l) #[] #[]] 84) = x := ⟨_, rfl⟩
  have hb1 : Below W.heap.size W w1 := by rw [← hw1]; exact (Below.refl _ _).alloc (Nat.le_refl _) _
  have hx1 : Boxed w1 W.heap.size 84 (.func (.yield l) #[] #[]) := by rw [← hw1]; exact heap_alloc_new W _
  have hs1 : w1.heap.size = W.heap.size + 1 := by rw [← hw1]; simp
  have HLB := Lib.hid (load_book ((hb1.block g (blk_ltK hgW)).trans hgW))
  have hca : Boxed w1 g2 2 (.int .i64 acc) := (hb1.block g2 haW.lt).trans haW
  have HCA := Lib.hid hca.cell
  have HB1 := Lib.hid hb1
  have HX1 := Lib.hid hx1
  have HS1 := Lib.hid hs1
  have HW1 := Lib.hid hw1
  have H0 := Lib.hid h0
  have HRS := Lib.hid (rate_nn hm)
  have HRI := Lib.hid (fun s => rate_in hk.rs s)
  clear hW hl hlr hJ hJx hY h0 hg ha hgW haW hb hk hm hrs hV hR1 hR2 hRc hF hb1 hx1 hs1 hw1 hca
  generalize hCC : cellsB v b = CA at *
  have HCC := Lib.hid hCC
  clear hCC
  refine callsIn_of_wp_marks Try.func52 rfl trivial ?_ rfl
  simp only [Try.ntmps52, List.size_toArray, List.length_cons, List.length_nil, Nat.reduceAdd, Nat.reduceSub, Array.replicate_succ, Array.replicate_zero, List.push_toArray, List.append_toArray, List.nil_append, List.cons_append]
  have ca := HCA.out
  rw [← HW1.out] at ca
  gi_wp2_with (first
    | ((with_reducible refine atLoadIn (ty := 27) (x := .tmp 1) rfl ?_); rw [HW1.out]; have ca2 := HCA.out; refine loadEIn (wanted_noneD rfl) (fun _ _ => trivial) 27 (.tmp 1) rfl _ (.agg CA) rfl HLB.out ?_)
    | (refine ⟨trivial, ?_⟩; gi_at_call 24; refine (callsIn_wide.2 (HST.out _)).mono ?_; rintro e w2 ⟨rfl, hw2⟩; have HW2 := Lib.hid hw2; clear hw2))
  clear ca ca2 HCA HLB HST HW1
  have h12 : Below w1.heap.size w1 w2 := by rw [HW2.out]; exact ((Below.refl _ _).alloc (Nat.le_refl _) _).alloc (by simp) _
  have hbk2 : BoxB w2 w1.heap.size v b := by unfold BoxB; rw [HCC.out, HW2.out]; exact two_new.1
  have hac2 : Boxed w2 (w1.heap.size + 1) 2 (.int .i64 acc) := by rw [HW2.out]; exact two_new.2
  have hz := HB1.out.size
  have hz2 := h12.size
  have hV2 : Below V.heap.size V w2 := (HVW.out.trans (HB1.out.mono HVW.out.size)).trans (h12.mono (by have := HVW.out.size; omega))
  have hx2 : Boxed w2 W.heap.size 84 (.func (.yield l) #[] #[]) := (h12.block _ HX1.out.lt).trans HX1.out
  have HSE := Lib.hid (HSQ.out w2 hV2 _ _ hbk2 hac2)
  have HX2 := Lib.hid hx2
  have HJ2 := Lib.hid (HJ.out.below H0.out (HB1.out.trans (h12.mono hz)))
  clear hbk2 hac2 hV2 hx2 HSQ H0 HX1 HB1 h12
  refine range_kinds (gf := 49) (lb := #[.pointer (some ⟨w1.heap.size, 0, none⟩), .pointer (some ⟨w1.heap.size + 1, 0, none⟩)]) (w := w2) rfl (enters_of Try.func49 (by kernel_rfl) rfl) HSE.out ?hrc (Below.refl _ _) (fun _ => rfl)
    (fun pre W' => J pre W' ∧ Boxed W' W.heap.size 84 (.func (.yield l) #[] #[])) (fun c pre W' => c = Code.ret ∧ Jx pre W') ?bi ?bx ?h0
    (fun pre x a' W' => TlA FULL pre x W' ∧ (J pre W' ∧ Boxed W' W.heap.size 84 (.func (.yield l) #[] #[])) ∧ a' = ⟨#[.func (.yield l) #[] #[], .pointer (some ⟨g, 0, none⟩), .pointer (some ⟨g2, 0, none⟩), .pointer (some ⟨W.heap.size, 0, none⟩), .int .i64 (key 2 x), .int .i64 (rateOf b (key 1 x)), .agg CA, .int .i64 acc, .func (.func 49) #[] #[.pointer (some ⟨w1.heap.size, 0, none⟩), .pointer (some ⟨w1.heap.size + 1, 0, none⟩)], .int .i64 (key 2 x), .int .i64 (rateOf b (key 1 x)), undef, undef, undef, undef, undef, undef, undef, undef, undef], []⟩) ?bax ?assign ?body ?done ?stop
  case hrc =>
    rintro k o (⟨rfl, _⟩ | h)
    · exact .inr (by omega)
    · exact .inl (HRC.out k o h)
  case bi =>
    rintro pre A B ⟨h1, h2⟩ ht
    exact ⟨HJ.out _ _ _ h1 (ht.mono fun k o h => ⟨by omega, h.2.elim False.elim id⟩), boxed_turn h2 (not_cells (fun k o h => h.2.elim False.elim id)) ht⟩
  case bx =>
    rintro c pre A B ⟨hc, h⟩ ht
    exact ⟨hc, HJX.out _ _ _ h (ht.mono fun k o h => ⟨by omega, h.2.elim False.elim id⟩)⟩
  case h0 => exact ⟨HJ2.out, HX2.out⟩
  case bax =>
    rintro pre x a' s A B ⟨h0, ⟨h1, h2⟩, h3⟩ ht
    exact ⟨h0, ⟨HJ.out _ _ _ h1 (ht.mono fun k o h => ⟨by omega, h.2⟩), boxed_turn h2 (not_cells (fun k o h => h.2)) ht⟩, h3⟩
  case assign =>
    rintro lo pre x W2 K2 hI htl hK
    have HKK := Lib.hid (hK _ _ (TurnsK.refl _ _) ⟨htl, hI, rfl⟩)
    clear hK hI htl
    dsimp only [encS]
    gi_wp2
    exact HKK.out
  case body =>
    rintro lo pre x a' W2 ⟨htl, ⟨hj, hbx⟩, rfl⟩
    have hr1 := HRS.out (key 1 x)
    have hr2 := HRI.out (key 1 x)
    unfold In64' at hr2
    obtain ⟨fn, tmps, assign, body, hy, hRd⟩ := HY.out pre x W2 hj htl
    replace hy : (Instr.yield l #[.int .i64 (key 2 x), .int .i64 (atW b x)]).run Try.prog W2 = .ok (.round l fn tmps assign body) W2 := hy
    have HBX := Lib.hid hbx
    have cy := hbx.cell
    have hat : atW b x = if key 2 x < 0 then -rateOf b (key 1 x) else rateOf b (key 1 x) := rfl
    have HNT := Lib.hid (show NoT [84] (TLR l R) from (HR2.out.sub (by simp)).tlr l)
    clear hj htl hbx
    rw [hat] at hy
    clear hat
    generalize rateOf b (key 1 x) = rt at *
    generalize hq : key 2 x = q at *
    clear hq
    by_cases hq : q < 0
    · rw [if_pos hq] at hy
      gi_wp2
      refine (roundIn_any hRd).mono ?_
      rintro e W6 ⟨⟨rfl, hj6⟩ | ⟨rfl, hjx6⟩, ht6⟩
      · have HE6 := Lib.hid (And.intro ht6 (And.intro hj6 (boxed_turn HBX.out HNT.out ht6)))
        clear hj6 ht6 hy hRd cy
        gi_wp2
        exact ⟨HE6.out.1, HE6.out.2⟩
      · have HE6 := Lib.hid (And.intro ht6 hjx6)
        clear hjx6 ht6 hy hRd cy
        gi_wp2
        exact ⟨HE6.out.1, rfl, HE6.out.2⟩
    · rw [if_neg hq] at hy
      gi_wp2
      refine (roundIn_any hRd).mono ?_
      rintro e W6 ⟨⟨rfl, hj6⟩ | ⟨rfl, hjx6⟩, ht6⟩
      · have HE6 := Lib.hid (And.intro ht6 (And.intro hj6 (boxed_turn HBX.out HNT.out ht6)))
        clear hj6 ht6 hy hRd cy
        gi_wp2
        exact ⟨HE6.out.1, HE6.out.2⟩
      · have HE6 := Lib.hid (And.intro ht6 hjx6)
        clear hjx6 ht6 hy hRd cy
        gi_wp2
        exact ⟨HE6.out.1, rfl, HE6.out.2⟩
  case done =>
    rintro D xs W5 hD hf ⟨hj, _⟩ hK
    have hput : TurnsK (fun k o => W.heap.size ≤ k ∧ o.isCells = false) W5 (W5.putObj D (.deferred none)) := (TurnsK.refl _ _).putObj hK ⟨by omega, rfl⟩ _
    have HJ6 := Lib.hid (HJ.out _ _ _ hj hput)
    have HKD := Lib.hid hK
    have HFF := Lib.hid hf
    clear hj hput hK hf
    gi_wp2
    refine ⟨by simp, .inl ⟨_, _, rfl, run_takeDeferred HKD.out, ?_⟩⟩
    exact ⟨_, results_none rfl _ _ _, ⟨_, rfl⟩, .inl ⟨_, HFF.out, HJ6.out⟩⟩
  case stop =>
    rintro D c pre W5 hD ⟨rfl, hj⟩ hK
    have hput : TurnsK (fun k o => W.heap.size ≤ k ∧ o.isCells = false) W5 (W5.putObj D (.deferred none)) := (TurnsK.refl _ _).putObj hK ⟨by omega, rfl⟩ _
    have HJ6 := Lib.hid (HJX.out _ _ _ hj hput)
    have HKD := Lib.hid hK
    clear hj hput hK
    gi_wp2
    refine ⟨by simp, .inl ⟨_, _, rfl, run_takeDeferred HKD.out, ?_⟩⟩
    exact ⟨_, results_none rfl _ _ _, ⟨_, rfl⟩, .inr ⟨_, HJ6.out⟩⟩
end Go.Proofs.Ytmndkbfjmamnfaa
