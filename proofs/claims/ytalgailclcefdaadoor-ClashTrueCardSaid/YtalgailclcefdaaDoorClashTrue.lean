/- The law ClashTrue: for any two rows of texts, any number and either kind it returns true: either they are alike, or two texts are told that are unlike and have one digest. Condition: the program's table of constants holds what its text says (a tied card). -/
import Derived.Test.YtalgailclcefdaaDoorClashTrueI
import Derived.Test.YtalgailclcefdaaDoorShaLaid
namespace Go.Proofs.YtalgailclcefdaaDoor.clashTrue
open Go.ChangeShapes Go.WideShapes Go.ChangeAt Go.RowKit Go.Lib

theorem laidOut : laidOutB Tryd.prog = true := by kernel_rfl
theorem cellsS : Tryd.prog.cellsOf 9 = 1 := by kernel_rfl
theorem witness_row (os : Os) {H : Type} (enc : TypeId × Value → H) :
    (OpenSpec.ofChange Rows.clashTrueSpec).preRow enc Tryd.prog Tryd.f5 Rows.clashTrueRow.domain false Rows.clashTrueRow.laid ((laidWorld os).forCall (fun _ _ => 0) ⟨#[], #[.slice none 0 0, .slice none 0 0, .int .u8 0, .bool false], []⟩).memory #[.slice none 0 0, .slice none 0 0, .int .u8 0, .bool false] := by
  have hw : (DataW.whole enc Tryd.prog ((laidWorld os).forCall (fun _ _ => 0) ⟨#[], #[.slice none 0 0, .slice none 0 0, .int .u8 0, .bool false], []⟩).memory Tryd.f5.params.toList (OpenSpec.ofChange Rows.clashTrueSpec).vars false #[Value.slice none 0 0, .slice none 0 0, .int .u8 0, .bool false].toList 8).map (fun x => (x.1, x.2.1)) =
      some ([.nil, .nil, .lit (.int .u8 0), .lit (.bool false)], []) := by kernel_rfl
  obtain ⟨⟨x1, x2, x3⟩, hx, hx1⟩ := Option.map_eq_some_iff.1 hw
  simp only [Prod.mk.injEq] at hx1
  obtain ⟨rfl, rfl⟩ := hx1
  exact OpenSpec.preRow_of_cond 8 hx (by kernel_rfl) (fun k hk => by cases hk) (by kernel_rfl) (laid_met os _)

set_option maxRecDepth 100000 in
set_option maxHeartbeats 2000000 in
theorem lifted (os : Os) (started : os.Started) (H : Type) (enc : TypeId × Value → H) (F : Stop.Interp) :
    ReturnsInHanded {} Tryd.checked os 5 .any ((OpenSpec.ofChange Rows.clashTrueSpec).preRow enc Tryd.prog Tryd.f5 Rows.clashTrueRow.domain false Rows.clashTrueRow.laid) (((OpenSpec.ofChange Rows.clashTrueSpec).at F).post enc Tryd.prog Tryd.f5 false true false false) := by
  refine returnsInHanded_of_row (C := Tryd.checked) (s := OpenSpec.ofChange Rows.clashTrueSpec) ownK started (by kernel_rfl) Tryd.func5
    (witness_row_atRef (enc := enc) (C := Tryd.checked) false (laidWorld os) #[.slice none 0 0, .slice none 0 0, .int .u8 0, .bool false] rfl (by kernel_rfl) (by kernel_rfl) (by kernel_rfl) (witness_row os enc)) ?_
  intro W base args ds gs before hval0 hW hcnd0 _ _ hL _ _
  have hval : ∀ (j : Nat) t v, Tryd.f5.params[j]? = some t → args[j]? = some v → Value.okWide Tryd.prog W .any base t v := hval0
  have hW' := hW
  obtain ⟨p, q, hA0, hV0, rfl, _, _⟩ := hW
  have hA : DataW.TrodAll enc Tryd.prog W 0 (fun _ => true) true Tryd.f5.params.toList args.toList ds p := hA0
  rw [Tryd.params5] at hA hval
  obtain ⟨v0, vs0, d0, ds0, p0, q0, hargs, rfl, rfl, h0, r0⟩ := trodAll_cons hA
  obtain ⟨v1, vs1, d1, ds1, p1, q1, rfl, rfl, rfl, h1, r1⟩ := trodAll_cons r0
  obtain ⟨v2, vs2, d2, ds2, p2, q2, rfl, rfl, rfl, h2, r2⟩ := trodAll_cons r1
  obtain ⟨v3, vs3, d3, ds3, p3, q3, rfl, rfl, rfl, h3, r3⟩ := trodAll_cons r2
  obtain ⟨rfl, rfl, rfl⟩ := trodAll_nil r3
  obtain rfl : args = #[v0, v1, v2, v3] := by cases args; simp_all
  obtain ⟨rfl, rfl⟩ := trodVars_none hV0
  obtain ⟨a0, len0, cap0, rfl⟩ := okWide_slice Tryd.underlying22 (hval 0 22 v0 rfl rfl)
  have k0 := h0
  have lt0 : ∀ x ∈ p0, x.block < W.heap.size := by obtain ⟨m, hm⟩ := k0; exact DataW.trod_lt m _ _ _ hm
  have w0 : ∃ l : List ByteArray, l.length = len0 ∧ StrsAt W a0 l ∧ len0 ≤ maxLen ∧ len0 ≤ cap0 := by
    obtain ⟨fuel, hf⟩ := h0
    rcases Go.Deep.open_strs Tryd.underlying22 Tryd.underlying9 cellsS hf with ⟨hcs, _⟩ | ⟨x, l, c, m, Sx, hcs, _, hl, hm, hmm, _, hcells⟩
    · simp [Value.cells] at hcs
      obtain ⟨rfl, rfl, rfl⟩ := hcs
      exact ⟨[], rfl, .inl rfl, by unfold maxLen; omega, Nat.le_refl _⟩
    · simp [Value.cells] at hcs
      obtain ⟨rfl, rfl, rfl⟩ := hcs
      refine ⟨(List.range len0).map Sx, by simp, ?_, by omega, hl⟩
      by_cases h00 : len0 = 0
      · subst h00; exact .inl rfl
      · have hlm : len0 ≤ m := by rw [hmm]; split <;> omega
        obtain ⟨b, off, spot⟩ := x
        have hspot : spot = none := by
          have h := World.cell?_spot (hcells 0 (by omega)).1
          simpa [Addr.add] using h
        subst hspot
        refine .inr ⟨b, off, rfl, ?_, fun i t hi => ?_⟩
        · have h := (hcells 0 (by omega)).1
          rw [Addr.add_mid] at h
          exact World.block_lt_of_cell? W _ h
        · have hin : i < len0 := by simpa using (List.getElem?_eq_some_iff.1 hi).1
          have h := (hcells i (by omega)).1
          rw [Addr.add_mid] at h
          simp [hin] at hi
          rw [h, hi]
  obtain ⟨l0, hl0, hr0, hm0, hc0⟩ := w0
  obtain ⟨a1, len1, cap1, rfl⟩ := okWide_slice Tryd.underlying22 (hval 1 22 v1 rfl rfl)
  have k1 := h1
  have lt1 : ∀ x ∈ p1, x.block < W.heap.size := by obtain ⟨m, hm⟩ := k1; exact DataW.trod_lt m _ _ _ hm
  have w1 : ∃ l : List ByteArray, l.length = len1 ∧ StrsAt W a1 l ∧ len1 ≤ maxLen ∧ len1 ≤ cap1 := by
    obtain ⟨fuel, hf⟩ := h1
    rcases Go.Deep.open_strs Tryd.underlying22 Tryd.underlying9 cellsS hf with ⟨hcs, _⟩ | ⟨x, l, c, m, Sx, hcs, _, hl, hm, hmm, _, hcells⟩
    · simp [Value.cells] at hcs
      obtain ⟨rfl, rfl, rfl⟩ := hcs
      exact ⟨[], rfl, .inl rfl, by unfold maxLen; omega, Nat.le_refl _⟩
    · simp [Value.cells] at hcs
      obtain ⟨rfl, rfl, rfl⟩ := hcs
      refine ⟨(List.range len1).map Sx, by simp, ?_, by omega, hl⟩
      by_cases h00 : len1 = 0
      · subst h00; exact .inl rfl
      · have hlm : len1 ≤ m := by rw [hmm]; split <;> omega
        obtain ⟨b, off, spot⟩ := x
        have hspot : spot = none := by
          have h := World.cell?_spot (hcells 0 (by omega)).1
          simpa [Addr.add] using h
        subst hspot
        refine .inr ⟨b, off, rfl, ?_, fun i t hi => ?_⟩
        · have h := (hcells 0 (by omega)).1
          rw [Addr.add_mid] at h
          exact World.block_lt_of_cell? W _ h
        · have hin : i < len1 := by simpa using (List.getElem?_eq_some_iff.1 hi).1
          have h := (hcells i (by omega)).1
          rw [Addr.add_mid] at h
          simp [hin] at hi
          rw [h, hi]
  obtain ⟨l1, hl1, hr1, hm1, hc1⟩ := w1
  obtain ⟨s2, rfl, rfl, rfl, w2⟩ := open_int Tryd.underlying5 (hval 2 5 v2 rfl rfl) h2
  obtain ⟨s3, rfl, rfl, rfl⟩ := open_bool1 Tryd.underlying4 (hval 3 4 v3 rfl rfl) h3
  clear hA0 hV0 hval0
  simp only [List.append_nil] at hW'
  refine (walk5i a0 a1 len0 len1 cap0 cap1 l0 l1 s2 s3 W w2 hl0 hl1 hr0 hr1 hm0 hm1 hc0 hc1 (held_of_laid hL)).mono ?_
  rintro e W' ⟨rfl, hg⟩
  exact ⟨_, rfl, _, _, _, [], _, [], hW', trodAll_cons_mk (shut_bool Tryd.underlying4 _) trodAll_mk0, (trodAll_cons_mk (Below.trod laidOut (by kernel_rfl) (of_decide_eq_true (by kernel_rfl)) k0 hg lt0) (trodAll_cons_mk (Below.trod laidOut (by kernel_rfl) (of_decide_eq_true (by kernel_rfl)) k1 hg lt1) (trodAll_cons_mk (shut_int Tryd.underlying5 w2) (trodAll_cons_mk (shut_bool Tryd.underlying4 _) trodAll_mk0)))), rfl, hg.frame _, fun h => by cases h⟩

theorem holds : Rows.ClashTrueSaid :=
  OpenClaim.holds_of_cond 5 Tryd.f5 rfl rfl rfl rfl rfl rfl rfl ⟨rfl, rfl, rfl, rfl, rfl⟩ rfl rfl rfl rfl rfl (by kernel_rfl) Tryd.func5 (by kernel_rfl)
    (of_decide_eq_true (by kernel_rfl)) (by unfold Func.isWrapper; first | (rw [if_pos (by decide +kernel)]; kernel_rfl) | (rw [if_neg (of_decide_eq_false (by kernel_rfl))]; exact ⟨rfl, rfl⟩))
    (fun os started H enc _ F0 => by rw [OpenClaim.pre_eq_preRow]; exact lifted os started H enc F0)

/-- The card: the table tied to the program's text. -/
theorem card_holds : Rows.ClashTrueCardSaid :=
  Claim7.holds_tied_plain_at .later [] [.data] true (true, "2b0b2df5c5a2c078a427b390e310d62581c150ca0d48e0e2a6837c813dc5b701") false
    holds (fun _ h => by cases h) (by kernel_rfl) (fun _ h => by cases h) clashTrue_row_tie rfl ⟨rfl, rfl⟩ (by kernel_rfl) rfl
    (fun f fn hf hfn => by
      obtain rfl : f = 5 := Option.some.inj ((show Tryd.prog.funcNamed "engross/engrosslaw04.ClashTrue" = some 5 by kernel_rfl).symm.trans hf) |>.symm
      obtain rfl : fn = Tryd.f5 := (Option.some.inj (Tryd.func5.symm.trans hfn)).symm
      exact ⟨by kernel_rfl, fun j t ht => by
        rw [Tryd.params5] at ht
        have h3 : t = 22 ∨ t = 5 ∨ t = 4 := by
          rcases j with _ | _ | _ | _ | j
          · left; simpa using ht.symm
          · left; simpa using ht.symm
          · right; left; simpa using ht.symm
          · right; right; simpa using ht.symm
          · simp at ht
        rcases h3 with rfl | rfl | rfl
        · exact (show Tryd.prog.wantsStandIn 22 = false by kernel_rfl)
        · exact (show Tryd.prog.wantsStandIn 5 = false by kernel_rfl)
        · exact (show Tryd.prog.wantsStandIn 4 = false by kernel_rfl)⟩)
    (by kernel_rfl)
#print axioms card_holds
end Go.Proofs.YtalgailclcefdaaDoor.clashTrue
