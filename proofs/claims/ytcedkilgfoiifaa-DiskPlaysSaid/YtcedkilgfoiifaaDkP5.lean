/- The program's size and May; a copy of a row of bytes. -/
import Derived.Test.YtcedkilgfoiifaaDkP4
import Derived.ArgAppend
import Derived.Lib.SliceRun
namespace Go.Proofs.Ytcedkilgfoiifaa
open Go.RowKit Base Base2

theorem load_f {W : World} {b o : Nat} {x y : ByteArray} (h0 : W.cell? ⟨b, o, none⟩ = some (.string x)) (h1 : W.cell? ⟨b, o + 1, none⟩ = some (.string y)) : (Instr.loadAt 58 (.pointer (some ⟨b, o, none⟩))).run Try.prog W = .ok (.agg #[.string x, .string y]) W := by
  refine load_at (P := Try.prog) W b o 58 [.string x, .string y] _ (fun j v hj => ?_) Try.underlying58 rfl (by kernel_rfl)
  match j, hj with
  | 0, hj => simp at hj; subst hj; exact h0
  | 1, hj => simp at hj; subst hj; exact h1

set_option maxRecDepth 100000 in
set_option maxHeartbeats 2000000 in
theorem size32 (a : Option Addr) (l : List FileT) (cap : Nat) (w : World) (hr : FilesAt w a l) (hm : l.length ≤ maxLen) (hu : usedF l ≤ 1000000000000) :
    Calls Try.prog 32 #[.slice a l.length cap] w fun e w' => e = .returned (.int .i64 (usedF l : Int)) ∧ Below w.heap.size w w' := by
  unfold maxLen at hm
  obtain ⟨RES, hR⟩ : ∃ R, usedF l = R := ⟨_, rfl⟩
  rw [hR]
  have HR := Lib.hid hR
  have HU := Lib.hid (fun i => usedF_take_le l i)
  go_enter Try.func32, Try.ntmps32
  go_wp2
  go_loopw [3, 8] (fun vn vi W => ∃ i : Nat, i ≤ l.length ∧ vn = .int .i64 (usedF (l.take i) : Int) ∧ vi = .int .i64 (i : Int) ∧ Below w.heap.size w W) (fun _ vi _ => l.length - (intOf vi).toNat)
  case atStart => exact ⟨0, by omega, rfl, rfl, Below.refl _ _⟩
  case round =>
    obtain ⟨i, hi, rfl, rfl, hbel⟩ := hrel
    by_cases hlt : i < l.length
    · obtain ⟨b, off, rfl, hbw, hcells⟩ := hr.some (by omega)
      obtain ⟨f, hf⟩ : ∃ f, l[i]? = Option.some f := ⟨l[i], by simp [hlt]⟩
      have c0 := (hbel.cell (p := ⟨b, off + i * 2, none⟩) hbw).trans (hcells i f hf).1
      have c1 := (hbel.cell (p := ⟨b, off + i * 2 + 1, none⟩) hbw).trans (hcells i f hf).2
      have ht := usedF_take l i f hf
      have h1 := HU.out i
      have h2 := HU.out (i + 1)
      rw [hR] at h1 h2 hu
      obtain ⟨s0, hs0⟩ : ∃ z, usedF (l.take i) = z := ⟨_, rfl⟩
      obtain ⟨s1, hs1⟩ : ∃ z, usedF (l.take (i + 1)) = z := ⟨_, rfl⟩
      rw [hs0] at ht h1 ⊢
      rw [hs1] at ht h2
      have HS1 := Lib.hid hs1
      obtain ⟨fn, fb⟩ := f
      dsimp only at c0 c1 ht
      have HT := Lib.hid ht
      have HB := Lib.hid hbel
      have hfb : fb.size ≤ 1000000000000 := by omega
      clear hcells hf hs0 hs1 hr hR ht hbel
      go_wp2
      go_roundw
      case rel => exact ⟨i + 1, by omega, by rw [HS1.out, HT.out]; go_num, by go_num, HB.out.alloc HB.out.size _⟩
      case measure => simp [intOf]; omega
    · have hie : i = l.length := by omega
      subst hie
      rw [List.take_length, hR]
      have HB := Lib.hid hbel
      clear hr hR hbel
      go_wp2
      go_ret
      exact ⟨rfl, HB.out⟩
def lastN (l : List FileT) (i : Nat) : ByteArray := if i = 0 then ⟨#[]⟩ else nameAt l (i - 1)
theorem toList_ne {a b : ByteArray} (h : a ≠ b) : (a.toList == b.toList) = false := by
  rw [beq_eq_false_iff_ne]
  intro e
  rw [ByteArray.toList_eq, ByteArray.toList_eq] at e
  exact h (ByteArray.ext (Array.toList_inj.1 e))
theorem lastN_next {l : List FileT} {i : Nat} {f : FileT} (h : l[i]? = some f) : lastN l (i + 1) = f.1 := by
  unfold lastN; rw [if_neg (by omega), Nat.add_sub_cancel, nameAt_at h]
theorem ltB_empty {s : ByteArray} (h : s.size ≠ 0) : ltB ⟨#[]⟩ s = true := by
  unfold ltB
  have h2 := (not_emptyD h).2
  cases hs : s.toList with
  | nil => rw [hs] at h2; simp at h2
  | cons x l => simp [Op.bytesLess]
theorem named_size {s : ByteArray} (h : namedS s = true) : 1 ≤ s.size ∧ s.size ≤ 16 := by
  unfold namedS at h
  simp only [Bool.and_eq_true, decide_eq_true_eq] at h
  omega
theorem okAt_last {l : List FileT} {i : Nat} {f : FileT} (h : l[i]? = some f) (hn : namedS f.1 = true) : okAt l i = (decide (f.2.size ≠ 0) && ltB (lastN l i) f.1) := by
  rw [okAt_at h, hn, Bool.true_and]
  congr 1
  unfold lastN
  by_cases h0 : i = 0
  · rw [if_pos h0, decide_eq_true h0, Bool.true_or, ltB_empty]
    have := named_size hn; omega
  · rw [if_neg h0, decide_eq_false h0, Bool.false_or]

set_option maxRecDepth 100000 in
set_option maxHeartbeats 4000000 in
theorem may9 (a : Option Addr) (l : List FileT) (cap : Nat) (w : World) (hr : FilesAt w a l) (hl : l.length ≤ maxLen) (hsz : ∀ f ∈ l, f.1.size ≤ maxLen ∧ f.2.size ≤ maxLen) :
    Calls Try.prog 9 #[.slice a l.length cap] w fun e w' => e = .returned (.bool (mayF l)) ∧ Below w.heap.size w w' := by
  unfold maxLen at hl
  obtain ⟨RES, hR⟩ : ∃ R, mayF l = R := ⟨_, rfl⟩
  rw [hR]
  by_cases hbig : 4096 < l.length
  · have : RES = false := by
      rw [← hR, Bool.eq_false_iff]
      intro h
      have := ((mayF_iff l).1 h).1
      omega
    subst this
    clear hR hr hsz
    have hb2 : (4096 : Int) < (l.length : Int) := by omega
    go_enter Try.func9, Try.ntmps9
    go_wp2
    go_ret
    exact ⟨rfl, Below.refl _ _⟩
  have hb2 : ¬ (4096 : Int) < (l.length : Int) := by omega
  have hb3 : l.length ≤ 4096 := by omega
  have HR := Lib.hid hR
  have HFL := Lib.hid hr
  have HSZ := Lib.hid hsz
  clear hR hr hsz hbig
  go_enter Try.func9, Try.ntmps9
  go_wp2
  go_loopw [3, 11] (fun vl vi W => (∃ i : Nat, i ≤ l.length ∧ vi = .int .i64 (i : Int) ∧ vl = .string (lastN l i) ∧ (∀ j, j < i → okAt l j = true)) ∧ Below w.heap.size w W) (fun _ vi _ => l.length - (intOf vi).toNat)
  case atStart => exact ⟨⟨0, by omega, rfl, rfl, fun j hj => by omega⟩, Below.refl _ _⟩
  case round =>
    obtain ⟨⟨i, hi, rfl, rfl, hal⟩, hbel⟩ := hrel
    have HAL := Lib.hid hal
    have HB := Lib.hid hbel
    clear hal
    by_cases hlt : i < l.length
    · obtain ⟨b, off, rfl, hbw, hcells⟩ := HFL.out.some (by omega)
      obtain ⟨f, hf⟩ : ∃ f, l[i]? = Option.some f := ⟨l[i], by simp [hlt]⟩
      have c0 := (hbel.cell (p := ⟨b, off + i * 2, none⟩) hbw).trans (hcells i f hf).1
      have c1 := (hbel.cell (p := ⟨b, off + i * 2 + 1, none⟩) hbw).trans (hcells i f hf).2
      obtain ⟨z1, z2⟩ := HSZ.out f (List.mem_of_getElem? hf)
      have hok := okAt_at hf
      have hokl := okAt_last hf
      have hnx := Lib.hid (lastN_next hf)
      have HNO := Lib.hid (fun h => mayF_no (l := l) hlt h)
      have HYES : Hid (okAt l i = true → ∀ j, j < i + 1 → okAt l j = true) := fun h j hj => by
        by_cases hji : j < i
        · exact HAL.out j hji
        · obtain rfl : j = i := by omega
          exact h
      unfold maxLen at z2
      obtain ⟨fn, fb⟩ := f
      dsimp only at c0 c1 z1 z2 hok hokl hnx
      obtain ⟨LST, hlst⟩ : ∃ x, lastN l i = x := ⟨_, rfl⟩
      rw [hlst] at hokl ⊢
      have HNM := Lib.hid (fun W => isName35 fn W z1)
      clear hcells hbel hlst hf z1
      cases kn : namedS fn with
      | false =>
        have HOK := Lib.hid (HR.out.symm.trans (HNO.out (by rw [hok, kn]; rfl)))
        rw [kn] at HNM
        clear hok hokl kn
        go_wp2_with (go_at_call 35; refine (HNM.out _).mono ?_; rintro e w1 ⟨rfl, m, rfl⟩)
        go_ret
        exact ⟨by rw [HOK.out]; rfl, below_drewN' (HB.out.alloc HB.out.size _) m⟩
      | true =>
        rw [kn] at HNM
        cases kl : ltB LST fn with
        | false =>
          have HOK := Lib.hid (HR.out.symm.trans (HNO.out (by rw [hokl kn, kl, Bool.and_false])))
          by_cases ke : fn = LST
          · have g2 : (fn.toList == LST.toList) = true := by rw [ke]; simp
            have g5 : Op.bytesLess fn.toList LST.toList = false := by rw [ke]; exact ltB_irrefl _
            clear hok hokl kn kl ke
            go_wp2_with (go_at_call 35; refine (HNM.out _).mono ?_; rintro e w1 ⟨rfl, m, rfl⟩)
            go_ret
            exact ⟨by rw [HOK.out]; rfl, below_drewN' (HB.out.alloc HB.out.size _) m⟩
          · have g5 : Op.bytesLess fn.toList LST.toList = true := ltB_of_not kl (fun e => ke e.symm)
            clear hok hokl kn kl ke
            go_wp2_with (go_at_call 35; refine (HNM.out _).mono ?_; rintro e w1 ⟨rfl, m, rfl⟩)
            go_ret
            exact ⟨by rw [HOK.out]; rfl, below_drewN' (HB.out.alloc HB.out.size _) m⟩
        | true =>
          have g2 : (fn.toList == LST.toList) = false := toList_ne (ltB_ne kl).symm
          have g5 : Op.bytesLess fn.toList LST.toList = false := ltB_asymm kl
          by_cases kz : fb.size = 0
          · have HOK := Lib.hid (HR.out.symm.trans (HNO.out (by rw [hokl kn, kz]; rfl)))
            have g3 : (fb.toList == (⟨#[]⟩ : ByteArray).toList) = true := by rw [empty_of_size kz]; simp
            have g4 : fb.toList.isEmpty = true := by rw [empty_of_size kz]; simp
            clear hok hokl kn kl
            go_wp2_with (go_at_call 35; refine (HNM.out _).mono ?_; rintro e w1 ⟨rfl, m, rfl⟩)
            go_ret
            exact ⟨by rw [HOK.out]; rfl, below_drewN' (HB.out.alloc HB.out.size _) m⟩
          · have HG := Lib.hid (HYES.out (by rw [hokl kn, kl, decide_eq_true kz]; rfl))
            have g3 : (fb.toList == (⟨#[]⟩ : ByteArray).toList) = false := (not_emptyD kz).1
            have g4 : fb.toList.isEmpty = false := (not_emptyD kz).2
            clear hok hokl kn kl kz
            go_wp2_with (go_at_call 35; refine (HNM.out _).mono ?_; rintro e w1 ⟨rfl, m, rfl⟩)
            go_roundw
            case rel => exact ⟨⟨i + 1, by omega, by go_num, by rw [hnx.out], HG.out⟩, below_drewN' (HB.out.alloc HB.out.size _) m⟩
            case measure => simp [intOf]; omega
    · have hie : i = l.length := by omega
      subst hie
      have HA := Lib.hid (HR.out.symm.trans (mayF_yes hb3 (fun j hj => HAL.out j hj)))
      clear hbel
      go_wp2
      go_ret
      exact ⟨by rw [HA.out]; rfl, HB.out⟩

theorem own_bytes {W : World} {base n : Nat} {v : Value} {s : ByteArray} (h : W.ownsRow base 5 1 v n (Lib.byteCells s.data.toList)) (hs : s.size ≠ 0) : ∃ g, v = sliceB g s ∧ BytsAt W g s ∧ base ≤ g.1 := by
  have hlen : (Lib.byteCells s.data.toList).length = s.size := by rw [Lib.byteCells_length]; simp
  obtain ⟨h1, h2⟩ := h
  rcases h2 with ⟨_, h0⟩ | ⟨g, cap, cur, rfl, a1, a2, a3, a4, a5, a6⟩
  · omega
  · obtain rfl : n = s.size := by omega
    refine ⟨(g, cap), rfl, block_bytes a2 cap s (by omega) a4 a3 (.inl rfl) (fun j u hu => ?_), a1⟩
    rw [← Array.getElem?_toList]
    rw [← a6, List.getElem?_take] at hu
    split at hu
    · exact hu
    · cases hu

set_option maxRecDepth 100000 in
set_option maxHeartbeats 2000000 in
theorem clone45 (g : Nat × Nat) (s : ByteArray) (w : World) (h : BytsAt w g s) (hs : s.size ≠ 0) (hm : s.size ≤ 3000000) :
    Calls Try.prog 45 #[sliceB g s] w fun e w' => ∃ g', e = .returned (sliceB g' s) ∧ BytsAt w' g' s ∧ w.heap.size ≤ g'.1 ∧ Below w.heap.size w w' := by
  obtain ⟨i0, hi, hz0, hz1, hz2⟩ := info_parts infoU8
  have hlen : (Lib.byteCells s.data.toList).length = s.size := by rw [Lib.byteCells_length]; simp
  have hlt := h.lt
  have hle := h.le
  have HG := Lib.hid h.get
  have HOB := Lib.hid (fun W base v n hh => own_bytes (W := W) (base := base) (v := v) (n := n) (s := s) hh hs)
  unfold sliceB
  obtain ⟨b, cap⟩ := g
  dsimp only at hle hlt HG ⊢
  clear h
  have hq : ∀ (w : World) (a : Option Addr) (n c n' c' : Nat), (binOp .eql 72 (.slice a n c) (.slice none n' c')).run Try.prog w = .ok (.bool a.isNone) w := fun w a n c n' c' => Lib.run_eql_slice_nil w _ _ a n c n' c' Try.underlying72
  go_enter Try.func45, Try.ntmps45
  go_wp2_with (at_builtin; refine wpList_append_arg _ rfl _ _ 72 rfl 5 i0 (.int .u8 0) 1 1 Try.underlying72 hi hz0 hz1 hz2 rfl (by decide) w.heap.size 0 0 0 [] rfl rfl (fun j u hj => by simp at hj) ⟨b, 0, none⟩ s.size cap (Lib.byteCells s.data.toList) rfl (by rw [hlen]; omega) (fun j u hu => by rw [add_row, ← HG.out j u hu]; exact cell_heap (Below.heap_alloc _ _ _ hlt)) (Lib.byteCells_one _) (fun hr => by omega) (by unfold maxLen; omega) (by omega) (fun hr => by omega) ?_)
  intro _ v' w' ho hg
  have HO := Lib.hid ho
  have HGR := Lib.hid hg
  clear ho hg
  go_wp2
  go_ret
  obtain ⟨g', hv, hb, hge⟩ := HOB.out _ _ _ _ HO.out
  subst hv
  exact ⟨g', rfl, hb, by omega, ((Below.refl _ w).alloc (Nat.le_refl _) _).grown HGR.out (by simp) (fun k hk => by cases hk)⟩
end Go.Proofs.Ytcedkilgfoiifaa
