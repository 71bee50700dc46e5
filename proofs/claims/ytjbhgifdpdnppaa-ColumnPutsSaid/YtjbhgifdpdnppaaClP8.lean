/- The program's Get. -/
import Derived.Test.YtjbhgifdpdnppaaClP7
import Derived.BigQuiet
namespace Go.Proofs.Ytjbhgifdpdnppaa
open Go.RowKit Go.Shelf Base Base2
attribute [local go_sem] Oper.semAt_some

/-- What Get answers, of numbers. -/
def GetA (w : World) (R : List Int × Nat × Int) (e : Ending) (w' : World) : Prop := (∃ a c, e = .returned (.tuple #[.slice a R.1.length c, .int .i64 (R.2.1 : Int), .int .i64 R.2.2]) ∧ I64s w' a R.1) ∧ Below w.heap.size w w'

set_option maxRecDepth 100000 in
theorem get11_arg (s : ByteArray) (most : Int) (w : World) (h : most < 0 ∨ 65536 < most) : Calls Try.prog 11 #[.string s, .int .i64 most] w fun e w' => GetA w ([], 0, 1) e w' := by
  have HG := Lib.hid (show ∀ W, Below w.heap.size w W → GetA w ([], 0, 1) (.returned (.tuple #[.slice none 0 0, .int .i64 0, .int .i64 1])) W from fun W hb => ⟨⟨none, 0, rfl, .inl rfl⟩, hb⟩)
  obtain ⟨POST, hP⟩ : ∃ P, (fun e w' => GetA w ([], 0, 1) e w') = P := ⟨_, rfl⟩
  rw [hP]
  rcases h with h | h
  · go_enter Try.func11, Try.ntmps11
    go_wp2
    go_ret3
    subst hP
    exact HG.out _ (Below.refl _ _)
  · have h0 : ¬ most < 0 := by omega
    go_enter Try.func11, Try.ntmps11
    go_wp2
    go_ret3
    subst hP
    exact HG.out _ (Below.refl _ _)

set_option maxRecDepth 100000 in
set_option maxHeartbeats 8000000 in
theorem get11 (S : ByteArray) (mt : Nat) (w : World) (hs : S.size ≤ 1000000) (hm : mt ≤ 65536) :
    Calls Try.prog 11 #[.string S, .int .i64 (mt : Int)] w fun e w' => GetA w (getS S.data.toList mt) e w' := by
  refine (callsIn_wide (n := 10)).1 ?_
  obtain ⟨i0, hi0, hz0, hz1, hz2⟩ := info_parts info2C
  obtain ⟨n, j0, er, hn⟩ : ∃ n j e, numM S.data.toList mt = (n, j, e) := ⟨_, _, _, rfl⟩
  have hn' : numTo S.data.toList (fun n => decide ((n : Int) ≤ (mt : Int))) = (n, j0, er) := hn
  obtain ⟨RES, hRES⟩ : ∃ R, getS S.data.toList mt = R := ⟨_, rfl⟩
  have hN := fun p W (h : RdX W p S 0) => num19 p S 0 (mt : Int) W hs h
  simp only [hn', orZ_ok] at hN
  have hle := numTo_le S (fun n => decide ((n : Int) ≤ (mt : Int)))
  rw [hn'] at hle
  have hnb : n ≤ 65536 := by
    by_cases he : er = 0
    · subst he; have := (numM_some hn).2; omega
    · rw [numM_zero hn he]; omega
  obtain ⟨cur, hcur⟩ : ∃ c, (AfterX S 0 (j0 : Int) er).1 = c := ⟨_, rfl⟩
  have hcase : (er = 0 ∧ ∃ j0, j0 ≤ S.size ∧ cur = S.extract j0 S.size ∧ RES = contS S.data.toList n j0 []) ∨ (er ≠ 0 ∧ n = 0 ∧ RES = ([], 0, er)) := by
    by_cases he : er = 0
    · subst he
      refine .inl ⟨rfl, j0, hle, by rw [← hcur, AfterX_go], by rw [← hRES, getS_cont hn]⟩
    · refine .inr ⟨he, numM_zero hn he, ?_⟩
      rw [← hRES]
      unfold getS
      rw [if_pos (by rw [hn]; exact he), hn]
  have her : (AfterX S 0 (j0 : Int) er).2 = er := by
    by_cases he : er = 0
    · subst he; rw [AfterX_go]
    · rw [AfterX_bad _ _ _ he]
  rw [hcur, her] at hN
  have HSQ := Lib.hid (fun p C bR bL w0 hI => written_seq 9 (by omega) p C bR bL S cur er hs n hnb RES hcase w0 hI)
  have HN := Lib.hid hN
  have HRD := Lib.hid (fun W => read18 S W)
  rw [hRES]
  clear hn hn' hN hle hcase her hcur hRES
  have hmn : ¬ (mt : Int) < 0 := by omega
  have hmm : ¬ (65536 : Int) < (mt : Int) := by omega
  refine callsIn_of_wp_marks Try.func11 rfl trivial ?_ rfl
  simp only [Try.ntmps11, List.size_toArray, List.length_cons, List.length_nil, Nat.reduceAdd, Nat.reduceSub, Array.replicate_succ, Array.replicate_zero, List.push_toArray, List.append_toArray, List.nil_append, List.cons_append]
  gi_wp2_with (first
    | (refine ⟨trivial, ?_⟩; gi_at_call 21; refine (callsIn_wide.2 (HRD.out _)).mono ?_; rintro e w1 ⟨rfl, hr1, hb1⟩; have HR1 := Lib.hid hr1; have HB1 := Lib.hid hb1; clear hr1 hb1)
    | (refine ⟨trivial, ?_⟩; gi_at_call 24; refine (callsIn_wide.2 (HN.out _ _ (HR1.out.below ((Below.refl w1.heap.size _).alloc (Nat.le_refl _) (.cells #[.slice none 0 0] 22) |>.alloc (by simp) (.cells #[.int .i64 0] 2)) HR1.out.lt))).mono ?_; rintro e w2 ⟨rfl, hr2, hg2⟩; have HR2 := Lib.hid hr2; have HG2 := Lib.hid hg2; clear hr2 hg2)
    | (refine ⟨trivial, ?_⟩; gi_at_call 23; refine (callsIn_wide.2 (countdown23 (n : Int) _)).mono ?_; rintro e w3 ⟨rfl, rfl⟩)
    | (refine ⟨trivial, ?_⟩; gi_at_call 22; refine (callsIn_wide.2 (written22 _ _ _)).mono ?_; rintro e w4 ⟨rfl, rfl⟩))
  have hp1 := HR1.out.lt
  have hs1 := HB1.out.size
  have hs2 : w1.heap.size + 2 ≤ w2.heap.size := by simpa using HG2.out.size
  have bL1 : Boxed w2 w1.heap.size 22 (.slice none 0 0) := ((Boxed.new w1 _ _).alloc _).kept HG2.out (by intro e; have := Option.some.inj e; omega)
  have bN1 : Boxed w2 (w1.heap.size + 1) 2 (.int .i64 0) := by
    have h := Boxed.new (w1.alloc (.cells #[.slice none 0 0] 22)) 2 (.int .i64 0)
    rw [World.size_alloc] at h
    exact h.kept HG2.out (by intro e; have := Option.some.inj e; omega)
  have lo2 : Below w.heap.size w w2 := ((HB1.out.alloc hs1 _).alloc (by simp; omega) _).grown HG2.out (by simp; omega) (fun k e => by cases e; exact Nat.le_refl _)
  have bC := Boxed.new w2 47 (.int .u64 (n : Int))
  have bR := Boxed.new (w2.alloc (.cells #[.int .u64 (n : Int)] 47)) 53 (.pointer (some ⟨w.heap.size, 0, none⟩))
  have bF := Boxed.new ((w2.alloc (.cells #[.int .u64 (n : Int)] 47)).alloc (.cells #[.pointer (some ⟨w.heap.size, 0, none⟩)] 53)) 56 (lessV w2.heap.size)
  rw [World.size_alloc, World.size_alloc] at bF
  rw [World.size_alloc] at bR
  have hit : ItS w.heap.size w2.heap.size (w2.heap.size + 1) (w2.heap.size + 1 + 1) cur er n _ := ⟨((HR2.out.grown (grown_alloc _ _ none) (by simp)).grown (grown_alloc _ _ none) (by simp)).grown (grown_alloc _ _ none) (by simp), (bC.alloc _).alloc _, bR.alloc _, bF⟩
  have hgi : GetI w (w2.heap.size + 1 + 1 + 1) w1.heap.size (w1.heap.size + 1) [] (.slice none 0 0) 0 _ := ⟨((bL1.alloc (.cells #[.int .u64 (n : Int)] 47)).alloc (.cells #[.pointer (some ⟨w.heap.size, 0, none⟩)] 53)).alloc (.cells #[lessV w2.heap.size] 56), World.ownsRow_nil _ _ _ _, ((bN1.alloc _).alloc _).alloc _, ((lo2.alloc (by omega) _).alloc (by simp; omega) _).alloc (by simp; omega) _, by simp⟩
  have hsq := HSQ.out _ _ _ _ _ hit
  clear HSQ HN HRD HR1 HB1 HR2 HG2 bL1 bN1 lo2 bC bR bF hit
  refine range_turns rfl (by omega) (gf := 35) (lb := #[.pointer (some ⟨w2.heap.size + 1 + 1, 0, none⟩), .pointer (some ⟨w2.heap.size + 1, 0, none⟩)]) rfl trivial (enters_of Try.func35 (by kernel_rfl) rfl)
    hsq (by rintro k (rfl | rfl) <;> (simp; omega)) kpI_t (kpI_b (by simp only [World.size_alloc]; omega) (by simp only [World.size_alloc]; omega) (by simp only [World.size_alloc]; omega) (by simp only [World.size_alloc]; omega)) (Below.refl _ _) (fun _ => rfl) (finI_own _ _ _ _) (fun _ _ _ _ h _ _ => h)
    (fun pre W => ∃ v, GetI w (w2.heap.size + 1 + 1 + 1) w1.heap.size (w1.heap.size + 1) (undiff 0 (expand pre)) v ((undiff 0 (expand pre)).getLastD 0) W)
    (fun _ _ _ => False)
    (getI_own w _ _ _ _ (fun pre => undiff 0 (expand pre)) (by simp; omega))
    (fun _ _ _ _ _ h _ _ => h)
    (fun s A B ⟨v, h⟩ ht => ⟨v, h.turn ht (by rintro (a | a) <;> omega) (by rintro (a | a) <;> omega) (by rintro k (rfl | rfl) <;> omega) (by rintro k (rfl | rfl) <;> omega)⟩)
    (fun _ _ _ _ h _ => h)
    ⟨_, hgi⟩
    (fun x => { tmps := #[.string S, .int .i64 (mt : Int), undef, undef, .slice none 0 0, .int .i64 0, .int .i64 0, .pointer (some ⟨w.heap.size, 0, none⟩), .pointer (some ⟨w1.heap.size, 0, none⟩), .pointer (some ⟨w1.heap.size + 1, 0, none⟩), .int .i64 x.1, .int .u64 (x.2 : Int), undef, .int .i64 (mt : Int), .bool false, .bool false, .int .i64 (mt : Int), .bool false, .bool false, .string S, .pointer (some ⟨w.heap.size, 0, none⟩), .pointer (some ⟨w.heap.size, 0, none⟩), .pointer (some ⟨w.heap.size, 0, none⟩), .int .i64 (mt : Int), .int .u64 (mt : Int), .int .u64 (n : Int), lessV w2.heap.size, .func (.func 35) #[] #[.pointer (some ⟨w2.heap.size + 1 + 1, 0, none⟩), .pointer (some ⟨w2.heap.size + 1, 0, none⟩)], .int .i64 x.1, .int .u64 (x.2 : Int), undef, undef, undef, undef, undef, undef, undef, undef, undef, undef, undef, undef, undef, undef, undef, undef, undef, undef, undef, undef, undef, undef], defers := [] }) ?assign ?body ?done ?stop
  case assign =>
    intro l x W K hK
    dsimp only [encT]
    gi_wp2
    exact hK
  case body =>
    clear hgi hsq
    rintro lo pre ⟨d, k⟩ W ⟨v, hg⟩ htl
    obtain ⟨g1, g2, g3⟩ := runs_lens htl
    have htot : total pre + k ≤ n := by have := htl.2.1; rw [total_app] at this; exact this
    have hkb : (k : Int) ≤ 65536 := by dsimp only at g2; omega
    have hexp := expand_snoc pre d k
    have hlen : ∀ q, (undiff 0 (expand pre ++ List.replicate q d)).length = total pre + q := fun q => by rw [undiff_len, List.length_append, expand_len, List.length_replicate]
    have HNX := Lib.hid (fun q => last_undiff pre d q)
    have hg0 : GetI w (w2.heap.size + 1 + 1 + 1) w1.heap.size (w1.heap.size + 1) (undiff 0 (expand pre ++ List.replicate 0 d)) v ((undiff 0 (expand pre ++ List.replicate 0 d)).getLastD 0) W := by simpa using hg
    obtain ⟨f, hf⟩ : ∃ f : Nat → List Int, f = fun q => undiff 0 (expand pre ++ List.replicate q d) := ⟨_, rfl⟩
    have hfe : ∀ q, undiff 0 (expand pre ++ List.replicate q d) = f q := fun q => by rw [hf]
    have HFK := Lib.hid (show undiff 0 (expand (pre ++ [(d, k)])) = f k by rw [hexp, hfe])
    rw [hfe 0] at hg0
    simp only [hfe] at hlen HNX
    have HG0 := Lib.hid hg0
    have HLN := Lib.hid hlen
    have HTT := Lib.hid htot
    clear hg hexp hf hfe hg0 hlen htl g1 g2 g3 htot
    dsimp only
    gi_wp2
    gi_loopw [31] (fun vi Wx => ∃ (q : Nat) (v : Value), vi = .int .u64 (q : Int) ∧ q ≤ k ∧ GetI w (w2.heap.size + 1 + 1 + 1) w1.heap.size (w1.heap.size + 1) (f q) v ((f q).getLastD 0) Wx ∧ KeepL (w2.heap.size + 1 + 1 + 1) w1.heap.size (w1.heap.size + 1) W Wx) (fun vi _ => k - (intOf vi).toNat)
    case atStart => exact ⟨0, v, rfl, Nat.zero_le _, HG0.out, KeepL.refl _ _ _ _⟩
    case round =>
      clear HG0
      obtain ⟨q, v, rfl, hq, hG, hK⟩ := hrel
      by_cases hlt : q < k
      · have hnx := HNX.out q
        have hln := HLN.out q
        obtain ⟨L2, hL2⟩ : ∃ L, f q = L := ⟨_, rfl⟩
        rw [hL2] at hG hnx hln
        obtain ⟨x2, hx2⟩ : ∃ x, L2.getLastD 0 = x := ⟨_, rfl⟩
        rw [hx2] at hG hnx
        obtain ⟨z, hz⟩ : ∃ z, w64 (x2 + d) = z := ⟨_, rfl⟩
        rw [hz] at hnx
        have hz5 : IntKind.i64.wrap (x2 + d) = z := hz
        obtain ⟨hA, hKA⟩ := hG.step (by omega) (by omega) z
        have c9 := hG.num.cell
        have f9 := hG.num.frozen
        have c8A := hA.box.cell
        have c9A := hA.num.cell
        have b1 : L2.length + 1 ≤ maxLen := by unfold maxLen; have := HTT.out; omega
        have b2 : (L2.length + 1) * 8 ≤ 140737488355328 := by have := HTT.out; omega
        have b3 := hA.sz
        have hws : (wr.setCell ⟨w1.heap.size + 1, 0, none⟩ (.int .i64 z)).heap.size = wr.heap.size := by simp [World.setCell]
        have HNW := Lib.hid (new_one (wr.setCell ⟨w1.heap.size + 1, 0, none⟩ (.int .i64 z)) (.int .i64 z) 2)
        rw [hws] at HNW b3
        have HA := Lib.hid hA
        have HKA := Lib.hid (hK.trans hKA)
        have HE := Lib.hid (show f (q + 1) = L2 ++ [z] from hnx)
        have HGL := Lib.hid (show (L2 ++ [z]).getLastD 0 = z by simp)
        clear hnx hln hL2 hx2 hz hA hKA hG hK
        gi_wp2_with (gi_at_builtin; refine wpListIn_append_own _ rfl _ _ 22 rfl (w2.heap.size + 1 + 1 + 1) 2 i0 (.int .i64 0) 1 8 Try.underlying22 hi0 hz0 hz1 hz2 rfl (by decide) _ _ _ rfl (HA.out.row.alloc _) ⟨wr.heap.size, 0, none⟩ 1 1 [.int .i64 z] rfl rfl HNW.out (one_i64C _) b1 b2 (by rw [World.size_alloc, hws]; omega) ?_; intro v' w5 hown hgrow _; obtain ⟨g', cap', rfl⟩ := ownsRow_succ hown; obtain ⟨hb5, hG5, hK5⟩ := HA.out.app (by omega) (by omega) (by omega) hown hgrow; have hc5 := hb5.cell; have hf5 := hb5.frozen; have HG5 := Lib.hid hG5; have HK5 := Lib.hid (HKA.out.trans hK5); clear hown hgrow hb5 hG5 hK5)
        go_roundw
        case rel => exact ⟨q + 1, _, by go_num, hlt, by rw [HE.out, HGL.out]; exact HG5.out, HK5.out⟩
        case measure => simp [intOf]; omega
      · have hqk : q = k := by omega
        subst hqk
        have HG := Lib.hid hG
        have HK := Lib.hid hK
        clear hG hK
        gi_wp2
        exact ⟨HK.out.from _, ⟨HK.out.low _ (by omega) (by omega) (by omega), HK.out.low _ (by omega) (by omega) (by omega), HK.out.low _ (by omega) (by omega) (by omega), HK.out.low _ (by omega) (by omega) (by omega)⟩, _, by rw [HFK.out]; exact HG.out⟩
  case done =>
    rintro D ys W hD (⟨P, hP, hrd, hres⟩ | ⟨e, cur, he, hrd, hres⟩) ⟨v, hg⟩ hK
    · have c8 := hg.box.cell
      obtain ⟨z, hz⟩ : ∃ z, (S.extract P S.size).size = z := ⟨_, rfl⟩
      have hzP : (S.size : Int) - (z : Int) = (P : Int) := by rw [← hz]; simp [ByteArray.size_extract]; omega
      have HF := Lib.hid (fault22 _ _ _ _ hrd)
      have HL := Lib.hid (fun W' (h : RdX W' w.heap.size (S.extract P S.size) 0) => (left23 _ _ _ W' h).mono (fun e w' (h : _ ∧ W' = w') => (⟨h.1, h.2.symm⟩ : e = .returned (.int .i64 ((S.extract P S.size).size : Int)) ∧ w' = W')))
      rw [hz] at HL
      have HRD := Lib.hid hrd
      have HG := Lib.hid hg
      have HRES := Lib.hid hres
      clear hgi hsq hz hrd hg hres
      gi_wp2_with (refine ⟨trivial, ?_⟩; gi_at_call 25; refine (callsIn_wide.2 HF.out).mono ?_; rintro e w4 ⟨rfl, hw4⟩; subst hw4)
      refine wpIn_wide.2 ?_
      go_quiet (first | (go_at_call 26; exact Calls.quiet_of_same (HL.out _ (by exact HRD.out))))
      gi_wp2
      refine ⟨by simp, .inl ⟨_, _, rfl, run_takeDeferred (by exact hK), ?_⟩⟩
      obtain ⟨a', c', hv', hri⟩ := i64_own (ownsRow_putObj HG.out.row (.deferred none) hK rfl)
      exact ⟨_, results_tmp3 rfl _ _ _, by rw [HRES.out]; exact ⟨⟨a', c', by rw [← hv']; rfl, hri⟩, (below_drewN' HG.out.lo nq).trans (belowK_b (w := w) (Nat.le_refl _) (W.drewN nq) D _ _ (by simp at hD; omega) hK rfl rfl)⟩⟩
    · have g1 : (e != 0) = true := by simpa using he
      have HF := Lib.hid (fault22 _ _ _ _ hrd)
      have HRES := Lib.hid hres
      have HLO := Lib.hid hg.lo
      clear hgi hsq hrd hg hres he
      gi_wp2_with (refine ⟨trivial, ?_⟩; gi_at_call 25; refine (callsIn_wide.2 HF.out).mono ?_; rintro e w4 ⟨rfl, hw4⟩; subst hw4)
      refine ⟨by simp, .inl ⟨_, _, rfl, run_takeDeferred hK, ?_⟩⟩
      exact ⟨_, results_tmp3 rfl _ _ _, by rw [HRES.out]; exact ⟨⟨none, 0, rfl, .inl rfl⟩, HLO.out.trans (belowK_b (w := w) (Nat.le_refl _) W D _ _ (by simp at hD; omega) hK rfl rfl)⟩⟩
  case stop =>
    rintro D c pre W _ _ h _
    exact h.elim
end Go.Proofs.Ytjbhgifdpdnppaa
