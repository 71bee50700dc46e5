/- Contracts of the document's Wrap, Next and Scan: the frame of a row, the next one, all that stand. -/
import Derived.Test.YtbaajabiimckoaaFrMath
import Derived.Test.YtbaajabiimckoaaRefs2
import Derived.Test.YtbaajabiimckoaaBase
import Derived.BigQuiet
namespace Go.Proofs.Ytbaajabiimckoaa
open Go.RowKit Base

set_option maxRecDepth 100000 in
theorem rwrap9 (s : ByteArray) (w : World) (h : s.size ≤ 1000000) : Calls Try.prog 9 #[.string s] w fun e w' => e = .returned (.string (wrapS s)) ∧ Below w.heap.size w w' := by
  have HR := Lib.hid (row13 s w h)
  have hz : (rowB s).size ≤ 1000010 := by
    unfold rowB; rw [ByteArray.size_append]; have := encB_size s.size; omega
  have HW := Lib.hid (show wrapS s = rowB s ++ ⟨#[165]⟩ from rfl)
  rw [HW.out]
  generalize rowB s = x at *
  go_enter Try.func9, Try.ntmps9
  go_wp2_with (go_at_call 23; refine HR.out.mono ?_; rintro e w1 ⟨rfl, hb⟩; have HB := Lib.hid hb; clear hb)
  go_ret
  exact ⟨rfl, HB.out⟩

theorem ext_all (S : ByteArray) : S.extract 0 S.size = S := ByteArray.extract_zero_size
theorem numTo_row (s : List UInt8) : (numTo s rowN).1 ≤ 65536 := by
  by_cases h : (numTo s rowN).2.2 = 0
  · have := (numTo_may s rowN h).1
    simp [rowN] at this
    omega
  · have := numTo_zero s rowN h
    omega
theorem own_ret3 {a b c a' b' c' : Value} (h1 : a = a') (h2 : b = b') (h3 : c = c') : Ending.returned (.tuple #[a, b, c]) = .returned (.tuple #[a', b', c']) := by rw [h1, h2, h3]

theorem cutS (S : ByteArray) (k n : Nat) (h : k + n ≤ S.size) (W : World) : (Instr.sliceAt 9 (.string S) (some (.int .i64 (k : Int))) (some (.int .i64 ((k : Int) + (n : Int)))) none).run Try.prog W = .ok (.string (S.extract k (k + n))) W := by
  have h1 : (0 : Int) ≤ k := by omega
  have h2 : (k : Int) ≤ (k : Int) + (n : Int) := by omega
  have h3 : (k : Int) + (n : Int) ≤ S.size := by omega
  go_simp
  rw [show ((k : Int) + (n : Int)).toNat = k + n by omega]
/-- The results of Next, as a value. -/
def nextV (p : ByteArray × Nat × Int) : Value := .tuple #[.string p.1, .int .i64 (p.2.1 : Int), .int .i64 p.2.2]
set_option maxRecDepth 100000 in
set_option maxHeartbeats 4000000 in
theorem rnext10 (S : ByteArray) (w : World) (hs : S.size ≤ 1000000) : Calls Try.prog 10 #[.string S] w fun e w' => e = .returned (nextV (nextS S)) ∧ Below w.heap.size w w' := by
  by_cases h0 : S.size = 0
  · rw [nextS_none S h0]
    have hb : ((S.size : Int) == 0) = true := by simpa using h0
    clear h0
    go_enter Try.func10, Try.ntmps10
    go_wp2
    go_ret3
    exact ⟨rfl, Below.refl _ _⟩
  have hb0 : ((S.size : Int) == 0) = false := by simpa using h0
  have HO := Lib.hid (of25 S w)
  have hN := fun (W : World) (h : RdY W w.heap.size S 0 0) => num26 w.heap.size S 0 0 65536 W hs (by omega) h
  rw [ext_all] at hN
  have hk := numTo_le S rowN
  have hn := numTo_row S.data.toList
  change ∀ (W : World), RdY W w.heap.size S 0 0 → Calls Try.prog 25 #[.pointer (some ⟨w.heap.size, 0, none⟩), .int .u64 65536] W fun x w' => x = .returned (.int .u64 (orZ 0 ((numTo S.data.toList rowN).1 : Int) 0)) ∧
      RdY w' w.heap.size S (AfterY 0 0 (numTo S.data.toList rowN).2.1 (numTo S.data.toList rowN).2.2).1 (AfterY 0 0 (numTo S.data.toList rowN).2.1 (numTo S.data.toList rowN).2.2).2 ∧ W.grownBy w' (some w.heap.size) at hN
  have hz := numTo_zero S.data.toList rowN
  obtain ⟨⟨n, k, er⟩, hq⟩ : ∃ q, numTo S.data.toList rowN = q := ⟨_, rfl⟩
  rw [hq] at hN hk hn hz
  simp only [orZ_ok] at hN hk hn hz
  by_cases he : er = 0
  · subst he
    have hA : AfterY 0 0 (k : Int) 0 = (k, 0) := by rw [AfterY_ok]; simp
    rw [hA] at hN
    have HN := Lib.hid hN
    clear hN hA hz
    have hw1 : IntKind.i64.wrap (n : Int) = n := IntWalk.i64_in _ (by omega)
    have hx1 : (S.extract k S.size).size = S.size - k := by simp [ByteArray.size_extract]
    have HLf := Lib.hid (fun (W : World) (h : RdY W w.heap.size S k 0) => left32 w.heap.size S k 0 W hs hk h)
    rw [hx1] at HLf
    by_cases hn0 : n = 0
    · have HX := Lib.hid (nextS_zero h0 hq hn0)
      subst hn0
      clear hx1 HLf h0 hq
      rw [HX.out]
      go_enter Try.func10, Try.ntmps10
      go_wp2_with (first
        | (go_at_call 24; refine HO.out.mono ?_; rintro e w1 ⟨rfl, hr1, hb1⟩; have HR1 := Lib.hid hr1; have HB1 := Lib.hid hb1; clear hr1 hb1)
        | (go_at_call 25; refine (HN.out _ HR1.out).mono ?_; rintro e w2 ⟨rfl, hr2, hg2⟩; have c2 := hr2.c2; have HB2 := Lib.hid (HB1.out.grown hg2 HB1.out.size (fun k hk => by simp at hk; omega)); clear hr2 hg2))
      go_ret3
      exact ⟨rfl, HB2.out⟩
    · have hbn : ((n : Int) == 0) = false := by simpa using hn0
      obtain ⟨z, hz⟩ : ∃ z : Nat, S.size - k = z := ⟨_, rfl⟩
      rw [hz] at HLf
      by_cases hsh : S.size < k + n + 1
      · have HX := Lib.hid (nextS_short h0 hq hn0 hsh)
        have hlt : (z : Int) < (n : Int) + 1 := by omega
        clear hx1 h0 hz hsh hn0 hq
        rw [HX.out]
        go_enter Try.func10, Try.ntmps10
        go_wp2_with (first
          | (go_at_call 24; refine HO.out.mono ?_; rintro e w1 ⟨rfl, hr1, hb1⟩; have HR1 := Lib.hid hr1; have HB1 := Lib.hid hb1; clear hr1 hb1)
          | (go_at_call 25; refine (HN.out _ HR1.out).mono ?_; rintro e w2 ⟨rfl, hr2, hg2⟩; have c2 := hr2.c2; have HR2 := Lib.hid hr2; have HB2 := Lib.hid (HB1.out.grown hg2 HB1.out.size (fun k hk => by simp at hk; omega)); clear hr2 hg2)
          | (go_at_call 26; refine (HLf.out _ HR2.out).mono ?_; rintro e w3 ⟨rfl, m, rfl⟩; have HB3 := Lib.hid (below_drewN' HB2.out m)))
        go_ret3
        exact ⟨rfl, HB3.out⟩
      · have hlt : ¬ (z : Int) < (n : Int) + 1 := by omega
        have hkn : k + n < S.size := by omega
        have hw2 : IntKind.i64.wrap ((k : Int) + (n : Int)) = ((k + n : Nat) : Int) := by rw [IntWalk.i64_in _ (by omega)]; simp
        by_cases hc : S[k + n] = 165
        · have HX := Lib.hid (nextS_good h0 hq hn0 hkn hc)
          have hc2 : ((S[k + n].toNat : Int) != 165) = false := by rw [hc]; rfl
          have hcut := cutS S k n (by omega)
          clear hx1 h0 hz hsh hn0 hq hc
          rw [HX.out]
          go_enter Try.func10, Try.ntmps10
          go_wp2_with (first
            | (go_at_call 24; refine HO.out.mono ?_; rintro e w1 ⟨rfl, hr1, hb1⟩; have HR1 := Lib.hid hr1; have HB1 := Lib.hid hb1; clear hr1 hb1)
            | (go_at_call 25; refine (HN.out _ HR1.out).mono ?_; rintro e w2 ⟨rfl, hr2, hg2⟩; have c2 := hr2.c2; have c1 := hr2.c1; have HR2 := Lib.hid hr2; have HB2 := Lib.hid (HB1.out.grown hg2 HB1.out.size (fun k hk => by simp at hk; omega)); clear hr2 hg2)
            | (go_at_call 26; refine (HLf.out _ HR2.out).mono ?_; rintro e w3 ⟨rfl, m, rfl⟩; have HB3 := Lib.hid (below_drewN' HB2.out m)))
          go_quiet (fail)
          go_wp2
          go_ret3
          exact ⟨rfl, below_drewN' HB3.out _⟩
        · have HX := Lib.hid (nextS_last h0 hq hn0 hkn hc)
          have hc2 : ((S[k + n].toNat : Int) != 165) = true := by
            have h5 : S[k + n].toNat ≠ 165 := fun h => hc (by apply UInt8.toNat_inj.1; rw [h]; rfl)
            simp; omega
          clear hx1 h0 hz hsh hn0 hq hc
          rw [HX.out]
          go_enter Try.func10, Try.ntmps10
          go_wp2_with (first
            | (go_at_call 24; refine HO.out.mono ?_; rintro e w1 ⟨rfl, hr1, hb1⟩; have HR1 := Lib.hid hr1; have HB1 := Lib.hid hb1; clear hr1 hb1)
            | (go_at_call 25; refine (HN.out _ HR1.out).mono ?_; rintro e w2 ⟨rfl, hr2, hg2⟩; have c2 := hr2.c2; have c1 := hr2.c1; have HR2 := Lib.hid hr2; have HB2 := Lib.hid (HB1.out.grown hg2 HB1.out.size (fun k hk => by simp at hk; omega)); clear hr2 hg2)
            | (go_at_call 26; refine (HLf.out _ HR2.out).mono ?_; rintro e w3 ⟨rfl, m, rfl⟩; have HB3 := Lib.hid (below_drewN' HB2.out m)))
          go_ret3
          exact ⟨rfl, HB3.out⟩
  · have HX := Lib.hid (nextS_fault h0 hq he)
    have hA : AfterY 0 0 (k : Int) er = (0, er) := AfterY_no _ _ _ he
    rw [hA] at hN
    have HN := Lib.hid hN
    have hz0 := hz he
    subst hz0
    have hbe : (er != 0) = true := by simpa using he
    clear hN hA hz h0 hq he
    rw [HX.out]
    go_enter Try.func10, Try.ntmps10
    go_wp2_with (first
      | (go_at_call 24; refine HO.out.mono ?_; rintro e w1 ⟨rfl, hr1, hb1⟩; have HR1 := Lib.hid hr1; have HB1 := Lib.hid hb1; clear hr1 hb1)
      | (go_at_call 25; refine (HN.out _ HR1.out).mono ?_; rintro e w2 ⟨rfl, hr2, hg2⟩; have c2 := hr2.c2; have HB2 := Lib.hid (HB1.out.grown hg2 HB1.out.size (fun k hk => by simp at hk; omega)); clear hr2 hg2))
    go_quiet (fail)
    go_wp2
    go_ret3
    exact ⟨rfl, below_drewN' HB2.out _⟩
end Go.Proofs.Ytbaajabiimckoaa
