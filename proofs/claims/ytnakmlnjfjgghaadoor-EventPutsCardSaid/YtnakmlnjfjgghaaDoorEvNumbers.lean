/- The contract of what reads so many numbers of any bytes, as the document tells it. -/
import Derived.Test.YtnakmlnjfjgghaaDoorEvMath
import Derived.Test.YtnakmlnjfjgghaaDoorRefs2
import Derived.Test.YtnakmlnjfjgghaaDoorBase
import Derived.BigQuiet
namespace Go.Proofs.YtnakmlnjfjgghaaDoor
open Go.RowKit Base

theorem ext_at (S : ByteArray) (P k : Nat) (_hP : P ≤ S.size) : (S.extract P S.size).extract k (S.extract P S.size).size = S.extract (P + k) S.size := by
  apply ByteArray.ext
  simp only [ByteArray.data_extract, Array.extract_extract, ByteArray.size_extract]
  congr 1
  omega
/-- A reader that counts its place, and one that keeps what is left. -/
theorem afterXY (S : ByteArray) (P : Nat) (e k er : Int) (hP : P ≤ S.size) :
    AfterX (S.extract P S.size) e k er = (S.extract (AfterY P e k er).1 S.size, (AfterY P e k er).2) := by
  unfold AfterX AfterY
  by_cases he : e = 0
  · rw [if_pos he, if_pos he]
    by_cases hr : er = 0
    · rw [if_pos hr, if_pos hr, ext_at _ _ _ hP]
    · rw [if_neg hr, if_neg hr]
  · rw [if_neg he, if_neg he]
theorem afterY_le (S : ByteArray) (P : Nat) (e er : Int) (k : Nat) (hP : P ≤ S.size) (hk : k ≤ (S.extract P S.size).size) : (AfterY P e k er).1 ≤ S.size := by
  have : (S.extract P S.size).size = S.size - P := by simp [ByteArray.size_extract]
  unfold AfterY
  split
  · split
    · simp; omega
    · exact hP
  · exact hP
theorem one_cell_i64 (n : Int) : ∀ u ∈ [Value.int .i64 n], u.oneCell' = true := by
  intro u hu; simp at hu; subst hu; rfl
theorem info2 : (Tryd.prog.info? 2).map (fun i => (i.zero, i.size, i.bytes)) = some (some (.int .i64 0), 1, 8) := by kernel_rfl

/-- While numbers are read: the reader, the row of numbers. -/
structure NumS (w : World) (S : ByteArray) (L : List Int) (P : Nat) (e : Int) (v : Value) (W : World) : Prop where
  rd : RdY W w.heap.size S P e
  row : W.ownsRow w.heap.size 2 1 v L.length (L.map (Value.int .i64))
  lo : Below w.heap.size w W
theorem NumS.step {w W W' : World} {S : ByteArray} {L : List Int} {P P' : Nat} {e e' : Int} {v : Value} (h : NumS w S L P e v W) (hr : RdY W' w.heap.size S P' e') (hg : W.grownBy W' (some w.heap.size)) : NumS w S L P' e' v W' :=
  ⟨hr, h.row.kept hg (.inr (Ne.symm (own_ne' h.row h.rd (by decide)))), h.lo.grown hg (by have := lt_of_blk h.rd; omega) (fun k hk => by simp at hk; omega)⟩
theorem NumS.drewN {w W : World} {S : ByteArray} {L : List Int} {P : Nat} {e : Int} {v : Value} (h : NumS w S L P e v W) (m : Nat) : NumS w S L P e v (W.drewN m) := ⟨h.rd, h.row, below_drewN' h.lo m⟩
theorem NumS.app {w W W' : World} {S : ByteArray} {L : List Int} {P : Nat} {e x : Int} {v v' : Value} (h : NumS w S L P e v W) (hr : W'.ownsRow w.heap.size 2 1 v' (L.length + 1) (L.map (Value.int .i64) ++ [.int .i64 x])) (hg : (W.alloc (.cells #[.int .i64 x] 2)).grownBy W' v.ownBlock) : NumS w S (L ++ [x]) P e v' W' := by
  have hl := lt_of_blk h.rd
  refine ⟨(hg.block _ (by simp; omega) (own_ne' h.row h.rd (by decide))).trans ((Below.heap_alloc _ _ _ hl).trans h.rd), by simpa using hr, h.lo.grown (World_grown_alloc hg) (by omega) (fun k hk => own_block_ge h.row k hk)⟩

def NumRelR (w : World) (S : ByteArray) (n : Nat) (v i : Value) (W : World) : Prop :=
  ∃ (k P : Nat) (e : Int), k ≤ n ∧ i = .int .i64 k ∧ P ≤ S.size ∧ (readN k S 0).2 = (S.extract P S.size, e) ∧ NumS w S (readN k S 0).1 P e v W

set_option maxRecDepth 100000 in
set_option maxHeartbeats 4000000 in
theorem numbers31 (S : ByteArray) (n : Nat) (w : World) (hs : S.size ≤ 1000000) (hn : n ≤ 9) :
    Calls Tryd.prog 31 #[.string S, .int .i64 n] w fun x w' => (∃ v, x = .returned (.tuple #[v, .int .i64 (endF (readN n S 0).2.1 (readN n S 0).2.2)]) ∧ w'.ownsRow w.heap.size 2 1 v n ((readN n S 0).1.map (Value.int .i64))) ∧ Below w.heap.size w w' := by
  obtain ⟨i0, hi, hz0, hz1, hz2⟩ := info_parts info2
  have HO := Lib.hid (of25 S w)
  have e0 : S.extract 0 S.size = S := ByteArray.extract_zero_size
  have hst : ∀ w1, RdY w1 w.heap.size S 0 0 → Below w.heap.size w w1 → NumRelR w S n (.slice none 0 0) (.int .i64 0) w1 := fun w1 h1 h2 =>
    ⟨0, 0, 0, by omega, rfl, by omega, by rw [e0]; rfl, h1, ⟨rfl, .inl ⟨rfl, rfl⟩⟩, h2⟩
  have HST := Lib.hid hst
  clear hst e0
  go_enter Tryd.func31, Tryd.ntmps31
  go_wp2_with (go_at_call 43; refine HO.out.mono ?_; rintro e w1 ⟨rfl, hr1, hb1⟩; have HR1 := Lib.hid (HST.out _ hr1 hb1); clear hr1 hb1)
  go_loopw [7, 8] (fun v i W => NumRelR w S n v i W) (fun _ i _ => n - (intOf i).toNat)
  case atStart => exact HR1.out
  case round =>
    clear HR1 HST HO
    obtain ⟨k, P, e, hk, rfl, hP, hrd, hS⟩ := hrel
    have hlen := readN_len k S 0
    by_cases hlt : k < n
    · have hsn := readN_snoc k S 0
      rw [hrd] at hsn
      simp only at hsn
      have hle := num_le (S.extract P S.size)
      have HI := Lib.hid (int27 w.heap.size S P e wr hs hP hS.rd)
      rw [afterXY S P e _ _ hP] at hsn
      have hP2 := afterY_le S P e (M.num (S.extract P S.size).data.toList).2.2 _ hP hle
      obtain ⟨x, hx⟩ : ∃ x, orZ e (M.zag (M.num (S.extract P S.size).data.toList).1) 0 = x := ⟨_, rfl⟩
      obtain ⟨y, hy⟩ : ∃ y, AfterY P e (M.num (S.extract P S.size).data.toList).2.1 (M.num (S.extract P S.size).data.toList).2.2 = y := ⟨_, rfl⟩
      rw [hx, hy] at hsn HI
      rw [hy] at hP2
      obtain ⟨L, hL⟩ : ∃ L, (readN k S 0).1 = L := ⟨_, rfl⟩
      rw [hL] at hS hsn hlen
      have HSN := Lib.hid hsn
      have HS := Lib.hid hS
      have HLN := Lib.hid hlen
      clear hsn hS hx hy hL hrd hle hlen
      go_wp2_with (first
        | (go_at_call 44; refine HI.out.mono ?_; rintro e w2 ⟨rfl, hr2, hg2⟩; have HS2 := Lib.hid (HS.out.step hr2 hg2); have HO2 := Lib.hid HS2.out.row; have HB2 := Lib.hid HS2.out.lo.size; clear hr2 hg2)
        | (at_builtin; refine wpList_append_own _ rfl _ _ 56 rfl w.heap.size 2 i0 (.int .i64 0) 1 8 Tryd.underlying56 hi hz0 hz1 hz2 rfl (by decide) _ _ _ rfl (HO2.out.alloc _) ⟨w2.heap.size, 0, none⟩ 1 1 [.int .i64 x] rfl rfl (new_one _ _ _) (one_cell_i64 _) (by unfold maxLen; have := HLN.out; omega) (by have := HLN.out; omega) (by have := HB2.out; simp; omega) ?_; intro v' w3 hown' hgrow _; have HO3 := Lib.hid hown'; have HG3 := Lib.hid hgrow; clear hown' hgrow))
      go_roundw
      case rel =>
        refine ⟨k + 1, y.1, y.2, by omega, by go_num, hP2, by rw [HSN.out], ?_⟩
        rw [HSN.out]
        exact HS2.out.app HO3.out HG3.out
      case measure => simp [intOf]; omega
    · have hkn : k = n := by omega
      subst hkn
      obtain ⟨L, hL⟩ : ∃ L, (readN k S 0).1 = L := ⟨_, rfl⟩
      rw [hL] at hS hlen
      have HL := Lib.hid (left32 w.heap.size S P e wr hs hP hS.rd)
      have HS := Lib.hid hS
      obtain ⟨z, hz⟩ : ∃ z, (S.extract P S.size).size = z := ⟨_, rfl⟩
      rw [hz] at HL
      have HLN := Lib.hid hlen
      have HE : Hid (endF (readN k S 0).2.1 (readN k S 0).2.2 = if 0 < z then orZ e 3 e else e) := by show _ = _; rw [hrd]; unfold endF; rw [hz]
      have HLL := Lib.hid hL
      clear hS hrd hL hz hlen hs
      by_cases h0 : 0 < z
      · have HF := Lib.hid (fun (W : World) (h : RdY W w.heap.size S P e) => fail31 w.heap.size S P e 3 W h)
        obtain ⟨e3, he3⟩ : ∃ x, orZ e 3 e = x := ⟨_, rfl⟩
        have HE2 : Hid (endF (readN k S 0).2.1 (readN k S 0).2.2 = e3) := by show _ = _; rw [HE.out, if_pos h0, he3]
        rw [he3] at HF
        clear HE he3
        go_wp2_with (first
          | (go_at_call 45; refine HL.out.mono ?_; rintro x w6 ⟨rfl, m, rfl⟩; have HS6 := Lib.hid (HS.out.drewN m))
          | (go_at_call 46; refine (HF.out _ HS6.out.rd).mono ?_; rintro x w7 ⟨rfl, hr7, hg7⟩; have HS7 := Lib.hid (HS6.out.step hr7 hg7); have c2 := HS7.out.rd.c2; clear hr7 hg7))
        go_quiet (fail)
        go_wp2
        go_ret2
        rw [HE2.out, HLL.out]
        exact ⟨⟨_, rfl, by rw [← HLN.out]; exact (HS7.out.drewN _).row⟩, (HS7.out.drewN _).lo⟩
      · have HE2 : Hid (endF (readN k S 0).2.1 (readN k S 0).2.2 = e) := by show _ = _; rw [HE.out, if_neg h0]
        clear HE
        go_wp2_with (go_at_call 45; refine HL.out.mono ?_; rintro x w6 ⟨rfl, m, rfl⟩; have HS6 := Lib.hid (HS.out.drewN m); have c2 := HS.out.rd.c2)
        go_quiet (fail)
        go_wp2
        go_ret2
        rw [HE2.out, HLL.out]
        exact ⟨⟨_, rfl, by rw [← HLN.out]; exact (HS6.out.drewN _).row⟩, (HS6.out.drewN _).lo⟩
end Go.Proofs.YtnakmlnjfjgghaaDoor
