/- The document's Get of a book: the contract. -/
import Derived.Test.YtnhljfhpfpfniaaGreatSnR1
import Derived.Test.YtnhljfhpfpfniaaGreatMPG
import Derived.Test.YtnhljfhpfpfniaaGreatBkRef9
import Derived.Test.YtnhljfhpfpfniaaGreatClRef3
import Derived.BigQuiet
namespace Go.Proofs.YtnhljfhpfpfniaaGreat
open Go.RowKit Base Base2

/-- While the document's Get gets its columns; W1: the answer's box lies, W4: the book's, too. -/
structure RgS (W4 : World) (cs : List (List Int)) (W : World) : Prop where
  co : ∃ V, RgC (W4.heap.size + 1) W4.heap.size cs V W
  lo : Below W4.heap.size W4 W
theorem RgS.below {W4 : World} {cs : List (List Int)} {W W' : World} (h : RgS W4 cs W) (hb : Below W.heap.size W W') : RgS W4 cs W' := by
  obtain ⟨V, hV⟩ := h.co
  exact ⟨⟨V, hV.below hb⟩, h.lo.trans (hb.mono h.lo.size)⟩
theorem RgS.put {W4 : World} {cs : List (List Int)} {W W' : World} {l : List Int} {v : Value} {q : Nat} (h : RgS W4 cs W) (hq : cs.length = q) (hb : Below W.heap.size W W') (ho : W'.ownsRow W.heap.size 2 1 v l.length (l.map (Value.int .i64))) : RgS W4 (cs ++ [l]) (W'.setCell ⟨W4.heap.size, q, none⟩ v) := by
  obtain ⟨V, hV⟩ := h.co
  have hg := lt_of_blk hV.box
  exact ⟨⟨_, (hV.below hb).put hq (own_fromS ho (by omega))⟩, (h.lo.trans (hb.mono h.lo.size)).setCell (p := ⟨W4.heap.size, q, none⟩) (Nat.le_refl _) v⟩
theorem list15 {α : Type} {l : List α} (h : l.length = 15) : ∃ a b c d e f g i j k m n o p q, l = [a, b, c, d, e, f, g, i, j, k, m, n, o, p, q] := by
  match l, h with
  | [a, b, c, d, e, f, g, i, j, k, m, n, o, p, q], _ => exact ⟨a, b, c, d, e, f, g, i, j, k, m, n, o, p, q, rfl⟩
theorem bookOf_ok {cs : List (List Int)} {n : Nat} (h15 : cs.length = 15) (hok : ∀ (i : Nat) (c : List Int) (m : Nat), cs[i]? = some c → mostT[i]? = some m → c.length ≤ m ∧ ∀ x ∈ c, in64 x) (hn : n ≤ 1099511627776) : BookOk 1024 (bookOf cs n) := by
  have hall : ∀ c ∈ cs, c.length ≤ 1024 ∧ ∀ x ∈ c, in64 x := by
    intro c hcm
    obtain ⟨i, hi⟩ := List.mem_iff_getElem?.1 hcm
    have hlt : i < 15 := by have := (List.getElem?_eq_some_iff.1 hi).1; omega
    obtain ⟨m, hmi⟩ : ∃ m, mostT[i]? = some m := ⟨mostT[i]'(by simp [mostT]; omega), by simp⟩
    have hm2 : m ≤ 1024 := by
      have hmem := List.mem_of_getElem? hmi
      simp [mostT] at hmem
      omega
    have := hok i c m hi hmi
    exact ⟨by omega, this.2⟩
  have r1 := rows_ok (cs := cs.take 4) (m := 1024) (fun c hc => hall c (List.mem_of_mem_take hc))
  have r2 := rows_ok (cs := (cs.drop 4).take 3) (m := 1024) (fun c hc => hall c (List.mem_of_mem_drop (List.mem_of_mem_take hc)))
  have r3 := rows_ok (cs := (cs.drop 7).take 6) (m := 1024) (fun c hc => hall c (List.mem_of_mem_drop (List.mem_of_mem_take hc)))
  have r4 := rows_ok (cs := cs.drop 13) (m := 1024) (fun c hc => hall c (List.mem_of_mem_drop hc))
  rw [show (cs.take 4).length = 4 by simp [h15]] at r1
  rw [show ((cs.drop 4).take 3).length = 3 by simp [h15]] at r2
  rw [show ((cs.drop 7).take 6).length = 6 by simp [h15]] at r3
  rw [show (cs.drop 13).length = 2 by simp [h15]] at r4
  exact ⟨r1, r2, r3, r4, by unfold in6 bookOf; dsimp only; omega⟩
set_option maxRecDepth 100000 in
set_option maxHeartbeats 8000000 in
theorem rget13_bad (S : ByteArray) (w : World) (hS : S.size ≤ 1500) (n P : Nat) (e0 : Int) (hn : numM S.data.toList 1099511627776 = (n, P, e0)) (he0 : e0 ≠ 0) (R : BookT × Int) (hR : getSn S = R) :
    Calls Tryz.prog 13 #[.string S] w fun e w' => (∃ v, e = .returned (.tuple #[.agg (cellsB v R.1), .int .i64 R.2]) ∧ BookIn w' v R.1) ∧ Below w.heap.size w w' := by
  have hnb : n ≤ 1099511627776 := by rw [numM_zero hn he0]; omega
  have h0 : (S.extract 0 S.size).data.toList = S.data.toList := by rw [ext_drop]; rfl
  have HO := Lib.hid (fun W => of25 S W)
  have hN := fun q W h => num26 q S 0 0 1099511627776 W (by omega) (Nat.zero_le _) h
  have hn' : numTo S.data.toList (fun n => decide ((n : Int) ≤ 1099511627776)) = (n, P, e0) := hn
  simp only [h0, hn', orZ_ok] at hN
  have hcw : IntKind.i64.wrap (n : Int) = (n : Int) := by rw [IntKind.wrap_i64]; omega
  have HIZ := Lib.hid (show (Tryz.prog.info? 27).map (·.size) = some (#[.slice none 0 0, .slice none 0 0, .slice none 0 0, .slice none 0 0, .int .i64 0] : Array Value).size from info27)
  rw [AfterY_no _ _ _ he0] at hN
  dsimp only at hN
  have HN := Lib.hid hN
  have HERR := Lib.hid (show R = (zeroB, e0) by
    rw [← hR]
    show getSnap S.data.toList = _
    unfold getSnap
    rw [hn]
    dsimp only
    rw [if_pos he0])
  have hne : (e0 != 0) = true := by simpa using he0
  clear hN hn hn' hR h0 he0
  go_enter Tryz.func13, Tryz.ntmps13
  go_upto_region 3 with (first
    | (go_at_call 32; refine (HN.out _ _ HR2.out).mono ?_; rintro e w3 ⟨rfl, hr3, hg3⟩; have HR3 := Lib.hid hr3; have HG3 := Lib.hid hg3; clear hr3 hg3)
    | (go_at_call 31; refine (HO.out _).mono ?_; rintro e w2 ⟨rfl, hr2, hb2⟩; rw [World.size_alloc] at hr2; have HR2 := Lib.hid hr2; have HB2 := Lib.hid hb2; clear hr2 hb2))
  obtain ⟨W1, hW1⟩ : ∃ x, w.alloc (.cells #[.slice none 0 0, .slice none 0 0, .slice none 0 0, .slice none 0 0, .int .i64 0] 27) = x := ⟨_, rfl⟩
  have hs1 : w.heap.size + 1 = W1.heap.size := by rw [← hW1]; simp
  have hA : Below w.heap.size w W1 := by rw [← hW1]; exact (Below.refl _ w).alloc (Nat.le_refl _) _
  have hz1 : W1.heap[w.heap.size]? = some (.cells #[.slice none 0 0, .slice none 0 0, .slice none 0 0, .slice none 0 0, .int .i64 0] 27 (0, 0)) := by rw [← hW1]; exact heap_alloc_new w _
  have hb2 := HB2.out
  rw [hW1] at hb2
  have hl3 : Below W1.heap.size W1 w3 := hb2.grown HG3.out hb2.size (fun k e => by cases e; omega)
  have h34 : Below w3.heap.size w3 (w3.alloc (.cells #[.slice none 0 0, .slice none 0 0, .slice none 0 0, .slice none 0 0, .int .i64 (n : Int)] 27)) := (Below.refl _ _).alloc (Nat.le_refl _) _
  have hge := hl3.size
  refine at_world (Φ := fun W => RdY W (w.heap.size + 1) S 0 e0 ∧ Below W1.heap.size W1 W) ⟨HR3.out.below h34 HR3.out.lt, hl3.trans (h34.mono hge)⟩ ?_
  rintro W4 ⟨hr4, hl4⟩
  have k2 := hr4.c2
  have HR4 := Lib.hid (show RdY W4.drew (w.heap.size + 1) S 0 e0 from hr4)
  have HA := Lib.hid hA
  have HL4 := Lib.hid hl4.drew
  have HZW := Lib.hid (show ∀ W, Below W1.heap.size W1 W → W.heap[w.heap.size]? = some (.cells #[.slice none 0 0, .slice none 0 0, .slice none 0 0, .slice none 0 0, .int .i64 0] 27 (0, 0)) from fun W h => (h.block _ (by omega)).trans hz1)
  clear hA hr4 hl4 hW1 hb2 hl3 h34 hge HR2 HB2 HR3 HG3 HN HO hcw hz1 hs1
  go_upto_region 4 with (fail)
  refine wp_region_held_drew (S := fun W => RdY W (w.heap.size + 1) S 0 e0) (by kernel_rfl) (by exact HR4.out) (fun hS => ?_)
  refine wpAnyH_take (i := 0) (v := .agg #[.slice none 0 0, .slice none 0 0, .slice none 0 0, .slice none 0 0, .int .i64 0]) rfl (by kernel_rfl) (by kernel_rfl) (by kernel_rfl) (fun _ _ _ h => h) (Or.inl ⟨by simp [Region.wanted], fun W _ => by go_simp⟩) hS ?_
  simp only [List.getElem_toArray, List.getElem_cons_zero, Act.put, List.setIfInBounds_toArray, List.set_cons_zero, List.set_cons_succ]
  refine wpAnyH_take (i := 1) (v := .pointer (some ⟨w.heap.size + 1, 0, none⟩)) rfl (by kernel_rfl) (by kernel_rfl) (by kernel_rfl) (fun _ _ _ h => h) (Or.inl ⟨by simp [Region.wanted], fun W _ => by go_simp⟩) hS ?_
  simp only [List.getElem_toArray, List.getElem_cons_zero, List.getElem_cons_succ, Act.put, List.setIfInBounds_toArray, List.set_cons_zero, List.set_cons_succ]
  refine wpAnyH_take (i := 2) (v := .pointer (some ⟨w.heap.size + 1, 0, none⟩)) rfl (by kernel_rfl) (by kernel_rfl) (by kernel_rfl) (fun _ _ _ h => h) (Or.inl ⟨by simp [Region.wanted], fun W _ => by go_simp⟩) hS ?_
  simp only [List.getElem_toArray, List.getElem_cons_zero, List.getElem_cons_succ, Act.put, List.setIfInBounds_toArray, List.set_cons_zero, List.set_cons_succ]
  refine wpAnyH_take (i := 3) (v := .pointer (some ⟨w.heap.size + 1, 2, none⟩)) rfl (by kernel_rfl) (by kernel_rfl) (by kernel_rfl) (fun _ _ _ h => h) (Or.inl ⟨by simp [Region.wanted], fun W _ => by go_simp⟩) hS ?_
  simp only [List.getElem_toArray, List.getElem_cons_zero, List.getElem_cons_succ, Act.put, List.setIfInBounds_toArray, List.set_cons_zero, List.set_cons_succ]
  refine wpAnyH_take (i := 4) (v := .int .i64 e0) rfl (by kernel_rfl) (by kernel_rfl) (by kernel_rfl) (fun _ _ _ h => h) (Or.inl ⟨by simp [Region.wanted], fun W hW => by have kc := RdY.c2 hW; go_simp⟩) hS ?_
  simp only [List.getElem_toArray, List.getElem_cons_zero, List.getElem_cons_succ, Act.put, List.setIfInBounds_toArray, List.set_cons_zero, List.set_cons_succ]
  refine wpAnyH_ready (rs := [5]) (by kernel_rfl) (by simp) ?_
  refine AllReadyH.cons rfl (fun K1 hK1 => ?_) AllReadyH.nil
  refine wanted_go rfl ?_
  simp only [List.getElem_toArray, List.getElem_cons_zero, List.getElem_cons_succ]
  refine wp_store_row 27 (.tmp 2) (.tmp 29) rfl w.heap.size #[.slice none 0 0, .slice none 0 0, .slice none 0 0, .slice none 0 0, .int .i64 0] rfl rfl 27 _ (HZW.out _ HL4.out) HIZ.out rfl (by simp [Value.oneCell']) ?_
  refine hK1.out _ _ ((setRow_ne _ (by omega)).trans hS) (fun hS1 => ?_)
  refine wpAnyH_take (i := 6) (v := .int .i64 e0) rfl (by kernel_rfl) (by kernel_rfl) (by kernel_rfl) (fun _ _ _ h => h) (Or.inl ⟨by simp [Region.wanted], fun W _ => by go_simp⟩) hS1 ?_
  simp only [List.getElem_toArray, List.getElem_cons_zero, List.getElem_cons_succ, Act.put, List.setIfInBounds_toArray, List.set_cons_zero, List.set_cons_succ]
  refine wpAnyH_done (by kernel_rfl) ?_ _
  go_wp2
  refine ret_cell_tmp (v := .int .i64 e0) rfl rfl rfl rfl (setRow_heap _ _ _ _ _ _ (HZW.out _ HL4.out)) Tryz.underlying27 rfl HIZ.out ?_
  exact get_zero_end HA.out HL4.out HERR.out
set_option maxRecDepth 100000 in
set_option maxHeartbeats 16000000 in
theorem rget13S (S : ByteArray) (w : World) (hS : S.size ≤ 1500) :
    Calls Tryz.prog 13 #[.string S] w fun e w' => (∃ v, e = .returned (.tuple #[.agg (cellsB v (getSn S).1), .int .i64 (getSn S).2]) ∧ BookIn w' v (getSn S).1) ∧ Below w.heap.size w w' := by
  obtain ⟨R, hR⟩ : ∃ R, getSn S = R := ⟨_, rfl⟩
  obtain ⟨n, P, e0, hn⟩ : ∃ n P e0, numM S.data.toList 1099511627776 = (n, P, e0) := ⟨_, _, _, rfl⟩
  have hnb : n ≤ 1099511627776 := by
    by_cases he : e0 = 0
    · subst he; exact (numM_some hn).2
    · rw [numM_zero hn he]; omega
  have hPS : P ≤ S.size := by
    have h2 : numTo S.data.toList (fun n => decide ((n : Int) ≤ 1099511627776)) = (n, P, e0) := hn
    have hle := numTo_le S (fun n => decide ((n : Int) ≤ 1099511627776))
    rw [h2] at hle; exact hle
  have h0 : (S.extract 0 S.size).data.toList = S.data.toList := by rw [ext_drop]; rfl
  have HO := Lib.hid (fun W => of25 S W)
  have hN := fun q W h => num26 q S 0 0 1099511627776 W (by omega) (Nat.zero_le _) h
  have hn' : numTo S.data.toList (fun n => decide ((n : Int) ≤ 1099511627776)) = (n, P, e0) := hn
  simp only [h0, hn', orZ_ok] at hN
  have hcw : IntKind.i64.wrap (n : Int) = (n : Int) := by rw [IntKind.wrap_i64]; omega
  have HIZ := Lib.hid (show (Tryz.prog.info? 27).map (·.size) = some (#[.slice none 0 0, .slice none 0 0, .slice none 0 0, .slice none 0 0, .int .i64 0] : Array Value).size from info27)
  rw [hR]
  by_cases he0 : e0 = 0
  · subst he0
    rw [AfterY_ok, Int.toNat_natCast, Nat.zero_add] at hN
    dsimp only at hN
    have HN := Lib.hid hN
    have HRD := Lib.hid (show R = getSnap S.data.toList from hR.symm)
    have HNM := Lib.hid hn
    clear hN hn hn' hR h0
    go_enter Tryz.func13, Tryz.ntmps13
    go_upto_region 3 with (first
      | (go_at_call 32; refine (HN.out _ _ HR2.out).mono ?_; rintro e w3 ⟨rfl, hr3, hg3⟩; have HR3 := Lib.hid hr3; have HG3 := Lib.hid hg3; clear hr3 hg3)
      | (go_at_call 31; refine (HO.out _).mono ?_; rintro e w2 ⟨rfl, hr2, hb2⟩; rw [World.size_alloc] at hr2; have HR2 := Lib.hid hr2; have HB2 := Lib.hid hb2; clear hr2 hb2))
    obtain ⟨W1, hW1⟩ : ∃ x, w.alloc (.cells #[.slice none 0 0, .slice none 0 0, .slice none 0 0, .slice none 0 0, .int .i64 0] 27) = x := ⟨_, rfl⟩
    have hs1 : w.heap.size + 1 = W1.heap.size := by rw [← hW1]; simp
    have hA : Below w.heap.size w W1 := by rw [← hW1]; exact (Below.refl _ w).alloc (Nat.le_refl _) _
    have hz1 : W1.heap[w.heap.size]? = some (.cells #[.slice none 0 0, .slice none 0 0, .slice none 0 0, .slice none 0 0, .int .i64 0] 27 (0, 0)) := by rw [← hW1]; exact heap_alloc_new w _
    have hb2 := HB2.out
    rw [hW1] at hb2
    have hl3 : Below W1.heap.size W1 w3 := hb2.grown HG3.out hb2.size (fun k e => by cases e; omega)
    have h34 : Below w3.heap.size w3 (w3.alloc (.cells #[.slice none 0 0, .slice none 0 0, .slice none 0 0, .slice none 0 0, .int .i64 (n : Int)] 27)) := (Below.refl _ _).alloc (Nat.le_refl _) _
    have hge := hl3.size
    refine at_world (Φ := fun W => RdY W (w.heap.size + 1) S P 0 ∧ W.heap[w3.heap.size]? = some (.cells #[.slice none 0 0, .slice none 0 0, .slice none 0 0, .slice none 0 0, .int .i64 (n : Int)] 27 (0, 0)) ∧ Below W1.heap.size W1 W) ⟨HR3.out.below h34 HR3.out.lt, heap_alloc_new w3 _, hl3.trans (h34.mono hge)⟩ ?_
    rintro W4 ⟨hr4, hk4, hl4⟩
    have k1 := hr4.c1
    have k2 := hr4.c2
    have HA := Lib.hid hA
    have HZ1 := Lib.hid hz1
    have HK4 := Lib.hid hk4
    have HL4 := Lib.hid hl4
    have HS1 := Lib.hid hs1
    have HGB := Lib.hid (show W1.heap.size ≤ w3.heap.size from hge)
    clear hA hz1 hr4 hk4 hl4 hW1 hb2 hl3 h34 hge hs1 HR2 HB2 HR3 HG3 HN HO hcw
    generalize w3.heap.size = gb at *
    go_upto_region 7 with (fail)
    have HW1 := Lib.hid (show ∀ W, Below W4.heap.size W4 W → Below W1.heap.size W1 W from fun W h => HL4.out.trans (h.mono HL4.out.size))
    have HZW := Lib.hid (show ∀ W, Below W4.heap.size W4 W → W.heap[w.heap.size]? = some (.cells #[.slice none 0 0, .slice none 0 0, .slice none 0 0, .slice none 0 0, .int .i64 0] 27 (0, 0)) from fun W h => ((HL4.out.trans (h.mono HL4.out.size)).block _ (by have := HS1.out; omega)).trans HZ1.out)
    have HGW := Lib.hid (show ∀ W, Below W4.heap.size W4 W → W.heap[gb]? = some (.cells #[.slice none 0 0, .slice none 0 0, .slice none 0 0, .slice none 0 0, .int .i64 (n : Int)] 27 (0, 0)) from fun W h => (h.block _ (lt_of_blk HK4.out)).trans HK4.out)
    refine at_world (Φ := fun W => RgS W4 [] W) ⟨⟨fun _ => .slice none 0 0, heap_alloc_new W4 _, fun j c hc => by simp at hc⟩, (Below.refl _ _).alloc (Nat.le_refl _) _⟩ ?_
    rintro W5 h5
    have H5 := Lib.hid h5
    have HR0 := Lib.hid (show (S.extract P S.size).size ≤ 1500 ∧ (S.extract P S.size).data.toList = S.data.toList.drop P from ⟨by simp [ByteArray.size_extract]; omega, ext_drop S P⟩)
    have HGE := Lib.hid (show ∀ er : Int, er ≠ 0 → (getCols mostT (S.data.toList.drop P)).2.2 = er → R = (zeroB, er) from fun er h1 h2 => by
      rw [HRD.out]
      unfold getSnap
      rw [HNM.out]
      dsimp only
      rw [if_neg (by simp), h2, if_pos h1])
    have HZ2 := Lib.hid HZ1.out
    clear h5 k1 k2 HZ1 HK4
    generalize S.extract P S.size = rest0 at *
    go_wp2
    go_loopw [0, 7] (fun vs vi W => ∃ (q : Nat) (rest : ByteArray) (cs : List (List Int)), vi = .int .i64 (q : Int) ∧ q ≤ 15 ∧ vs = .string rest ∧ rest.size ≤ 1500 ∧ cs.length = q ∧ getCols (mostT.take q) (S.data.toList.drop P) = (cs, rest.data.toList, 0) ∧ RgS W4 cs W) (fun _ vi _ => 15 - (intOf vi).toNat)
    case atStart => exact ⟨0, rest0, [], rfl, Nat.zero_le _, rfl, HR0.out.1, rfl, by rw [HR0.out.2]; rfl, H5.out⟩
    case round =>
      clear H5 HR0
      obtain ⟨q, rest, cs, rfl, hq, rfl, hrs, hcl, hgc, hst⟩ := hrel
      have HST := Lib.hid hst
      have HCL := Lib.hid hcl
      have HGC := Lib.hid hgc
      clear hst hcl hgc
      by_cases hlt : q < 15
      · obtain ⟨m, hm⟩ : ∃ m, mostT[q]? = some m := ⟨mostT[q]'(by simp [mostT]; omega), by simp⟩
        obtain ⟨l, k, er, hg⟩ : ∃ l k er, getS rest.data.toList m = (l, k, er) := ⟨_, _, _, rfl⟩
        have hm2 : m ≤ 1024 := by
          have hmem := List.mem_of_getElem? hm
          simp [mostT] at hmem
          omega
        have hG := fun W => rget13 rest m W (by omega) (by omega)
        rw [hg] at hG
        have HG := Lib.hid hG
        clear hG hm2
        obtain ⟨V, hV⟩ := HST.out.co
        have hgcl := lt_of_blk hV.box
        have HGL := Lib.hid hgcl
        clear hV hgcl
        by_cases her : er = 0
        · subst her
          have hnx := getCols_next HGC.out hm hg
          have hkr : k ≤ rest.size := by rw [Lib.size_eq]; exact (put_get hg).2.1
          have HNX := Lib.hid (show getCols (mostT.take (q + 1)) (S.data.toList.drop P) = (cs ++ [l], (rest.extract k rest.size).data.toList, 0) by rw [hnx, drop_extract])
          have hrx : (rest.extract k rest.size).size ≤ 1500 := by simp [ByteArray.size_extract]; omega
          have HRX := Lib.hid hrx
          clear hnx hrx
          by_cases hq1 : q < 4
          · have g1 : ¬ (4 : Int) ≤ (q : Int) := by omega
            have g2 : ¬ (7 : Int) ≤ (q : Int) := by omega
            obtain rfl : m = 32 := by
              match q, hq1, hm with
              | 0, _, hm => exact (Option.some.inj hm).symm
              | 1, _, hm => exact (Option.some.inj hm).symm
              | 2, _, hm => exact (Option.some.inj hm).symm
              | 3, _, hm => exact (Option.some.inj hm).symm
            clear hm
            go_wp2_with (go_at_call 33; refine (HG.out _).mono ?_; rintro e w9 ⟨⟨vl, rfl, hown⟩, hb9⟩; obtain ⟨al, cl, hvl⟩ := own_formS hown; subst hvl; have HOWN := Lib.hid hown; have HB9 := Lib.hid hb9; have HPUT := Lib.hid (HST.out.put HCL.out hb9 hown); obtain ⟨uc, huc⟩ := cell_of_blkN (hb9.block _ HGL.out |>.trans (HST.out.co.choose_spec.box)) q (by simp; omega); have hfc := free_of_blkN (hb9.block _ HGL.out |>.trans (HST.out.co.choose_spec.box)) q; clear hown hb9)
            go_roundw
            case rel => exact ⟨q + 1, _, cs ++ [l], by go_num, hlt, rfl, HRX.out, by rw [List.length_append, HCL.out]; rfl, HNX.out, HPUT.out⟩
            case measure => simp [intOf]; omega
          · by_cases hq2 : q < 7
            · have g1 : (4 : Int) ≤ (q : Int) := by omega
              have g2 : (q : Int) < 7 := by omega
              have hq1 : 4 ≤ q ∧ q < 7 := by omega
              obtain rfl : m = 1024 := by
                match q, hq1, hm with
                | 4, _, hm => exact (Option.some.inj hm).symm
                | 5, _, hm => exact (Option.some.inj hm).symm
                | 6, _, hm => exact (Option.some.inj hm).symm
              clear hm
              go_wp2_with (go_at_call 33; refine (HG.out _).mono ?_; rintro e w9 ⟨⟨vl, rfl, hown⟩, hb9⟩; obtain ⟨al, cl, hvl⟩ := own_formS hown; subst hvl; have HOWN := Lib.hid hown; have HB9 := Lib.hid hb9; have HPUT := Lib.hid (HST.out.put HCL.out hb9 hown); obtain ⟨uc, huc⟩ := cell_of_blkN (hb9.block _ HGL.out |>.trans (HST.out.co.choose_spec.box)) q (by simp; omega); have hfc := free_of_blkN (hb9.block _ HGL.out |>.trans (HST.out.co.choose_spec.box)) q; clear hown hb9)
              go_roundw
              case rel => exact ⟨q + 1, _, cs ++ [l], by go_num, hlt, rfl, HRX.out, by rw [List.length_append, HCL.out]; rfl, HNX.out, HPUT.out⟩
              case measure => simp [intOf]; omega
            · by_cases hq3 : q < 13
              · have g1 : (4 : Int) ≤ (q : Int) := by omega
                have g2 : ¬ (q : Int) < 7 := by omega
                have g3 : (7 : Int) ≤ (q : Int) := by omega
                have g4 : (q : Int) < 13 := by omega
                have hq1 : 7 ≤ q ∧ q < 13 := by omega
                obtain rfl : m = 64 := by
                  match q, hq1, hm with
                  | 7, _, hm => exact (Option.some.inj hm).symm
                  | 8, _, hm => exact (Option.some.inj hm).symm
                  | 9, _, hm => exact (Option.some.inj hm).symm
                  | 10, _, hm => exact (Option.some.inj hm).symm
                  | 11, _, hm => exact (Option.some.inj hm).symm
                  | 12, _, hm => exact (Option.some.inj hm).symm
                clear hm
                go_wp2_with (go_at_call 33; refine (HG.out _).mono ?_; rintro e w9 ⟨⟨vl, rfl, hown⟩, hb9⟩; obtain ⟨al, cl, hvl⟩ := own_formS hown; subst hvl; have HOWN := Lib.hid hown; have HB9 := Lib.hid hb9; have HPUT := Lib.hid (HST.out.put HCL.out hb9 hown); obtain ⟨uc, huc⟩ := cell_of_blkN (hb9.block _ HGL.out |>.trans (HST.out.co.choose_spec.box)) q (by simp; omega); have hfc := free_of_blkN (hb9.block _ HGL.out |>.trans (HST.out.co.choose_spec.box)) q; clear hown hb9)
                go_roundw
                case rel => exact ⟨q + 1, _, cs ++ [l], by go_num, hlt, rfl, HRX.out, by rw [List.length_append, HCL.out]; rfl, HNX.out, HPUT.out⟩
                case measure => simp [intOf]; omega
              · have g1 : (4 : Int) ≤ (q : Int) := by omega
                have g2 : ¬ (q : Int) < 7 := by omega
                have g3 : (7 : Int) ≤ (q : Int) := by omega
                have g4 : ¬ (q : Int) < 13 := by omega
                have hq1 : 13 ≤ q ∧ q < 15 := by omega
                obtain rfl : m = 32 := by
                  match q, hq1, hm with
                  | 13, _, hm => exact (Option.some.inj hm).symm
                  | 14, _, hm => exact (Option.some.inj hm).symm
                clear hm
                go_wp2_with (go_at_call 33; refine (HG.out _).mono ?_; rintro e w9 ⟨⟨vl, rfl, hown⟩, hb9⟩; obtain ⟨al, cl, hvl⟩ := own_formS hown; subst hvl; have HOWN := Lib.hid hown; have HB9 := Lib.hid hb9; have HPUT := Lib.hid (HST.out.put HCL.out hb9 hown); obtain ⟨uc, huc⟩ := cell_of_blkN (hb9.block _ HGL.out |>.trans (HST.out.co.choose_spec.box)) q (by simp; omega); have hfc := free_of_blkN (hb9.block _ HGL.out |>.trans (HST.out.co.choose_spec.box)) q; clear hown hb9)
                go_roundw
                case rel => exact ⟨q + 1, _, cs ++ [l], by go_num, hlt, rfl, HRX.out, by rw [List.length_append, HCL.out]; rfl, HNX.out, HPUT.out⟩
                case measure => simp [intOf]; omega
        · have HERR := Lib.hid (HGE.out er her (by have h := getCols_fail HGC.out hm (by rw [hg]; exact her); rw [h, hg]))
          have hne : (er != 0) = true := by simpa using her
          clear her
          by_cases hq1 : q < 4
          · have g1 : ¬ (4 : Int) ≤ (q : Int) := by omega
            have g2 : ¬ (7 : Int) ≤ (q : Int) := by omega
            obtain rfl : m = 32 := by
              match q, hq1, hm with
              | 0, _, hm => exact (Option.some.inj hm).symm
              | 1, _, hm => exact (Option.some.inj hm).symm
              | 2, _, hm => exact (Option.some.inj hm).symm
              | 3, _, hm => exact (Option.some.inj hm).symm
            clear hm
            go_wp2_with (first
              | ((with_reducible refine atStore (ty := 27) (x := .tmp 2) (y := .tmp 65) rfl ?_); refine wpList_store_row rfl 27 (.tmp 2) (.tmp 65) rfl w.heap.size #[.slice none 0 0, .slice none 0 0, .slice none 0 0, .slice none 0 0, .int .i64 0] rfl rfl 27 #[.slice none 0 0, .slice none 0 0, .slice none 0 0, .slice none 0 0, .int .i64 0] (HZW.out _ HST9.out.lo) info27 rfl (by simp [Value.oneCell']) ?_)
              | (go_at_call 33; refine (HG.out _).mono ?_; rintro e w9 ⟨⟨vl, rfl, hown⟩, hb9⟩; obtain ⟨al, cl, hvl⟩ := own_formS hown; subst hvl; have HOWN := Lib.hid hown; have HB9 := Lib.hid hb9; have HST9 := Lib.hid (HST.out.below hb9); clear hown hb9))
            refine ret_cell_tmp (v := .int .i64 er) rfl rfl rfl rfl (setRow_heap _ _ _ _ _ _ (HZW.out _ HST9.out.lo)) Tryz.underlying27 rfl HIZ.out ?_
            exact get_zero_end HA.out (HW1.out _ HST9.out.lo) HERR.out
          · by_cases hq2 : q < 7
            · have g1 : (4 : Int) ≤ (q : Int) := by omega
              have g2 : (q : Int) < 7 := by omega
              have hq1 : 4 ≤ q ∧ q < 7 := by omega
              obtain rfl : m = 1024 := by
                match q, hq1, hm with
                | 4, _, hm => exact (Option.some.inj hm).symm
                | 5, _, hm => exact (Option.some.inj hm).symm
                | 6, _, hm => exact (Option.some.inj hm).symm
              clear hm
              go_wp2_with (first
                | ((with_reducible refine atStore (ty := 27) (x := .tmp 2) (y := .tmp 65) rfl ?_); refine wpList_store_row rfl 27 (.tmp 2) (.tmp 65) rfl w.heap.size #[.slice none 0 0, .slice none 0 0, .slice none 0 0, .slice none 0 0, .int .i64 0] rfl rfl 27 #[.slice none 0 0, .slice none 0 0, .slice none 0 0, .slice none 0 0, .int .i64 0] (HZW.out _ HST9.out.lo) info27 rfl (by simp [Value.oneCell']) ?_)
                | (go_at_call 33; refine (HG.out _).mono ?_; rintro e w9 ⟨⟨vl, rfl, hown⟩, hb9⟩; obtain ⟨al, cl, hvl⟩ := own_formS hown; subst hvl; have HOWN := Lib.hid hown; have HB9 := Lib.hid hb9; have HST9 := Lib.hid (HST.out.below hb9); clear hown hb9))
              refine ret_cell_tmp (v := .int .i64 er) rfl rfl rfl rfl (setRow_heap _ _ _ _ _ _ (HZW.out _ HST9.out.lo)) Tryz.underlying27 rfl HIZ.out ?_
              exact get_zero_end HA.out (HW1.out _ HST9.out.lo) HERR.out
            · by_cases hq3 : q < 13
              · have g1 : (4 : Int) ≤ (q : Int) := by omega
                have g2 : ¬ (q : Int) < 7 := by omega
                have g3 : (7 : Int) ≤ (q : Int) := by omega
                have g4 : (q : Int) < 13 := by omega
                have hq1 : 7 ≤ q ∧ q < 13 := by omega
                obtain rfl : m = 64 := by
                  match q, hq1, hm with
                  | 7, _, hm => exact (Option.some.inj hm).symm
                  | 8, _, hm => exact (Option.some.inj hm).symm
                  | 9, _, hm => exact (Option.some.inj hm).symm
                  | 10, _, hm => exact (Option.some.inj hm).symm
                  | 11, _, hm => exact (Option.some.inj hm).symm
                  | 12, _, hm => exact (Option.some.inj hm).symm
                clear hm
                go_wp2_with (first
                  | ((with_reducible refine atStore (ty := 27) (x := .tmp 2) (y := .tmp 65) rfl ?_); refine wpList_store_row rfl 27 (.tmp 2) (.tmp 65) rfl w.heap.size #[.slice none 0 0, .slice none 0 0, .slice none 0 0, .slice none 0 0, .int .i64 0] rfl rfl 27 #[.slice none 0 0, .slice none 0 0, .slice none 0 0, .slice none 0 0, .int .i64 0] (HZW.out _ HST9.out.lo) info27 rfl (by simp [Value.oneCell']) ?_)
                  | (go_at_call 33; refine (HG.out _).mono ?_; rintro e w9 ⟨⟨vl, rfl, hown⟩, hb9⟩; obtain ⟨al, cl, hvl⟩ := own_formS hown; subst hvl; have HOWN := Lib.hid hown; have HB9 := Lib.hid hb9; have HST9 := Lib.hid (HST.out.below hb9); clear hown hb9))
                refine ret_cell_tmp (v := .int .i64 er) rfl rfl rfl rfl (setRow_heap _ _ _ _ _ _ (HZW.out _ HST9.out.lo)) Tryz.underlying27 rfl HIZ.out ?_
                exact get_zero_end HA.out (HW1.out _ HST9.out.lo) HERR.out
              · have g1 : (4 : Int) ≤ (q : Int) := by omega
                have g2 : ¬ (q : Int) < 7 := by omega
                have g3 : (7 : Int) ≤ (q : Int) := by omega
                have g4 : ¬ (q : Int) < 13 := by omega
                have hq1 : 13 ≤ q ∧ q < 15 := by omega
                obtain rfl : m = 32 := by
                  match q, hq1, hm with
                  | 13, _, hm => exact (Option.some.inj hm).symm
                  | 14, _, hm => exact (Option.some.inj hm).symm
                clear hm
                go_wp2_with (first
                  | ((with_reducible refine atStore (ty := 27) (x := .tmp 2) (y := .tmp 65) rfl ?_); refine wpList_store_row rfl 27 (.tmp 2) (.tmp 65) rfl w.heap.size #[.slice none 0 0, .slice none 0 0, .slice none 0 0, .slice none 0 0, .int .i64 0] rfl rfl 27 #[.slice none 0 0, .slice none 0 0, .slice none 0 0, .slice none 0 0, .int .i64 0] (HZW.out _ HST9.out.lo) info27 rfl (by simp [Value.oneCell']) ?_)
                  | (go_at_call 33; refine (HG.out _).mono ?_; rintro e w9 ⟨⟨vl, rfl, hown⟩, hb9⟩; obtain ⟨al, cl, hvl⟩ := own_formS hown; subst hvl; have HOWN := Lib.hid hown; have HB9 := Lib.hid hb9; have HST9 := Lib.hid (HST.out.below hb9); clear hown hb9))
                refine ret_cell_tmp (v := .int .i64 er) rfl rfl rfl rfl (setRow_heap _ _ _ _ _ _ (HZW.out _ HST9.out.lo)) Tryz.underlying27 rfl HIZ.out ?_
                exact get_zero_end HA.out (HW1.out _ HST9.out.lo) HERR.out
      · obtain rfl : q = 15 := by omega
        have hgc : getCols mostT (S.data.toList.drop P) = (cs, rest.data.toList, 0) := HGC.out
        have h15 := HCL.out
        have hfin := HRD.out
        unfold getSnap at hfin
        rw [HNM.out] at hfin
        dsimp only at hfin
        have n0 : ¬ (0 : Int) ≠ 0 := by simp
        rw [if_neg n0, hgc] at hfin
        dsimp only at hfin
        rw [if_neg n0] at hfin
        obtain ⟨_, _, hok⟩ := getCols_one _ _ _ _ hgc
        clear n0 hgc HGC HGE hlt hq
        by_cases hre : rest.data.toList = []
        · rw [if_neg (by simp [hre])] at hfin
          have he1 : rest = ⟨#[]⟩ := ByteArray.ext (Array.toList_inj.1 (by simpa using hre))
          subst he1
          go_upto_region 22 with (fail)
          obtain ⟨V, hV⟩ := HST.out.co
          have HVV := Lib.hid (show ∀ W, KeepT wr W → RgC (W4.heap.size + 1) W4.heap.size cs V W from fun W h => hV.keep h)
          have HOK := Lib.hid hok
          have HLO := Lib.hid HST.out.lo
          have HFM := Lib.hid (show ∀ q, q < 15 → ∃ a cap, V q = .slice a (lenQ cs q) cap from fun q hq => by
            obtain ⟨c, hc, hl⟩ := col_get h15 hq
            rw [← hl]
            exact hV.form hc)
          have HFIN := Lib.hid hfin
          have HLQ := Lib.hid (show ∀ q, q < 15 → lenQ cs q ≤ 1024 from fun q hq => by
            obtain ⟨c, hc, hl⟩ := col_get h15 hq
            obtain ⟨m, hm⟩ : ∃ m, mostT[q]? = some m := ⟨mostT[q]'(by simp [mostT]; omega), by simp⟩
            have hmem := List.mem_of_getElem? hm
            simp [mostT] at hmem
            have := (hok q c m hc hm).1
            omega)
          have H15 := Lib.hid h15
          clear hV hok hfin h15 hrs hre HCL HST
          obtain ⟨Wc, hWc⟩ : ∃ x, x = wr := ⟨_, rfl⟩
          subst hWc
          go_wp2
          go_loopw [12] (fun vi W => ∃ q : Nat, vi = .int .i64 (q : Int) ∧ q ≤ 15 ∧ Below Wc.heap.size Wc W ∧ ∀ j, j < q → lenQ cs j = lenQ cs (firstT j)) (fun vi _ => 15 - (intOf vi).toNat)
          case atStart => exact ⟨0, rfl, Nat.zero_le _, Below.refl _ _, fun j hj => absurd hj (Nat.not_lt_zero _)⟩
          case round =>
            obtain ⟨q, rfl, hq, hbw, hev⟩ := hrel
            have HBW := Lib.hid hbw
            have HEV := Lib.hid hev
            clear hbw hev
            by_cases hlt : q < 15
            · have hV := HVV.out _ (KeepT.below HBW.out)
              obtain ⟨aq, cq, hfq⟩ := HFM.out q hlt
              have kq := hV.cell hlt
              rw [hfq] at kq
              have hlq := HLQ.out q hlt
              obtain ⟨nq', hnq⟩ : ∃ x, lenQ cs q = x := ⟨_, rfl⟩
              rw [hnq] at kq hlq
              have HNQ := Lib.hid hnq
              clear hfq hnq
              by_cases hq1 : q < 4
              · have g1 : ¬ (4 : Int) ≤ (q : Int) := by omega
                have g2 : ¬ (7 : Int) ≤ (q : Int) := by omega
                have g3 : ¬ (13 : Int) ≤ (q : Int) := by omega
                have hfT : firstT q = 0 := by unfold firstT; rw [if_pos (by omega)]
                have kf := hV.cell (show 0 < 15 by decide)
                obtain ⟨af, cf, hff⟩ := HFM.out 0 (by decide)
                rw [hff] at kf
                have hlf := HLQ.out 0 (by decide)
                obtain ⟨nf, hnf⟩ : ∃ x, lenQ cs 0 = x := ⟨_, rfl⟩
                rw [hnf] at kf hlf
                have HNF := Lib.hid hnf
                have HFT := Lib.hid hfT
                by_cases heq : nq' = nf
                · have HNX := Lib.hid (show ∀ j, j < q + 1 → lenQ cs j = lenQ cs (firstT j) from fun j hj => by
                    by_cases h : j < q
                    · exact HEV.out j h
                    · obtain rfl : j = q := by omega
                      rw [HFT.out, HNF.out, HNQ.out, heq])
                  have t1 : ((nq' : Int) != (nf : Int)) = false := by simp; omega
                  clear hff hnf hfT hV heq
                  go_upto_region 32 with (fail)
                  go_quiet (fail)
                  go_wp2
                  go_roundw
                  case rel => exact ⟨q + 1, by go_num, hlt, below_drewN' HBW.out _, HNX.out⟩
                  case measure => simp [intOf]; omega
                · have HERR := Lib.hid (show R = (zeroB, 3) from by
                    have hno : lensT cs = false := by
                      cases h : lensT cs with
                      | false => rfl
                      | true => exact absurd (by have h2 := (lens_iff H15.out).1 h q hlt; rw [HFT.out, HNF.out, HNQ.out] at h2; exact h2) heq
                    have h := HFIN.out
                    rw [if_pos hno] at h
                    exact h)
                  have t1 : ((nq' : Int) != (nf : Int)) = true := by simp; omega
                  have HLW := Lib.hid (show Below W4.heap.size W4 wr from HLO.out.trans (HBW.out.mono HLO.out.size))
                  clear hff hnf hfT hV heq
                  go_upto_region 32 with (fail)
                  go_quiet (fail)
                  have HLX := Lib.hid (below_drewN' HLW.out nq)
                  go_wp2_with ((with_reducible refine atStore (ty := 27) (x := .tmp 2) (y := .tmp 95) rfl ?_); refine wpList_store_row rfl 27 (.tmp 2) (.tmp 95) rfl w.heap.size #[.slice none 0 0, .slice none 0 0, .slice none 0 0, .slice none 0 0, .int .i64 0] rfl rfl 27 #[.slice none 0 0, .slice none 0 0, .slice none 0 0, .slice none 0 0, .int .i64 0] (HZW.out _ HLX.out) info27 rfl (by simp [Value.oneCell']) ?_)
                  refine ret_cell_tmp (v := .int .i64 3) rfl rfl rfl rfl (setRow_heap _ _ _ _ _ _ (HZW.out _ HLX.out)) Tryz.underlying27 rfl HIZ.out ?_
                  exact get_zero_end HA.out (HW1.out _ HLX.out) HERR.out
              · have g1 : (4 : Int) ≤ (q : Int) := by omega
                by_cases hq2 : q < 7
                · have g2 : ¬ (7 : Int) ≤ (q : Int) := by omega
                  have g3 : ¬ (13 : Int) ≤ (q : Int) := by omega
                  have hfT : firstT q = 4 := by unfold firstT; rw [if_neg (by omega), if_pos (by omega)]
                  have kf := hV.cell (show 4 < 15 by decide)
                  obtain ⟨af, cf, hff⟩ := HFM.out 4 (by decide)
                  rw [hff] at kf
                  have hlf := HLQ.out 4 (by decide)
                  obtain ⟨nf, hnf⟩ : ∃ x, lenQ cs 4 = x := ⟨_, rfl⟩
                  rw [hnf] at kf hlf
                  have HNF := Lib.hid hnf
                  have HFT := Lib.hid hfT
                  by_cases heq : nq' = nf
                  · have HNX := Lib.hid (show ∀ j, j < q + 1 → lenQ cs j = lenQ cs (firstT j) from fun j hj => by
                      by_cases h : j < q
                      · exact HEV.out j h
                      · obtain rfl : j = q := by omega
                        rw [HFT.out, HNF.out, HNQ.out, heq])
                    have t1 : ((nq' : Int) != (nf : Int)) = false := by simp; omega
                    clear hff hnf hfT hV heq
                    go_upto_region 32 with (fail)
                    go_quiet (fail)
                    go_wp2
                    go_roundw
                    case rel => exact ⟨q + 1, by go_num, hlt, below_drewN' HBW.out _, HNX.out⟩
                    case measure => simp [intOf]; omega
                  · have HERR := Lib.hid (show R = (zeroB, 3) from by
                      have hno : lensT cs = false := by
                        cases h : lensT cs with
                        | false => rfl
                        | true => exact absurd (by have h2 := (lens_iff H15.out).1 h q hlt; rw [HFT.out, HNF.out, HNQ.out] at h2; exact h2) heq
                      have h := HFIN.out
                      rw [if_pos hno] at h
                      exact h)
                    have t1 : ((nq' : Int) != (nf : Int)) = true := by simp; omega
                    have HLW := Lib.hid (show Below W4.heap.size W4 wr from HLO.out.trans (HBW.out.mono HLO.out.size))
                    clear hff hnf hfT hV heq
                    go_upto_region 32 with (fail)
                    go_quiet (fail)
                    have HLX := Lib.hid (below_drewN' HLW.out nq)
                    go_wp2_with ((with_reducible refine atStore (ty := 27) (x := .tmp 2) (y := .tmp 95) rfl ?_); refine wpList_store_row rfl 27 (.tmp 2) (.tmp 95) rfl w.heap.size #[.slice none 0 0, .slice none 0 0, .slice none 0 0, .slice none 0 0, .int .i64 0] rfl rfl 27 #[.slice none 0 0, .slice none 0 0, .slice none 0 0, .slice none 0 0, .int .i64 0] (HZW.out _ HLX.out) info27 rfl (by simp [Value.oneCell']) ?_)
                    refine ret_cell_tmp (v := .int .i64 3) rfl rfl rfl rfl (setRow_heap _ _ _ _ _ _ (HZW.out _ HLX.out)) Tryz.underlying27 rfl HIZ.out ?_
                    exact get_zero_end HA.out (HW1.out _ HLX.out) HERR.out
                · have g2 : (7 : Int) ≤ (q : Int) := by omega
                  by_cases hq3 : q < 13
                  · have g3 : ¬ (13 : Int) ≤ (q : Int) := by omega
                    have hfT : firstT q = 7 := by unfold firstT; rw [if_neg (by omega), if_neg (by omega), if_pos (by omega)]
                    have kf := hV.cell (show 7 < 15 by decide)
                    obtain ⟨af, cf, hff⟩ := HFM.out 7 (by decide)
                    rw [hff] at kf
                    have hlf := HLQ.out 7 (by decide)
                    obtain ⟨nf, hnf⟩ : ∃ x, lenQ cs 7 = x := ⟨_, rfl⟩
                    rw [hnf] at kf hlf
                    have HNF := Lib.hid hnf
                    have HFT := Lib.hid hfT
                    by_cases heq : nq' = nf
                    · have HNX := Lib.hid (show ∀ j, j < q + 1 → lenQ cs j = lenQ cs (firstT j) from fun j hj => by
                        by_cases h : j < q
                        · exact HEV.out j h
                        · obtain rfl : j = q := by omega
                          rw [HFT.out, HNF.out, HNQ.out, heq])
                      have t1 : ((nq' : Int) != (nf : Int)) = false := by simp; omega
                      clear hff hnf hfT hV heq
                      go_upto_region 32 with (fail)
                      go_quiet (fail)
                      go_wp2
                      go_roundw
                      case rel => exact ⟨q + 1, by go_num, hlt, below_drewN' HBW.out _, HNX.out⟩
                      case measure => simp [intOf]; omega
                    · have HERR := Lib.hid (show R = (zeroB, 3) from by
                        have hno : lensT cs = false := by
                          cases h : lensT cs with
                          | false => rfl
                          | true => exact absurd (by have h2 := (lens_iff H15.out).1 h q hlt; rw [HFT.out, HNF.out, HNQ.out] at h2; exact h2) heq
                        have h := HFIN.out
                        rw [if_pos hno] at h
                        exact h)
                      have t1 : ((nq' : Int) != (nf : Int)) = true := by simp; omega
                      have HLW := Lib.hid (show Below W4.heap.size W4 wr from HLO.out.trans (HBW.out.mono HLO.out.size))
                      clear hff hnf hfT hV heq
                      go_upto_region 32 with (fail)
                      go_quiet (fail)
                      have HLX := Lib.hid (below_drewN' HLW.out nq)
                      go_wp2_with ((with_reducible refine atStore (ty := 27) (x := .tmp 2) (y := .tmp 95) rfl ?_); refine wpList_store_row rfl 27 (.tmp 2) (.tmp 95) rfl w.heap.size #[.slice none 0 0, .slice none 0 0, .slice none 0 0, .slice none 0 0, .int .i64 0] rfl rfl 27 #[.slice none 0 0, .slice none 0 0, .slice none 0 0, .slice none 0 0, .int .i64 0] (HZW.out _ HLX.out) info27 rfl (by simp [Value.oneCell']) ?_)
                      refine ret_cell_tmp (v := .int .i64 3) rfl rfl rfl rfl (setRow_heap _ _ _ _ _ _ (HZW.out _ HLX.out)) Tryz.underlying27 rfl HIZ.out ?_
                      exact get_zero_end HA.out (HW1.out _ HLX.out) HERR.out
                  · have g3 : (13 : Int) ≤ (q : Int) := by omega
                    have hfT : firstT q = 13 := by unfold firstT; rw [if_neg (by omega), if_neg (by omega), if_neg (by omega)]
                    have kf := hV.cell (show 13 < 15 by decide)
                    obtain ⟨af, cf, hff⟩ := HFM.out 13 (by decide)
                    rw [hff] at kf
                    have hlf := HLQ.out 13 (by decide)
                    obtain ⟨nf, hnf⟩ : ∃ x, lenQ cs 13 = x := ⟨_, rfl⟩
                    rw [hnf] at kf hlf
                    have HNF := Lib.hid hnf
                    have HFT := Lib.hid hfT
                    by_cases heq : nq' = nf
                    · have HNX := Lib.hid (show ∀ j, j < q + 1 → lenQ cs j = lenQ cs (firstT j) from fun j hj => by
                        by_cases h : j < q
                        · exact HEV.out j h
                        · obtain rfl : j = q := by omega
                          rw [HFT.out, HNF.out, HNQ.out, heq])
                      have t1 : ((nq' : Int) != (nf : Int)) = false := by simp; omega
                      clear hff hnf hfT hV heq
                      go_upto_region 32 with (fail)
                      go_quiet (fail)
                      go_wp2
                      go_roundw
                      case rel => exact ⟨q + 1, by go_num, hlt, below_drewN' HBW.out _, HNX.out⟩
                      case measure => simp [intOf]; omega
                    · have HERR := Lib.hid (show R = (zeroB, 3) from by
                        have hno : lensT cs = false := by
                          cases h : lensT cs with
                          | false => rfl
                          | true => exact absurd (by have h2 := (lens_iff H15.out).1 h q hlt; rw [HFT.out, HNF.out, HNQ.out] at h2; exact h2) heq
                        have h := HFIN.out
                        rw [if_pos hno] at h
                        exact h)
                      have t1 : ((nq' : Int) != (nf : Int)) = true := by simp; omega
                      have HLW := Lib.hid (show Below W4.heap.size W4 wr from HLO.out.trans (HBW.out.mono HLO.out.size))
                      clear hff hnf hfT hV heq
                      go_upto_region 32 with (fail)
                      go_quiet (fail)
                      have HLX := Lib.hid (below_drewN' HLW.out nq)
                      go_wp2_with ((with_reducible refine atStore (ty := 27) (x := .tmp 2) (y := .tmp 95) rfl ?_); refine wpList_store_row rfl 27 (.tmp 2) (.tmp 95) rfl w.heap.size #[.slice none 0 0, .slice none 0 0, .slice none 0 0, .slice none 0 0, .int .i64 0] rfl rfl 27 #[.slice none 0 0, .slice none 0 0, .slice none 0 0, .slice none 0 0, .int .i64 0] (HZW.out _ HLX.out) info27 rfl (by simp [Value.oneCell']) ?_)
                      refine ret_cell_tmp (v := .int .i64 3) rfl rfl rfl rfl (setRow_heap _ _ _ _ _ _ (HZW.out _ HLX.out)) Tryz.underlying27 rfl HIZ.out ?_
                      exact get_zero_end HA.out (HW1.out _ HLX.out) HERR.out
            · obtain rfl : q = 15 := by omega
              have hlens : lensT cs = true := (lens_iff H15.out).2 (fun q hq => HEV.out q hq)
              have hfin := HFIN.out
              rw [if_neg (by rw [hlens]; simp)] at hfin
              have HBO := Lib.hid (bookOf_ok H15.out HOK.out hnb)
              have HLL := Lib.hid ((lens_iff H15.out).1 hlens)
              obtain ⟨c0, c1, c2, c3, c4, c5, c6, c7, c8, c9, c10, c11, c12, c13, c14, hcs⟩ := list15 H15.out
              subst hcs
              have HVX := Lib.hid (show ∀ W, KeepT wr W → RgC (W4.heap.size + 1) W4.heap.size _ V W from fun W h => HVV.out W ((KeepT.below HBW.out).trans h))
              have hlo := HLO.out.trans (HBW.out.mono HLO.out.size)
              have HLX := Lib.hid (HW1.out _ hlo)
              have HBZ := Lib.hid (BkS.zero (HGW.out _ hlo) HGB.out)
              have HZX := Lib.hid (show ∀ W, Below W1.heap.size W1 W → W.heap[w.heap.size]? = some (.cells #[.slice none 0 0, .slice none 0 0, .slice none 0 0, .slice none 0 0, .int .i64 0] 27 (0, 0)) from fun W h => (h.block _ (by have := HS1.out; omega)).trans HZ2.out)
              obtain ⟨n0, hn0⟩ : ∃ x, c0.length = x := ⟨_, rfl⟩
              have hn0_1 : c1.length = n0 := (HLL.out 1 (by decide)).trans hn0
              have hn0_2 : c2.length = n0 := (HLL.out 2 (by decide)).trans hn0
              have hn0_3 : c3.length = n0 := (HLL.out 3 (by decide)).trans hn0
              have hn0_0 := hn0
              have hb0 : n0 ≤ 1024 := by have h := HLQ.out 0 (by decide); rw [← hn0]; exact h
              obtain ⟨L0, hL0⟩ : ∃ x, rowsT [c0, c1, c2, c3] = x := ⟨_, rfl⟩
              have HL0 := Lib.hid (show L0.length = n0 by rw [← hL0, rowsT_len]; exact hn0)
              have HX0 := Lib.hid (show ∀ i, i < n0 → L0[i]? = some [c0.getD i 0, c1.getD i 0, c2.getD i 0, c3.getD i 0] from fun i hi => by rw [← hL0]; exact rowsT_at (by show i < c0.length; omega))
              have HF0 := Lib.hid (show ∃ a cap, V 0 = .slice a n0 cap by rw [← hn0]; exact HFM.out 0 (by decide))
              have HN0_0 := Lib.hid hn0_0
              have HN0_1 := Lib.hid hn0_1
              have HN0_2 := Lib.hid hn0_2
              have HN0_3 := Lib.hid hn0_3
              clear hn0_0 hn0_1 hn0_2 hn0_3 hn0
              obtain ⟨n1, hn1⟩ : ∃ x, c4.length = x := ⟨_, rfl⟩
              have hn1_1 : c5.length = n1 := (HLL.out 5 (by decide)).trans hn1
              have hn1_2 : c6.length = n1 := (HLL.out 6 (by decide)).trans hn1
              have hn1_0 := hn1
              have hb1 : n1 ≤ 1024 := by have h := HLQ.out 4 (by decide); rw [← hn1]; exact h
              obtain ⟨L1, hL1⟩ : ∃ x, rowsT [c4, c5, c6] = x := ⟨_, rfl⟩
              have HL1 := Lib.hid (show L1.length = n1 by rw [← hL1, rowsT_len]; exact hn1)
              have HX1 := Lib.hid (show ∀ i, i < n1 → L1[i]? = some [c4.getD i 0, c5.getD i 0, c6.getD i 0] from fun i hi => by rw [← hL1]; exact rowsT_at (by show i < c4.length; omega))
              have HF1 := Lib.hid (show ∃ a cap, V 4 = .slice a n1 cap by rw [← hn1]; exact HFM.out 4 (by decide))
              have HN1_0 := Lib.hid hn1_0
              have HN1_1 := Lib.hid hn1_1
              have HN1_2 := Lib.hid hn1_2
              clear hn1_0 hn1_1 hn1_2 hn1
              obtain ⟨n2, hn2⟩ : ∃ x, c7.length = x := ⟨_, rfl⟩
              have hn2_1 : c8.length = n2 := (HLL.out 8 (by decide)).trans hn2
              have hn2_2 : c9.length = n2 := (HLL.out 9 (by decide)).trans hn2
              have hn2_3 : c10.length = n2 := (HLL.out 10 (by decide)).trans hn2
              have hn2_4 : c11.length = n2 := (HLL.out 11 (by decide)).trans hn2
              have hn2_5 : c12.length = n2 := (HLL.out 12 (by decide)).trans hn2
              have hn2_0 := hn2
              have hb2 : n2 ≤ 1024 := by have h := HLQ.out 7 (by decide); rw [← hn2]; exact h
              obtain ⟨L2, hL2⟩ : ∃ x, rowsT [c7, c8, c9, c10, c11, c12] = x := ⟨_, rfl⟩
              have HL2 := Lib.hid (show L2.length = n2 by rw [← hL2, rowsT_len]; exact hn2)
              have HX2 := Lib.hid (show ∀ i, i < n2 → L2[i]? = some [c7.getD i 0, c8.getD i 0, c9.getD i 0, c10.getD i 0, c11.getD i 0, c12.getD i 0] from fun i hi => by rw [← hL2]; exact rowsT_at (by show i < c7.length; omega))
              have HF2 := Lib.hid (show ∃ a cap, V 7 = .slice a n2 cap by rw [← hn2]; exact HFM.out 7 (by decide))
              have HN2_0 := Lib.hid hn2_0
              have HN2_1 := Lib.hid hn2_1
              have HN2_2 := Lib.hid hn2_2
              have HN2_3 := Lib.hid hn2_3
              have HN2_4 := Lib.hid hn2_4
              have HN2_5 := Lib.hid hn2_5
              clear hn2_0 hn2_1 hn2_2 hn2_3 hn2_4 hn2_5 hn2
              obtain ⟨n3, hn3⟩ : ∃ x, c13.length = x := ⟨_, rfl⟩
              have hn3_1 : c14.length = n3 := (HLL.out 14 (by decide)).trans hn3
              have hn3_0 := hn3
              have hb3 : n3 ≤ 1024 := by have h := HLQ.out 13 (by decide); rw [← hn3]; exact h
              obtain ⟨L3, hL3⟩ : ∃ x, rowsT [c13, c14] = x := ⟨_, rfl⟩
              have HL3 := Lib.hid (show L3.length = n3 by rw [← hL3, rowsT_len]; exact hn3)
              have HX3 := Lib.hid (show ∀ i, i < n3 → L3[i]? = some [c13.getD i 0, c14.getD i 0] from fun i hi => by rw [← hL3]; exact rowsT_at (by show i < c13.length; omega))
              have HF3 := Lib.hid (show ∃ a cap, V 13 = .slice a n3 cap by rw [← hn3]; exact HFM.out 13 (by decide))
              have HN3_0 := Lib.hid hn3_0
              have HN3_1 := Lib.hid hn3_1
              clear hn3_0 hn3_1 hn3
              obtain ⟨BB, hBB⟩ : ∃ x, bookOf [c0, c1, c2, c3, c4, c5, c6, c7, c8, c9, c10, c11, c12, c13, c14] n = x := ⟨_, rfl⟩
              rw [hBB] at hfin HBO
              have HBB := Lib.hid (show BB = ⟨L0, L1, L2, L3, (n : Int)⟩ from hBB.symm.trans (by rw [← hL0, ← hL1, ← hL2, ← hL3]; rfl))
              have HFIN2 := Lib.hid hfin
              clear hlens hfin hBB hlo hlt hq hL0 hL1 hL2 hL3 HFIN HLL HLQ HFM HVV HLO HBW HEV HOK H15
              obtain ⟨Wd, hWd⟩ : ∃ x, x = wr := ⟨_, rfl⟩
              subst hWd
              go_wp2
              go_loopw [14] (fun vi W => ∃ (i : Nat) (v : Slots), vi = .int .i64 (i : Int) ∧ i ≤ n0 ∧ KeepT Wd W ∧ Below W1.heap.size W1 W ∧ BkS W1.heap.size gb W v ⟨L0.take i, [], [], [], (n : Int)⟩) (fun vi _ => n0 - (intOf vi).toNat)
              case atStart => exact ⟨0, _, rfl, Nat.zero_le _, KeepT.refl _, HLX.out, HBZ.out⟩
              case round =>
                obtain ⟨i, v, rfl, hi, hkt, hlw, hbk⟩ := hrel
                clear HLX HBZ
                have HKT := Lib.hid hkt
                have HLW := Lib.hid hlw
                have HBK := Lib.hid hbk
                have HV := Lib.hid (HVX.out _ hkt)
                clear hkt hlw hbk
                by_cases hlt : i < n0
                · have hix := HX0.out i hlt
                  have hlen : (L0.take i).length = i := by rw [List.length_take, HL0.out]; omega
                  have HTN := Lib.hid (take_one hix)
                  obtain ⟨g0, p0, hv0⟩ := HV.out.ptr (j := 0) (c := c0) rfl (by rw [HN0_0.out]; omega)
                  rw [HN0_0.out] at hv0
                  have hz0 : c0[i]? = some (c0.getD i 0) := by rw [List.getD_eq_getElem?_getD]; have := HN0_0.out; simp [show i < c0.length by omega]
                  generalize c0.getD i 0 = z0 at *
                  have HQ0 := Lib.hid (show ∀ W, KeepT Wd W → W.cell? ⟨W4.heap.size, 0, none⟩ = some (.slice (some ⟨g0, 0, none⟩) n0 p0) ∧ W.cell? ⟨g0, i, none⟩ = some (.int .i64 z0) from fun W h => ⟨by rw [← hv0]; exact (HVX.out W h).cell (by decide), (HVX.out W h).at (j := 0) rfl hz0 hv0⟩)
                  obtain ⟨g1, p1, hv1⟩ := HV.out.ptr (j := 1) (c := c1) rfl (by rw [HN0_1.out]; omega)
                  rw [HN0_1.out] at hv1
                  have hz1 : c1[i]? = some (c1.getD i 0) := by rw [List.getD_eq_getElem?_getD]; have := HN0_1.out; simp [show i < c1.length by omega]
                  generalize c1.getD i 0 = z1 at *
                  have HQ1 := Lib.hid (show ∀ W, KeepT Wd W → W.cell? ⟨W4.heap.size, 1, none⟩ = some (.slice (some ⟨g1, 0, none⟩) n0 p1) ∧ W.cell? ⟨g1, i, none⟩ = some (.int .i64 z1) from fun W h => ⟨by rw [← hv1]; exact (HVX.out W h).cell (by decide), (HVX.out W h).at (j := 1) rfl hz1 hv1⟩)
                  obtain ⟨g2, p2, hv2⟩ := HV.out.ptr (j := 2) (c := c2) rfl (by rw [HN0_2.out]; omega)
                  rw [HN0_2.out] at hv2
                  have hz2 : c2[i]? = some (c2.getD i 0) := by rw [List.getD_eq_getElem?_getD]; have := HN0_2.out; simp [show i < c2.length by omega]
                  generalize c2.getD i 0 = z2 at *
                  have HQ2 := Lib.hid (show ∀ W, KeepT Wd W → W.cell? ⟨W4.heap.size, 2, none⟩ = some (.slice (some ⟨g2, 0, none⟩) n0 p2) ∧ W.cell? ⟨g2, i, none⟩ = some (.int .i64 z2) from fun W h => ⟨by rw [← hv2]; exact (HVX.out W h).cell (by decide), (HVX.out W h).at (j := 2) rfl hz2 hv2⟩)
                  obtain ⟨g3, p3, hv3⟩ := HV.out.ptr (j := 3) (c := c3) rfl (by rw [HN0_3.out]; omega)
                  rw [HN0_3.out] at hv3
                  have hz3 : c3[i]? = some (c3.getD i 0) := by rw [List.getD_eq_getElem?_getD]; have := HN0_3.out; simp [show i < c3.length by omega]
                  generalize c3.getD i 0 = z3 at *
                  have HQ3 := Lib.hid (show ∀ W, KeepT Wd W → W.cell? ⟨W4.heap.size, 3, none⟩ = some (.slice (some ⟨g3, 0, none⟩) n0 p3) ∧ W.cell? ⟨g3, i, none⟩ = some (.int .i64 z3) from fun W h => ⟨by rw [← hv3]; exact (HVX.out W h).cell (by decide), (HVX.out W h).at (j := 3) rfl hz3 hv3⟩)
                  have k0 := (HQ0.out _ HKT.out).1
                  obtain ⟨i0, hi0, hz0', hz1', hz2'⟩ := info_parts infoZHolder
                  have hown := HBK.out.h
                  dsimp only at hown
                  rw [hlen] at hown
                  have HOWN := Lib.hid hown
                  have hec := HBK.out.box.cells.1
                  dsimp only at hec
                  rw [hlen] at hec
                  have HEC := Lib.hid hec
                  have HB0 := Lib.hid HLW.out.size
                  clear hown hec hix hv0 hz0 hv1 hz1 hv2 hz2 hv3 hz3
                  go_upto_region 37 with (fail)
                  clear k0
                  have HAL := Lib.hid (show Below wr.heap.size wr (wr.alloc (.cells #[.int .i64 z0, .int .i64 z1, .int .i64 z2, .int .i64 z3] 62)).drew from ((Below.refl _ _).alloc (Nat.le_refl _) _).drew)
                  refine wp_region_held_drew (S := fun W => KeepT Wd W) (by kernel_rfl) (by exact HKT.out.trans (KeepT.below ((Below.refl _ _).drew))) (fun hS => ?_)
                  refine wpAnyH_take (i := 0) (v := .pointer (some ⟨gb, 0, none⟩)) rfl (by kernel_rfl) (by kernel_rfl) (by kernel_rfl) (fun _ _ _ h => h) (Or.inl ⟨by simp [Region.wanted], fun W _ => by go_simp⟩) hS ?_
                  simp only [List.getElem_toArray, List.getElem_cons_zero, Act.put, List.setIfInBounds_toArray, List.set_cons_zero, List.set_cons_succ]
                  refine wpAnyH_take (i := 2) (v := .pointer (some ⟨W4.heap.size, 0, none⟩)) rfl (by kernel_rfl) (by kernel_rfl) (by kernel_rfl) (fun _ _ _ h => h) (Or.inl ⟨by simp [Region.wanted], fun W _ => by go_simp⟩) hS ?_
                  simp only [List.getElem_toArray, List.getElem_cons_zero, List.getElem_cons_succ, Act.put, List.setIfInBounds_toArray, List.set_cons_zero, List.set_cons_succ]
                  refine wpAnyH_take (i := 3) (v := .slice (some ⟨g0, 0, none⟩) n0 p0) rfl (by kernel_rfl) (by kernel_rfl) (by kernel_rfl) (fun _ _ _ h => h) (Or.inl ⟨by simp [Region.wanted], fun W hW => by have kc := (HQ0.out W hW).1; go_simp⟩) hS ?_
                  simp only [List.getElem_toArray, List.getElem_cons_zero, List.getElem_cons_succ, Act.put, List.setIfInBounds_toArray, List.set_cons_zero, List.set_cons_succ]
                  refine wpAnyH_take (i := 4) (v := .int .i64 (i : Int)) rfl (by kernel_rfl) (by kernel_rfl) (by kernel_rfl) (fun _ _ _ h => h) (Or.inl ⟨by simp [Region.wanted], fun W _ => by go_simp⟩) hS ?_
                  simp only [List.getElem_toArray, List.getElem_cons_zero, List.getElem_cons_succ, Act.put, List.setIfInBounds_toArray, List.set_cons_zero, List.set_cons_succ]
                  refine wpAnyH_take (i := 5) (v := .pointer (some ⟨g0, i, none⟩)) rfl (by kernel_rfl) (by kernel_rfl) (by kernel_rfl) (fun _ _ _ h => h) (Or.inl ⟨by simp [Region.wanted], fun W _ => by go_simp⟩) hS ?_
                  simp only [List.getElem_toArray, List.getElem_cons_zero, List.getElem_cons_succ, Act.put, List.setIfInBounds_toArray, List.set_cons_zero, List.set_cons_succ]
                  refine wpAnyH_take (i := 6) (v := .int .i64 z0) rfl (by kernel_rfl) (by kernel_rfl) (by kernel_rfl) (fun _ _ _ h => h) (Or.inl ⟨by simp [Region.wanted], fun W hW => by have kz := (HQ0.out W hW).2; go_simp⟩) hS ?_
                  simp only [List.getElem_toArray, List.getElem_cons_zero, List.getElem_cons_succ, Act.put, List.setIfInBounds_toArray, List.set_cons_zero, List.set_cons_succ]
                  refine wpAnyH_take (i := 7) (v := .pointer (some ⟨W4.heap.size, 1, none⟩)) rfl (by kernel_rfl) (by kernel_rfl) (by kernel_rfl) (fun _ _ _ h => h) (Or.inl ⟨by simp [Region.wanted], fun W _ => by go_simp⟩) hS ?_
                  simp only [List.getElem_toArray, List.getElem_cons_zero, List.getElem_cons_succ, Act.put, List.setIfInBounds_toArray, List.set_cons_zero, List.set_cons_succ]
                  refine wpAnyH_take (i := 8) (v := .slice (some ⟨g1, 0, none⟩) n0 p1) rfl (by kernel_rfl) (by kernel_rfl) (by kernel_rfl) (fun _ _ _ h => h) (Or.inl ⟨by simp [Region.wanted], fun W hW => by have kc := (HQ1.out W hW).1; go_simp⟩) hS ?_
                  simp only [List.getElem_toArray, List.getElem_cons_zero, List.getElem_cons_succ, Act.put, List.setIfInBounds_toArray, List.set_cons_zero, List.set_cons_succ]
                  refine wpAnyH_take (i := 9) (v := .int .i64 (i : Int)) rfl (by kernel_rfl) (by kernel_rfl) (by kernel_rfl) (fun _ _ _ h => h) (Or.inl ⟨by simp [Region.wanted], fun W _ => by go_simp⟩) hS ?_
                  simp only [List.getElem_toArray, List.getElem_cons_zero, List.getElem_cons_succ, Act.put, List.setIfInBounds_toArray, List.set_cons_zero, List.set_cons_succ]
                  refine wpAnyH_take (i := 10) (v := .pointer (some ⟨g1, i, none⟩)) rfl (by kernel_rfl) (by kernel_rfl) (by kernel_rfl) (fun _ _ _ h => h) (Or.inl ⟨by simp [Region.wanted], fun W _ => by go_simp⟩) hS ?_
                  simp only [List.getElem_toArray, List.getElem_cons_zero, List.getElem_cons_succ, Act.put, List.setIfInBounds_toArray, List.set_cons_zero, List.set_cons_succ]
                  refine wpAnyH_take (i := 11) (v := .int .i64 z1) rfl (by kernel_rfl) (by kernel_rfl) (by kernel_rfl) (fun _ _ _ h => h) (Or.inl ⟨by simp [Region.wanted], fun W hW => by have kz := (HQ1.out W hW).2; go_simp⟩) hS ?_
                  simp only [List.getElem_toArray, List.getElem_cons_zero, List.getElem_cons_succ, Act.put, List.setIfInBounds_toArray, List.set_cons_zero, List.set_cons_succ]
                  refine wpAnyH_take (i := 12) (v := .pointer (some ⟨W4.heap.size, 2, none⟩)) rfl (by kernel_rfl) (by kernel_rfl) (by kernel_rfl) (fun _ _ _ h => h) (Or.inl ⟨by simp [Region.wanted], fun W _ => by go_simp⟩) hS ?_
                  simp only [List.getElem_toArray, List.getElem_cons_zero, List.getElem_cons_succ, Act.put, List.setIfInBounds_toArray, List.set_cons_zero, List.set_cons_succ]
                  refine wpAnyH_take (i := 13) (v := .slice (some ⟨g2, 0, none⟩) n0 p2) rfl (by kernel_rfl) (by kernel_rfl) (by kernel_rfl) (fun _ _ _ h => h) (Or.inl ⟨by simp [Region.wanted], fun W hW => by have kc := (HQ2.out W hW).1; go_simp⟩) hS ?_
                  simp only [List.getElem_toArray, List.getElem_cons_zero, List.getElem_cons_succ, Act.put, List.setIfInBounds_toArray, List.set_cons_zero, List.set_cons_succ]
                  refine wpAnyH_take (i := 14) (v := .int .i64 (i : Int)) rfl (by kernel_rfl) (by kernel_rfl) (by kernel_rfl) (fun _ _ _ h => h) (Or.inl ⟨by simp [Region.wanted], fun W _ => by go_simp⟩) hS ?_
                  simp only [List.getElem_toArray, List.getElem_cons_zero, List.getElem_cons_succ, Act.put, List.setIfInBounds_toArray, List.set_cons_zero, List.set_cons_succ]
                  refine wpAnyH_take (i := 15) (v := .pointer (some ⟨g2, i, none⟩)) rfl (by kernel_rfl) (by kernel_rfl) (by kernel_rfl) (fun _ _ _ h => h) (Or.inl ⟨by simp [Region.wanted], fun W _ => by go_simp⟩) hS ?_
                  simp only [List.getElem_toArray, List.getElem_cons_zero, List.getElem_cons_succ, Act.put, List.setIfInBounds_toArray, List.set_cons_zero, List.set_cons_succ]
                  refine wpAnyH_take (i := 16) (v := .int .i64 z2) rfl (by kernel_rfl) (by kernel_rfl) (by kernel_rfl) (fun _ _ _ h => h) (Or.inl ⟨by simp [Region.wanted], fun W hW => by have kz := (HQ2.out W hW).2; go_simp⟩) hS ?_
                  simp only [List.getElem_toArray, List.getElem_cons_zero, List.getElem_cons_succ, Act.put, List.setIfInBounds_toArray, List.set_cons_zero, List.set_cons_succ]
                  refine wpAnyH_take (i := 17) (v := .pointer (some ⟨W4.heap.size, 3, none⟩)) rfl (by kernel_rfl) (by kernel_rfl) (by kernel_rfl) (fun _ _ _ h => h) (Or.inl ⟨by simp [Region.wanted], fun W _ => by go_simp⟩) hS ?_
                  simp only [List.getElem_toArray, List.getElem_cons_zero, List.getElem_cons_succ, Act.put, List.setIfInBounds_toArray, List.set_cons_zero, List.set_cons_succ]
                  refine wpAnyH_take (i := 18) (v := .slice (some ⟨g3, 0, none⟩) n0 p3) rfl (by kernel_rfl) (by kernel_rfl) (by kernel_rfl) (fun _ _ _ h => h) (Or.inl ⟨by simp [Region.wanted], fun W hW => by have kc := (HQ3.out W hW).1; go_simp⟩) hS ?_
                  simp only [List.getElem_toArray, List.getElem_cons_zero, List.getElem_cons_succ, Act.put, List.setIfInBounds_toArray, List.set_cons_zero, List.set_cons_succ]
                  refine wpAnyH_take (i := 19) (v := .int .i64 (i : Int)) rfl (by kernel_rfl) (by kernel_rfl) (by kernel_rfl) (fun _ _ _ h => h) (Or.inl ⟨by simp [Region.wanted], fun W _ => by go_simp⟩) hS ?_
                  simp only [List.getElem_toArray, List.getElem_cons_zero, List.getElem_cons_succ, Act.put, List.setIfInBounds_toArray, List.set_cons_zero, List.set_cons_succ]
                  refine wpAnyH_take (i := 20) (v := .pointer (some ⟨g3, i, none⟩)) rfl (by kernel_rfl) (by kernel_rfl) (by kernel_rfl) (fun _ _ _ h => h) (Or.inl ⟨by simp [Region.wanted], fun W _ => by go_simp⟩) hS ?_
                  simp only [List.getElem_toArray, List.getElem_cons_zero, List.getElem_cons_succ, Act.put, List.setIfInBounds_toArray, List.set_cons_zero, List.set_cons_succ]
                  refine wpAnyH_take (i := 21) (v := .int .i64 z3) rfl (by kernel_rfl) (by kernel_rfl) (by kernel_rfl) (fun _ _ _ h => h) (Or.inl ⟨by simp [Region.wanted], fun W hW => by have kz := (HQ3.out W hW).2; go_simp⟩) hS ?_
                  simp only [List.getElem_toArray, List.getElem_cons_zero, List.getElem_cons_succ, Act.put, List.setIfInBounds_toArray, List.set_cons_zero, List.set_cons_succ]
                  refine wpAnyH_take (i := 22) (v := .agg #[.int .i64 z0, .int .i64 z1, .int .i64 z2, .int .i64 z3]) rfl (by kernel_rfl) (by kernel_rfl) (by kernel_rfl) (fun _ _ _ h => h) (Or.inl ⟨by simp [Region.wanted], fun W _ => by go_simp⟩) hS ?_
                  simp only [List.getElem_toArray, List.getElem_cons_zero, List.getElem_cons_succ, Act.put, List.setIfInBounds_toArray, List.set_cons_zero, List.set_cons_succ]
                  refine wpAnyH_ready (rs := [1, 23]) (by kernel_rfl) (by simp) ?_
                  refine AllReadyH.cons rfl (fun KA hKA => ?_) (AllReadyH.cons rfl (fun KA hKA => ?_) AllReadyH.nil)
                  · refine wanted_go rfl ?_
                    simp only [List.getElem_toArray, List.getElem_cons_zero, List.getElem_cons_succ]
                    have ec := HEC.out
                    go_wp2
                    refine hKA.out _ _ (HKT.out.trans (KeepT.below ((Below.refl _ _).drew))) (fun _ => ?_)
                    clear ec
                    refine wpAnyH_ready (rs := [23]) (by kernel_rfl) (by simp) ?_
                    refine AllReadyH.cons rfl (fun KB hKB => ?_) AllReadyH.nil
                    refine wanted_go rfl ?_
                    simp only [List.getElem_toArray, List.getElem_cons_zero, List.getElem_cons_succ]
                    go_wp2
                    refine hKB.out _ _ (HKT.out.trans (KeepT.below HAL.out)) (fun _ => ?_)
                    obtain ⟨v', w2, hr, hown, hgrow, _⟩ := run_append_own (P := Tryz.prog) (w := (wr.alloc (.cells #[.int .i64 z0, .int .i64 z1, .int .i64 z2, .int .i64 z3] 62)).drew) W1.heap.size 22 22 62 i0 _ 4 32 Tryz.underlying22 hi0 hz0' hz1' hz2' rfl (by decide) _ _ _ (own_below' HOWN.out HAL.out) ⟨wr.heap.size, 0, none⟩ 1 1 [.int .i64 z0, .int .i64 z1, .int .i64 z2, .int .i64 z3] rfl (fun j u hu => new_cells wr [.int .i64 z0, .int .i64 z1, .int .i64 z2, .int .i64 z3] 62 j u hu) (one_items [z0, z1, z2, z3]) (by unfold maxLen; omega) (by omega) (Nat.le_trans HB0.out HAL.out.size)
                    obtain ⟨av, cv, hv⟩ := own_formS hown
                    subst hv
                    have hS2 : BkS W1.heap.size gb (wr.alloc (.cells #[.int .i64 z0, .int .i64 z1, .int .i64 z2, .int .i64 z3] 62)).drew v ⟨L0.take i, [], [], [], (n : Int)⟩ := HBK.out.below HAL.out
                    obtain ⟨hN1, hN2, hN3, hN4, hN5⟩ := hS2.appHolder (x := [z0, z1, z2, z3]) (a := av) (cp := cv) (w2 := w2) (by show w2.ownsRow _ _ _ (.slice av ((L0.take i).length + 1) cv) ((L0.take i).length + 1) _; rw [hlen]; exact hown) (by show World.grownBy _ w2 (Value.slice v.h (L0.take i).length v.ch).ownBlock; rw [hlen]; exact hgrow) (Nat.le_trans HB0.out HAL.out.size)
                    dsimp only at hN1 hN2 hN3 hN4
                    rw [hlen] at hN1 hN2 hN3
                    have HKA := Lib.hid (HKT.out.trans (KeepT.below HAL.out))
                    have hfz := free_of_blkN hN4 0
                    obtain ⟨uo, hcc⟩ := cell_of_blkN hN4 0 (by simp [cellsB])
                    refine wpAnyH_ready (rs := [24]) (by kernel_rfl) (by simp) ?_
                    refine AllReadyH.cons rfl (fun KE hKE => ?_) AllReadyH.nil
                    refine wanted_go rfl ?_
                    simp only [List.getElem_toArray, List.getElem_cons_zero, List.getElem_cons_succ]
                    refine Lib.wp_append_run _ _ _ _ _ rfl _ _ rfl rfl _ _ hr ?_
                    refine hKE.out _ _ (HKA.out.trans hN5) (fun hSE => ?_)
                    refine wpAnyH_take (i := 25) (v := .pointer (some ⟨gb, 0, none⟩)) rfl (by kernel_rfl) (by kernel_rfl) (by kernel_rfl) (fun _ _ _ h => h) (Or.inl ⟨by simp [Region.wanted], fun W _ => by go_simp⟩) hSE ?_
                    simp only [List.getElem_toArray, List.getElem_cons_zero, List.getElem_cons_succ, Act.put, List.setIfInBounds_toArray, List.set_cons_zero, List.set_cons_succ]
                    refine wpAnyH_ready (rs := [26]) (by kernel_rfl) (by simp) ?_
                    refine AllReadyH.cons rfl (fun KF hKF => ?_) AllReadyH.nil
                    refine wanted_go rfl ?_
                    simp only [List.getElem_toArray, List.getElem_cons_zero, List.getElem_cons_succ]
                    go_wp2
                    refine hKF.out _ _ (HKA.out.trans hN2) (fun _ => ?_)
                    refine wpAnyH_done (by kernel_rfl) ?_ _
                    have HNB := Lib.hid (show BkS W1.heap.size gb _ _ ⟨L0.take (i + 1), [], [], [], (n : Int)⟩ by rw [HTN.out]; exact hN1)
                    have HNK := Lib.hid (HKA.out.trans hN2)
                    have HNL := Lib.hid ((HLW.out.trans (HAL.out.mono HB0.out)).trans hN3)
                    clear hN1 hN2 hN3 hN4 hN5 hS2 hown hgrow hr hfz hcc hSE
                    go_wp2
                    go_roundw
                    case rel => exact ⟨i + 1, _, by go_num, hlt, HNK.out, HNL.out, HNB.out⟩
                    case measure => simp [intOf]; omega
                  · refine wanted_go rfl ?_
                    simp only [List.getElem_toArray, List.getElem_cons_zero, List.getElem_cons_succ]
                    go_wp2
                    refine hKA.out _ _ (HKT.out.trans (KeepT.below HAL.out)) (fun _ => ?_)
                    refine wpAnyH_ready (rs := [1]) (by kernel_rfl) (by simp) ?_
                    refine AllReadyH.cons rfl (fun KB hKB => ?_) AllReadyH.nil
                    refine wanted_go rfl ?_
                    simp only [List.getElem_toArray, List.getElem_cons_zero, List.getElem_cons_succ]
                    have ec := (HAL.out.cell (p := ⟨gb, 0, none⟩) (lt_of_blk HBK.out.box)).trans HEC.out
                    go_wp2
                    refine hKB.out _ _ (HKT.out.trans (KeepT.below HAL.out)) (fun _ => ?_)
                    clear ec
                    obtain ⟨v', w2, hr, hown, hgrow, _⟩ := run_append_own (P := Tryz.prog) (w := (wr.alloc (.cells #[.int .i64 z0, .int .i64 z1, .int .i64 z2, .int .i64 z3] 62)).drew) W1.heap.size 22 22 62 i0 _ 4 32 Tryz.underlying22 hi0 hz0' hz1' hz2' rfl (by decide) _ _ _ (own_below' HOWN.out HAL.out) ⟨wr.heap.size, 0, none⟩ 1 1 [.int .i64 z0, .int .i64 z1, .int .i64 z2, .int .i64 z3] rfl (fun j u hu => new_cells wr [.int .i64 z0, .int .i64 z1, .int .i64 z2, .int .i64 z3] 62 j u hu) (one_items [z0, z1, z2, z3]) (by unfold maxLen; omega) (by omega) (Nat.le_trans HB0.out HAL.out.size)
                    obtain ⟨av, cv, hv⟩ := own_formS hown
                    subst hv
                    have hS2 : BkS W1.heap.size gb (wr.alloc (.cells #[.int .i64 z0, .int .i64 z1, .int .i64 z2, .int .i64 z3] 62)).drew v ⟨L0.take i, [], [], [], (n : Int)⟩ := HBK.out.below HAL.out
                    obtain ⟨hN1, hN2, hN3, hN4, hN5⟩ := hS2.appHolder (x := [z0, z1, z2, z3]) (a := av) (cp := cv) (w2 := w2) (by show w2.ownsRow _ _ _ (.slice av ((L0.take i).length + 1) cv) ((L0.take i).length + 1) _; rw [hlen]; exact hown) (by show World.grownBy _ w2 (Value.slice v.h (L0.take i).length v.ch).ownBlock; rw [hlen]; exact hgrow) (Nat.le_trans HB0.out HAL.out.size)
                    dsimp only at hN1 hN2 hN3 hN4
                    rw [hlen] at hN1 hN2 hN3
                    have HKA := Lib.hid (HKT.out.trans (KeepT.below HAL.out))
                    have hfz := free_of_blkN hN4 0
                    obtain ⟨uo, hcc⟩ := cell_of_blkN hN4 0 (by simp [cellsB])
                    refine wpAnyH_ready (rs := [24]) (by kernel_rfl) (by simp) ?_
                    refine AllReadyH.cons rfl (fun KE hKE => ?_) AllReadyH.nil
                    refine wanted_go rfl ?_
                    simp only [List.getElem_toArray, List.getElem_cons_zero, List.getElem_cons_succ]
                    refine Lib.wp_append_run _ _ _ _ _ rfl _ _ rfl rfl _ _ hr ?_
                    refine hKE.out _ _ (HKA.out.trans hN5) (fun hSE => ?_)
                    refine wpAnyH_take (i := 25) (v := .pointer (some ⟨gb, 0, none⟩)) rfl (by kernel_rfl) (by kernel_rfl) (by kernel_rfl) (fun _ _ _ h => h) (Or.inl ⟨by simp [Region.wanted], fun W _ => by go_simp⟩) hSE ?_
                    simp only [List.getElem_toArray, List.getElem_cons_zero, List.getElem_cons_succ, Act.put, List.setIfInBounds_toArray, List.set_cons_zero, List.set_cons_succ]
                    refine wpAnyH_ready (rs := [26]) (by kernel_rfl) (by simp) ?_
                    refine AllReadyH.cons rfl (fun KF hKF => ?_) AllReadyH.nil
                    refine wanted_go rfl ?_
                    simp only [List.getElem_toArray, List.getElem_cons_zero, List.getElem_cons_succ]
                    go_wp2
                    refine hKF.out _ _ (HKA.out.trans hN2) (fun _ => ?_)
                    refine wpAnyH_done (by kernel_rfl) ?_ _
                    have HNB := Lib.hid (show BkS W1.heap.size gb _ _ ⟨L0.take (i + 1), [], [], [], (n : Int)⟩ by rw [HTN.out]; exact hN1)
                    have HNK := Lib.hid (HKA.out.trans hN2)
                    have HNL := Lib.hid ((HLW.out.trans (HAL.out.mono HB0.out)).trans hN3)
                    clear hN1 hN2 hN3 hN4 hN5 hS2 hown hgrow hr hfz hcc hSE
                    go_wp2
                    go_roundw
                    case rel => exact ⟨i + 1, _, by go_num, hlt, HNK.out, HNL.out, HNB.out⟩
                    case measure => simp [intOf]; omega
                · obtain ⟨ax, px, hvx⟩ := HF0.out
                  have k0 := HV.out.cell (show 0 < 15 by decide)
                  rw [hvx] at k0
                  have hall : L0.take i = L0 := List.take_of_length_le (by rw [HL0.out]; omega)
                  have HBK2 := Lib.hid (show BkS W1.heap.size gb wr v ⟨L0, [], [], [], (n : Int)⟩ by have h := HBK.out; rw [hall] at h; exact h)
                  clear HBK hall hvx HV
                  have HBK := Lib.hid HBK2.out
                  clear HBK2
                  obtain ⟨v0, hv0⟩ : ∃ x, x = v := ⟨_, rfl⟩
                  subst hv0
                  go_wp2
                  clear k0 hlt hi
                  go_loopw [15] (fun vi W => ∃ (i : Nat) (v : Slots), vi = .int .i64 (i : Int) ∧ i ≤ n1 ∧ KeepT Wd W ∧ Below W1.heap.size W1 W ∧ BkS W1.heap.size gb W v ⟨L0, L1.take i, [], [], (n : Int)⟩) (fun vi _ => n1 - (intOf vi).toNat)
                  case atStart => exact ⟨0, v0, rfl, Nat.zero_le _, HKT.out, HLW.out, by rw [List.take_zero]; exact HBK.out⟩
                  case round =>
                    obtain ⟨i, v, rfl, hi, hkt, hlw, hbk⟩ := hrel
                    clear HKT HLW HBK
                    have HKT := Lib.hid hkt
                    have HLW := Lib.hid hlw
                    have HBK := Lib.hid hbk
                    have HV := Lib.hid (HVX.out _ hkt)
                    clear hkt hlw hbk
                    by_cases hlt : i < n1
                    · have hix := HX1.out i hlt
                      have hlen : (L1.take i).length = i := by rw [List.length_take, HL1.out]; omega
                      have HTN := Lib.hid (take_one hix)
                      obtain ⟨g0, p0, hv0⟩ := HV.out.ptr (j := 4) (c := c4) rfl (by rw [HN1_0.out]; omega)
                      rw [HN1_0.out] at hv0
                      have hz0 : c4[i]? = some (c4.getD i 0) := by rw [List.getD_eq_getElem?_getD]; have := HN1_0.out; simp [show i < c4.length by omega]
                      generalize c4.getD i 0 = z0 at *
                      have HQ0 := Lib.hid (show ∀ W, KeepT Wd W → W.cell? ⟨W4.heap.size, 4, none⟩ = some (.slice (some ⟨g0, 0, none⟩) n1 p0) ∧ W.cell? ⟨g0, i, none⟩ = some (.int .i64 z0) from fun W h => ⟨by rw [← hv0]; exact (HVX.out W h).cell (by decide), (HVX.out W h).at (j := 4) rfl hz0 hv0⟩)
                      obtain ⟨g1, p1, hv1⟩ := HV.out.ptr (j := 5) (c := c5) rfl (by rw [HN1_1.out]; omega)
                      rw [HN1_1.out] at hv1
                      have hz1 : c5[i]? = some (c5.getD i 0) := by rw [List.getD_eq_getElem?_getD]; have := HN1_1.out; simp [show i < c5.length by omega]
                      generalize c5.getD i 0 = z1 at *
                      have HQ1 := Lib.hid (show ∀ W, KeepT Wd W → W.cell? ⟨W4.heap.size, 5, none⟩ = some (.slice (some ⟨g1, 0, none⟩) n1 p1) ∧ W.cell? ⟨g1, i, none⟩ = some (.int .i64 z1) from fun W h => ⟨by rw [← hv1]; exact (HVX.out W h).cell (by decide), (HVX.out W h).at (j := 5) rfl hz1 hv1⟩)
                      obtain ⟨g2, p2, hv2⟩ := HV.out.ptr (j := 6) (c := c6) rfl (by rw [HN1_2.out]; omega)
                      rw [HN1_2.out] at hv2
                      have hz2 : c6[i]? = some (c6.getD i 0) := by rw [List.getD_eq_getElem?_getD]; have := HN1_2.out; simp [show i < c6.length by omega]
                      generalize c6.getD i 0 = z2 at *
                      have HQ2 := Lib.hid (show ∀ W, KeepT Wd W → W.cell? ⟨W4.heap.size, 6, none⟩ = some (.slice (some ⟨g2, 0, none⟩) n1 p2) ∧ W.cell? ⟨g2, i, none⟩ = some (.int .i64 z2) from fun W h => ⟨by rw [← hv2]; exact (HVX.out W h).cell (by decide), (HVX.out W h).at (j := 6) rfl hz2 hv2⟩)
                      have k0 := (HQ0.out _ HKT.out).1
                      obtain ⟨i0, hi0, hz0', hz1', hz2'⟩ := info_parts infoZStake
                      have hown := HBK.out.s
                      dsimp only at hown
                      rw [hlen] at hown
                      have HOWN := Lib.hid hown
                      have hec := HBK.out.box.cells.2.1
                      dsimp only at hec
                      rw [hlen] at hec
                      have HEC := Lib.hid hec
                      have HB0 := Lib.hid HLW.out.size
                      clear hown hec hix hv0 hz0 hv1 hz1 hv2 hz2
                      go_upto_region 41 with (fail)
                      clear k0
                      have HAL := Lib.hid (show Below wr.heap.size wr (wr.alloc (.cells #[.int .i64 z0, .int .i64 z1, .int .i64 z2] 66)).drew from ((Below.refl _ _).alloc (Nat.le_refl _) _).drew)
                      refine wp_region_held_drew (S := fun W => KeepT Wd W) (by kernel_rfl) (by exact HKT.out.trans (KeepT.below ((Below.refl _ _).drew))) (fun hS => ?_)
                      refine wpAnyH_take (i := 0) (v := .pointer (some ⟨gb, 1, none⟩)) rfl (by kernel_rfl) (by kernel_rfl) (by kernel_rfl) (fun _ _ _ h => h) (Or.inl ⟨by simp [Region.wanted], fun W _ => by go_simp⟩) hS ?_
                      simp only [List.getElem_toArray, List.getElem_cons_zero, Act.put, List.setIfInBounds_toArray, List.set_cons_zero, List.set_cons_succ]
                      refine wpAnyH_take (i := 2) (v := .pointer (some ⟨W4.heap.size, 4, none⟩)) rfl (by kernel_rfl) (by kernel_rfl) (by kernel_rfl) (fun _ _ _ h => h) (Or.inl ⟨by simp [Region.wanted], fun W _ => by go_simp⟩) hS ?_
                      simp only [List.getElem_toArray, List.getElem_cons_zero, List.getElem_cons_succ, Act.put, List.setIfInBounds_toArray, List.set_cons_zero, List.set_cons_succ]
                      refine wpAnyH_take (i := 3) (v := .slice (some ⟨g0, 0, none⟩) n1 p0) rfl (by kernel_rfl) (by kernel_rfl) (by kernel_rfl) (fun _ _ _ h => h) (Or.inl ⟨by simp [Region.wanted], fun W hW => by have kc := (HQ0.out W hW).1; go_simp⟩) hS ?_
                      simp only [List.getElem_toArray, List.getElem_cons_zero, List.getElem_cons_succ, Act.put, List.setIfInBounds_toArray, List.set_cons_zero, List.set_cons_succ]
                      refine wpAnyH_take (i := 4) (v := .int .i64 (i : Int)) rfl (by kernel_rfl) (by kernel_rfl) (by kernel_rfl) (fun _ _ _ h => h) (Or.inl ⟨by simp [Region.wanted], fun W _ => by go_simp⟩) hS ?_
                      simp only [List.getElem_toArray, List.getElem_cons_zero, List.getElem_cons_succ, Act.put, List.setIfInBounds_toArray, List.set_cons_zero, List.set_cons_succ]
                      refine wpAnyH_take (i := 5) (v := .pointer (some ⟨g0, i, none⟩)) rfl (by kernel_rfl) (by kernel_rfl) (by kernel_rfl) (fun _ _ _ h => h) (Or.inl ⟨by simp [Region.wanted], fun W _ => by go_simp⟩) hS ?_
                      simp only [List.getElem_toArray, List.getElem_cons_zero, List.getElem_cons_succ, Act.put, List.setIfInBounds_toArray, List.set_cons_zero, List.set_cons_succ]
                      refine wpAnyH_take (i := 6) (v := .int .i64 z0) rfl (by kernel_rfl) (by kernel_rfl) (by kernel_rfl) (fun _ _ _ h => h) (Or.inl ⟨by simp [Region.wanted], fun W hW => by have kz := (HQ0.out W hW).2; go_simp⟩) hS ?_
                      simp only [List.getElem_toArray, List.getElem_cons_zero, List.getElem_cons_succ, Act.put, List.setIfInBounds_toArray, List.set_cons_zero, List.set_cons_succ]
                      refine wpAnyH_take (i := 7) (v := .pointer (some ⟨W4.heap.size, 5, none⟩)) rfl (by kernel_rfl) (by kernel_rfl) (by kernel_rfl) (fun _ _ _ h => h) (Or.inl ⟨by simp [Region.wanted], fun W _ => by go_simp⟩) hS ?_
                      simp only [List.getElem_toArray, List.getElem_cons_zero, List.getElem_cons_succ, Act.put, List.setIfInBounds_toArray, List.set_cons_zero, List.set_cons_succ]
                      refine wpAnyH_take (i := 8) (v := .slice (some ⟨g1, 0, none⟩) n1 p1) rfl (by kernel_rfl) (by kernel_rfl) (by kernel_rfl) (fun _ _ _ h => h) (Or.inl ⟨by simp [Region.wanted], fun W hW => by have kc := (HQ1.out W hW).1; go_simp⟩) hS ?_
                      simp only [List.getElem_toArray, List.getElem_cons_zero, List.getElem_cons_succ, Act.put, List.setIfInBounds_toArray, List.set_cons_zero, List.set_cons_succ]
                      refine wpAnyH_take (i := 9) (v := .int .i64 (i : Int)) rfl (by kernel_rfl) (by kernel_rfl) (by kernel_rfl) (fun _ _ _ h => h) (Or.inl ⟨by simp [Region.wanted], fun W _ => by go_simp⟩) hS ?_
                      simp only [List.getElem_toArray, List.getElem_cons_zero, List.getElem_cons_succ, Act.put, List.setIfInBounds_toArray, List.set_cons_zero, List.set_cons_succ]
                      refine wpAnyH_take (i := 10) (v := .pointer (some ⟨g1, i, none⟩)) rfl (by kernel_rfl) (by kernel_rfl) (by kernel_rfl) (fun _ _ _ h => h) (Or.inl ⟨by simp [Region.wanted], fun W _ => by go_simp⟩) hS ?_
                      simp only [List.getElem_toArray, List.getElem_cons_zero, List.getElem_cons_succ, Act.put, List.setIfInBounds_toArray, List.set_cons_zero, List.set_cons_succ]
                      refine wpAnyH_take (i := 11) (v := .int .i64 z1) rfl (by kernel_rfl) (by kernel_rfl) (by kernel_rfl) (fun _ _ _ h => h) (Or.inl ⟨by simp [Region.wanted], fun W hW => by have kz := (HQ1.out W hW).2; go_simp⟩) hS ?_
                      simp only [List.getElem_toArray, List.getElem_cons_zero, List.getElem_cons_succ, Act.put, List.setIfInBounds_toArray, List.set_cons_zero, List.set_cons_succ]
                      refine wpAnyH_take (i := 12) (v := .pointer (some ⟨W4.heap.size, 6, none⟩)) rfl (by kernel_rfl) (by kernel_rfl) (by kernel_rfl) (fun _ _ _ h => h) (Or.inl ⟨by simp [Region.wanted], fun W _ => by go_simp⟩) hS ?_
                      simp only [List.getElem_toArray, List.getElem_cons_zero, List.getElem_cons_succ, Act.put, List.setIfInBounds_toArray, List.set_cons_zero, List.set_cons_succ]
                      refine wpAnyH_take (i := 13) (v := .slice (some ⟨g2, 0, none⟩) n1 p2) rfl (by kernel_rfl) (by kernel_rfl) (by kernel_rfl) (fun _ _ _ h => h) (Or.inl ⟨by simp [Region.wanted], fun W hW => by have kc := (HQ2.out W hW).1; go_simp⟩) hS ?_
                      simp only [List.getElem_toArray, List.getElem_cons_zero, List.getElem_cons_succ, Act.put, List.setIfInBounds_toArray, List.set_cons_zero, List.set_cons_succ]
                      refine wpAnyH_take (i := 14) (v := .int .i64 (i : Int)) rfl (by kernel_rfl) (by kernel_rfl) (by kernel_rfl) (fun _ _ _ h => h) (Or.inl ⟨by simp [Region.wanted], fun W _ => by go_simp⟩) hS ?_
                      simp only [List.getElem_toArray, List.getElem_cons_zero, List.getElem_cons_succ, Act.put, List.setIfInBounds_toArray, List.set_cons_zero, List.set_cons_succ]
                      refine wpAnyH_take (i := 15) (v := .pointer (some ⟨g2, i, none⟩)) rfl (by kernel_rfl) (by kernel_rfl) (by kernel_rfl) (fun _ _ _ h => h) (Or.inl ⟨by simp [Region.wanted], fun W _ => by go_simp⟩) hS ?_
                      simp only [List.getElem_toArray, List.getElem_cons_zero, List.getElem_cons_succ, Act.put, List.setIfInBounds_toArray, List.set_cons_zero, List.set_cons_succ]
                      refine wpAnyH_take (i := 16) (v := .int .i64 z2) rfl (by kernel_rfl) (by kernel_rfl) (by kernel_rfl) (fun _ _ _ h => h) (Or.inl ⟨by simp [Region.wanted], fun W hW => by have kz := (HQ2.out W hW).2; go_simp⟩) hS ?_
                      simp only [List.getElem_toArray, List.getElem_cons_zero, List.getElem_cons_succ, Act.put, List.setIfInBounds_toArray, List.set_cons_zero, List.set_cons_succ]
                      refine wpAnyH_take (i := 17) (v := .agg #[.int .i64 z0, .int .i64 z1, .int .i64 z2]) rfl (by kernel_rfl) (by kernel_rfl) (by kernel_rfl) (fun _ _ _ h => h) (Or.inl ⟨by simp [Region.wanted], fun W _ => by go_simp⟩) hS ?_
                      simp only [List.getElem_toArray, List.getElem_cons_zero, List.getElem_cons_succ, Act.put, List.setIfInBounds_toArray, List.set_cons_zero, List.set_cons_succ]
                      refine wpAnyH_ready (rs := [1, 18]) (by kernel_rfl) (by simp) ?_
                      refine AllReadyH.cons rfl (fun KA hKA => ?_) (AllReadyH.cons rfl (fun KA hKA => ?_) AllReadyH.nil)
                      · refine wanted_go rfl ?_
                        simp only [List.getElem_toArray, List.getElem_cons_zero, List.getElem_cons_succ]
                        have ec := HEC.out
                        go_wp2
                        refine hKA.out _ _ (HKT.out.trans (KeepT.below ((Below.refl _ _).drew))) (fun _ => ?_)
                        clear ec
                        refine wpAnyH_ready (rs := [18]) (by kernel_rfl) (by simp) ?_
                        refine AllReadyH.cons rfl (fun KB hKB => ?_) AllReadyH.nil
                        refine wanted_go rfl ?_
                        simp only [List.getElem_toArray, List.getElem_cons_zero, List.getElem_cons_succ]
                        go_wp2
                        refine hKB.out _ _ (HKT.out.trans (KeepT.below HAL.out)) (fun _ => ?_)
                        obtain ⟨v', w2, hr, hown, hgrow, _⟩ := run_append_own (P := Tryz.prog) (w := (wr.alloc (.cells #[.int .i64 z0, .int .i64 z1, .int .i64 z2] 66)).drew) W1.heap.size 23 23 66 i0 _ 3 24 Tryz.underlying23 hi0 hz0' hz1' hz2' rfl (by decide) _ _ _ (own_below' HOWN.out HAL.out) ⟨wr.heap.size, 0, none⟩ 1 1 [.int .i64 z0, .int .i64 z1, .int .i64 z2] rfl (fun j u hu => new_cells wr [.int .i64 z0, .int .i64 z1, .int .i64 z2] 66 j u hu) (one_items [z0, z1, z2]) (by unfold maxLen; omega) (by omega) (Nat.le_trans HB0.out HAL.out.size)
                        obtain ⟨av, cv, hv⟩ := own_formS hown
                        subst hv
                        have hS2 : BkS W1.heap.size gb (wr.alloc (.cells #[.int .i64 z0, .int .i64 z1, .int .i64 z2] 66)).drew v ⟨L0, L1.take i, [], [], (n : Int)⟩ := HBK.out.below HAL.out
                        obtain ⟨hN1, hN2, hN3, hN4, hN5⟩ := hS2.appStake (x := [z0, z1, z2]) (a := av) (cp := cv) (w2 := w2) (by show w2.ownsRow _ _ _ (.slice av ((L1.take i).length + 1) cv) ((L1.take i).length + 1) _; rw [hlen]; exact hown) (by show World.grownBy _ w2 (Value.slice v.s (L1.take i).length v.cs).ownBlock; rw [hlen]; exact hgrow) (Nat.le_trans HB0.out HAL.out.size)
                        dsimp only at hN1 hN2 hN3 hN4
                        rw [hlen] at hN1 hN2 hN3
                        have HKA := Lib.hid (HKT.out.trans (KeepT.below HAL.out))
                        have hfz := free_of_blkN hN4 1
                        obtain ⟨uo, hcc⟩ := cell_of_blkN hN4 1 (by simp [cellsB])
                        refine wpAnyH_ready (rs := [19]) (by kernel_rfl) (by simp) ?_
                        refine AllReadyH.cons rfl (fun KE hKE => ?_) AllReadyH.nil
                        refine wanted_go rfl ?_
                        simp only [List.getElem_toArray, List.getElem_cons_zero, List.getElem_cons_succ]
                        refine Lib.wp_append_run _ _ _ _ _ rfl _ _ rfl rfl _ _ hr ?_
                        refine hKE.out _ _ (HKA.out.trans hN5) (fun hSE => ?_)
                        refine wpAnyH_take (i := 20) (v := .pointer (some ⟨gb, 1, none⟩)) rfl (by kernel_rfl) (by kernel_rfl) (by kernel_rfl) (fun _ _ _ h => h) (Or.inl ⟨by simp [Region.wanted], fun W _ => by go_simp⟩) hSE ?_
                        simp only [List.getElem_toArray, List.getElem_cons_zero, List.getElem_cons_succ, Act.put, List.setIfInBounds_toArray, List.set_cons_zero, List.set_cons_succ]
                        refine wpAnyH_ready (rs := [21]) (by kernel_rfl) (by simp) ?_
                        refine AllReadyH.cons rfl (fun KF hKF => ?_) AllReadyH.nil
                        refine wanted_go rfl ?_
                        simp only [List.getElem_toArray, List.getElem_cons_zero, List.getElem_cons_succ]
                        go_wp2
                        refine hKF.out _ _ (HKA.out.trans hN2) (fun _ => ?_)
                        refine wpAnyH_done (by kernel_rfl) ?_ _
                        have HNB := Lib.hid (show BkS W1.heap.size gb _ _ ⟨L0, L1.take (i + 1), [], [], (n : Int)⟩ by rw [HTN.out]; exact hN1)
                        have HNK := Lib.hid (HKA.out.trans hN2)
                        have HNL := Lib.hid ((HLW.out.trans (HAL.out.mono HB0.out)).trans hN3)
                        clear hN1 hN2 hN3 hN4 hN5 hS2 hown hgrow hr hfz hcc hSE
                        go_wp2
                        go_roundw
                        case rel => exact ⟨i + 1, _, by go_num, hlt, HNK.out, HNL.out, HNB.out⟩
                        case measure => simp [intOf]; omega
                      · refine wanted_go rfl ?_
                        simp only [List.getElem_toArray, List.getElem_cons_zero, List.getElem_cons_succ]
                        go_wp2
                        refine hKA.out _ _ (HKT.out.trans (KeepT.below HAL.out)) (fun _ => ?_)
                        refine wpAnyH_ready (rs := [1]) (by kernel_rfl) (by simp) ?_
                        refine AllReadyH.cons rfl (fun KB hKB => ?_) AllReadyH.nil
                        refine wanted_go rfl ?_
                        simp only [List.getElem_toArray, List.getElem_cons_zero, List.getElem_cons_succ]
                        have ec := (HAL.out.cell (p := ⟨gb, 1, none⟩) (lt_of_blk HBK.out.box)).trans HEC.out
                        go_wp2
                        refine hKB.out _ _ (HKT.out.trans (KeepT.below HAL.out)) (fun _ => ?_)
                        clear ec
                        obtain ⟨v', w2, hr, hown, hgrow, _⟩ := run_append_own (P := Tryz.prog) (w := (wr.alloc (.cells #[.int .i64 z0, .int .i64 z1, .int .i64 z2] 66)).drew) W1.heap.size 23 23 66 i0 _ 3 24 Tryz.underlying23 hi0 hz0' hz1' hz2' rfl (by decide) _ _ _ (own_below' HOWN.out HAL.out) ⟨wr.heap.size, 0, none⟩ 1 1 [.int .i64 z0, .int .i64 z1, .int .i64 z2] rfl (fun j u hu => new_cells wr [.int .i64 z0, .int .i64 z1, .int .i64 z2] 66 j u hu) (one_items [z0, z1, z2]) (by unfold maxLen; omega) (by omega) (Nat.le_trans HB0.out HAL.out.size)
                        obtain ⟨av, cv, hv⟩ := own_formS hown
                        subst hv
                        have hS2 : BkS W1.heap.size gb (wr.alloc (.cells #[.int .i64 z0, .int .i64 z1, .int .i64 z2] 66)).drew v ⟨L0, L1.take i, [], [], (n : Int)⟩ := HBK.out.below HAL.out
                        obtain ⟨hN1, hN2, hN3, hN4, hN5⟩ := hS2.appStake (x := [z0, z1, z2]) (a := av) (cp := cv) (w2 := w2) (by show w2.ownsRow _ _ _ (.slice av ((L1.take i).length + 1) cv) ((L1.take i).length + 1) _; rw [hlen]; exact hown) (by show World.grownBy _ w2 (Value.slice v.s (L1.take i).length v.cs).ownBlock; rw [hlen]; exact hgrow) (Nat.le_trans HB0.out HAL.out.size)
                        dsimp only at hN1 hN2 hN3 hN4
                        rw [hlen] at hN1 hN2 hN3
                        have HKA := Lib.hid (HKT.out.trans (KeepT.below HAL.out))
                        have hfz := free_of_blkN hN4 1
                        obtain ⟨uo, hcc⟩ := cell_of_blkN hN4 1 (by simp [cellsB])
                        refine wpAnyH_ready (rs := [19]) (by kernel_rfl) (by simp) ?_
                        refine AllReadyH.cons rfl (fun KE hKE => ?_) AllReadyH.nil
                        refine wanted_go rfl ?_
                        simp only [List.getElem_toArray, List.getElem_cons_zero, List.getElem_cons_succ]
                        refine Lib.wp_append_run _ _ _ _ _ rfl _ _ rfl rfl _ _ hr ?_
                        refine hKE.out _ _ (HKA.out.trans hN5) (fun hSE => ?_)
                        refine wpAnyH_take (i := 20) (v := .pointer (some ⟨gb, 1, none⟩)) rfl (by kernel_rfl) (by kernel_rfl) (by kernel_rfl) (fun _ _ _ h => h) (Or.inl ⟨by simp [Region.wanted], fun W _ => by go_simp⟩) hSE ?_
                        simp only [List.getElem_toArray, List.getElem_cons_zero, List.getElem_cons_succ, Act.put, List.setIfInBounds_toArray, List.set_cons_zero, List.set_cons_succ]
                        refine wpAnyH_ready (rs := [21]) (by kernel_rfl) (by simp) ?_
                        refine AllReadyH.cons rfl (fun KF hKF => ?_) AllReadyH.nil
                        refine wanted_go rfl ?_
                        simp only [List.getElem_toArray, List.getElem_cons_zero, List.getElem_cons_succ]
                        go_wp2
                        refine hKF.out _ _ (HKA.out.trans hN2) (fun _ => ?_)
                        refine wpAnyH_done (by kernel_rfl) ?_ _
                        have HNB := Lib.hid (show BkS W1.heap.size gb _ _ ⟨L0, L1.take (i + 1), [], [], (n : Int)⟩ by rw [HTN.out]; exact hN1)
                        have HNK := Lib.hid (HKA.out.trans hN2)
                        have HNL := Lib.hid ((HLW.out.trans (HAL.out.mono HB0.out)).trans hN3)
                        clear hN1 hN2 hN3 hN4 hN5 hS2 hown hgrow hr hfz hcc hSE
                        go_wp2
                        go_roundw
                        case rel => exact ⟨i + 1, _, by go_num, hlt, HNK.out, HNL.out, HNB.out⟩
                        case measure => simp [intOf]; omega
                    · obtain ⟨ax, px, hvx⟩ := HF1.out
                      have k0 := HV.out.cell (show 4 < 15 by decide)
                      rw [hvx] at k0
                      have hall : L1.take i = L1 := List.take_of_length_le (by rw [HL1.out]; omega)
                      have HBK2 := Lib.hid (show BkS W1.heap.size gb wr v ⟨L0, L1, [], [], (n : Int)⟩ by have h := HBK.out; rw [hall] at h; exact h)
                      clear HBK hall hvx HV
                      have HBK := Lib.hid HBK2.out
                      clear HBK2
                      obtain ⟨v1, hv1⟩ : ∃ x, x = v := ⟨_, rfl⟩
                      subst hv1
                      go_wp2
                      clear k0 hlt hi
                      go_loopw [16] (fun vi W => ∃ (i : Nat) (v : Slots), vi = .int .i64 (i : Int) ∧ i ≤ n2 ∧ KeepT Wd W ∧ Below W1.heap.size W1 W ∧ BkS W1.heap.size gb W v ⟨L0, L1, L2.take i, [], (n : Int)⟩) (fun vi _ => n2 - (intOf vi).toNat)
                      case atStart => exact ⟨0, v1, rfl, Nat.zero_le _, HKT.out, HLW.out, by rw [List.take_zero]; exact HBK.out⟩
                      case round =>
                        obtain ⟨i, v, rfl, hi, hkt, hlw, hbk⟩ := hrel
                        clear HKT HLW HBK
                        have HKT := Lib.hid hkt
                        have HLW := Lib.hid hlw
                        have HBK := Lib.hid hbk
                        have HV := Lib.hid (HVX.out _ hkt)
                        clear hkt hlw hbk
                        by_cases hlt : i < n2
                        · have hix := HX2.out i hlt
                          have hlen : (L2.take i).length = i := by rw [List.length_take, HL2.out]; omega
                          have HTN := Lib.hid (take_one hix)
                          obtain ⟨g0, p0, hv0⟩ := HV.out.ptr (j := 7) (c := c7) rfl (by rw [HN2_0.out]; omega)
                          rw [HN2_0.out] at hv0
                          have hz0 : c7[i]? = some (c7.getD i 0) := by rw [List.getD_eq_getElem?_getD]; have := HN2_0.out; simp [show i < c7.length by omega]
                          generalize c7.getD i 0 = z0 at *
                          have HQ0 := Lib.hid (show ∀ W, KeepT Wd W → W.cell? ⟨W4.heap.size, 7, none⟩ = some (.slice (some ⟨g0, 0, none⟩) n2 p0) ∧ W.cell? ⟨g0, i, none⟩ = some (.int .i64 z0) from fun W h => ⟨by rw [← hv0]; exact (HVX.out W h).cell (by decide), (HVX.out W h).at (j := 7) rfl hz0 hv0⟩)
                          obtain ⟨g1, p1, hv1⟩ := HV.out.ptr (j := 8) (c := c8) rfl (by rw [HN2_1.out]; omega)
                          rw [HN2_1.out] at hv1
                          have hz1 : c8[i]? = some (c8.getD i 0) := by rw [List.getD_eq_getElem?_getD]; have := HN2_1.out; simp [show i < c8.length by omega]
                          generalize c8.getD i 0 = z1 at *
                          have HQ1 := Lib.hid (show ∀ W, KeepT Wd W → W.cell? ⟨W4.heap.size, 8, none⟩ = some (.slice (some ⟨g1, 0, none⟩) n2 p1) ∧ W.cell? ⟨g1, i, none⟩ = some (.int .i64 z1) from fun W h => ⟨by rw [← hv1]; exact (HVX.out W h).cell (by decide), (HVX.out W h).at (j := 8) rfl hz1 hv1⟩)
                          obtain ⟨g2, p2, hv2⟩ := HV.out.ptr (j := 9) (c := c9) rfl (by rw [HN2_2.out]; omega)
                          rw [HN2_2.out] at hv2
                          have hz2 : c9[i]? = some (c9.getD i 0) := by rw [List.getD_eq_getElem?_getD]; have := HN2_2.out; simp [show i < c9.length by omega]
                          generalize c9.getD i 0 = z2 at *
                          have HQ2 := Lib.hid (show ∀ W, KeepT Wd W → W.cell? ⟨W4.heap.size, 9, none⟩ = some (.slice (some ⟨g2, 0, none⟩) n2 p2) ∧ W.cell? ⟨g2, i, none⟩ = some (.int .i64 z2) from fun W h => ⟨by rw [← hv2]; exact (HVX.out W h).cell (by decide), (HVX.out W h).at (j := 9) rfl hz2 hv2⟩)
                          obtain ⟨g3, p3, hv3⟩ := HV.out.ptr (j := 10) (c := c10) rfl (by rw [HN2_3.out]; omega)
                          rw [HN2_3.out] at hv3
                          have hz3 : c10[i]? = some (c10.getD i 0) := by rw [List.getD_eq_getElem?_getD]; have := HN2_3.out; simp [show i < c10.length by omega]
                          generalize c10.getD i 0 = z3 at *
                          have HQ3 := Lib.hid (show ∀ W, KeepT Wd W → W.cell? ⟨W4.heap.size, 10, none⟩ = some (.slice (some ⟨g3, 0, none⟩) n2 p3) ∧ W.cell? ⟨g3, i, none⟩ = some (.int .i64 z3) from fun W h => ⟨by rw [← hv3]; exact (HVX.out W h).cell (by decide), (HVX.out W h).at (j := 10) rfl hz3 hv3⟩)
                          obtain ⟨g4, p4, hv4⟩ := HV.out.ptr (j := 11) (c := c11) rfl (by rw [HN2_4.out]; omega)
                          rw [HN2_4.out] at hv4
                          have hz4 : c11[i]? = some (c11.getD i 0) := by rw [List.getD_eq_getElem?_getD]; have := HN2_4.out; simp [show i < c11.length by omega]
                          generalize c11.getD i 0 = z4 at *
                          have HQ4 := Lib.hid (show ∀ W, KeepT Wd W → W.cell? ⟨W4.heap.size, 11, none⟩ = some (.slice (some ⟨g4, 0, none⟩) n2 p4) ∧ W.cell? ⟨g4, i, none⟩ = some (.int .i64 z4) from fun W h => ⟨by rw [← hv4]; exact (HVX.out W h).cell (by decide), (HVX.out W h).at (j := 11) rfl hz4 hv4⟩)
                          obtain ⟨g5, p5, hv5⟩ := HV.out.ptr (j := 12) (c := c12) rfl (by rw [HN2_5.out]; omega)
                          rw [HN2_5.out] at hv5
                          have hz5 : c12[i]? = some (c12.getD i 0) := by rw [List.getD_eq_getElem?_getD]; have := HN2_5.out; simp [show i < c12.length by omega]
                          generalize c12.getD i 0 = z5 at *
                          have HQ5 := Lib.hid (show ∀ W, KeepT Wd W → W.cell? ⟨W4.heap.size, 12, none⟩ = some (.slice (some ⟨g5, 0, none⟩) n2 p5) ∧ W.cell? ⟨g5, i, none⟩ = some (.int .i64 z5) from fun W h => ⟨by rw [← hv5]; exact (HVX.out W h).cell (by decide), (HVX.out W h).at (j := 12) rfl hz5 hv5⟩)
                          have k0 := (HQ0.out _ HKT.out).1
                          obtain ⟨i0, hi0, hz0', hz1', hz2'⟩ := info_parts infoZOpen
                          have hown := HBK.out.o
                          dsimp only at hown
                          rw [hlen] at hown
                          have HOWN := Lib.hid hown
                          have hec := HBK.out.box.cells.2.2.1
                          dsimp only at hec
                          rw [hlen] at hec
                          have HEC := Lib.hid hec
                          have HB0 := Lib.hid HLW.out.size
                          clear hown hec hix hv0 hz0 hv1 hz1 hv2 hz2 hv3 hz3 hv4 hz4 hv5 hz5
                          go_upto_region 45 with (fail)
                          clear k0
                          have HAL := Lib.hid (show Below wr.heap.size wr (wr.alloc (.cells #[.int .i64 z0, .int .i64 z1, .int .i64 z2, .int .i64 z3, .int .i64 z4, .int .i64 z5] 69)).drew from ((Below.refl _ _).alloc (Nat.le_refl _) _).drew)
                          refine wp_region_held_drew (S := fun W => KeepT Wd W) (by kernel_rfl) (by exact HKT.out.trans (KeepT.below ((Below.refl _ _).drew))) (fun hS => ?_)
                          refine wpAnyH_take (i := 0) (v := .pointer (some ⟨gb, 2, none⟩)) rfl (by kernel_rfl) (by kernel_rfl) (by kernel_rfl) (fun _ _ _ h => h) (Or.inl ⟨by simp [Region.wanted], fun W _ => by go_simp⟩) hS ?_
                          simp only [List.getElem_toArray, List.getElem_cons_zero, Act.put, List.setIfInBounds_toArray, List.set_cons_zero, List.set_cons_succ]
                          refine wpAnyH_take (i := 2) (v := .pointer (some ⟨W4.heap.size, 7, none⟩)) rfl (by kernel_rfl) (by kernel_rfl) (by kernel_rfl) (fun _ _ _ h => h) (Or.inl ⟨by simp [Region.wanted], fun W _ => by go_simp⟩) hS ?_
                          simp only [List.getElem_toArray, List.getElem_cons_zero, List.getElem_cons_succ, Act.put, List.setIfInBounds_toArray, List.set_cons_zero, List.set_cons_succ]
                          refine wpAnyH_take (i := 3) (v := .slice (some ⟨g0, 0, none⟩) n2 p0) rfl (by kernel_rfl) (by kernel_rfl) (by kernel_rfl) (fun _ _ _ h => h) (Or.inl ⟨by simp [Region.wanted], fun W hW => by have kc := (HQ0.out W hW).1; go_simp⟩) hS ?_
                          simp only [List.getElem_toArray, List.getElem_cons_zero, List.getElem_cons_succ, Act.put, List.setIfInBounds_toArray, List.set_cons_zero, List.set_cons_succ]
                          refine wpAnyH_take (i := 4) (v := .int .i64 (i : Int)) rfl (by kernel_rfl) (by kernel_rfl) (by kernel_rfl) (fun _ _ _ h => h) (Or.inl ⟨by simp [Region.wanted], fun W _ => by go_simp⟩) hS ?_
                          simp only [List.getElem_toArray, List.getElem_cons_zero, List.getElem_cons_succ, Act.put, List.setIfInBounds_toArray, List.set_cons_zero, List.set_cons_succ]
                          refine wpAnyH_take (i := 5) (v := .pointer (some ⟨g0, i, none⟩)) rfl (by kernel_rfl) (by kernel_rfl) (by kernel_rfl) (fun _ _ _ h => h) (Or.inl ⟨by simp [Region.wanted], fun W _ => by go_simp⟩) hS ?_
                          simp only [List.getElem_toArray, List.getElem_cons_zero, List.getElem_cons_succ, Act.put, List.setIfInBounds_toArray, List.set_cons_zero, List.set_cons_succ]
                          refine wpAnyH_take (i := 6) (v := .int .i64 z0) rfl (by kernel_rfl) (by kernel_rfl) (by kernel_rfl) (fun _ _ _ h => h) (Or.inl ⟨by simp [Region.wanted], fun W hW => by have kz := (HQ0.out W hW).2; go_simp⟩) hS ?_
                          simp only [List.getElem_toArray, List.getElem_cons_zero, List.getElem_cons_succ, Act.put, List.setIfInBounds_toArray, List.set_cons_zero, List.set_cons_succ]
                          refine wpAnyH_take (i := 7) (v := .pointer (some ⟨W4.heap.size, 8, none⟩)) rfl (by kernel_rfl) (by kernel_rfl) (by kernel_rfl) (fun _ _ _ h => h) (Or.inl ⟨by simp [Region.wanted], fun W _ => by go_simp⟩) hS ?_
                          simp only [List.getElem_toArray, List.getElem_cons_zero, List.getElem_cons_succ, Act.put, List.setIfInBounds_toArray, List.set_cons_zero, List.set_cons_succ]
                          refine wpAnyH_take (i := 8) (v := .slice (some ⟨g1, 0, none⟩) n2 p1) rfl (by kernel_rfl) (by kernel_rfl) (by kernel_rfl) (fun _ _ _ h => h) (Or.inl ⟨by simp [Region.wanted], fun W hW => by have kc := (HQ1.out W hW).1; go_simp⟩) hS ?_
                          simp only [List.getElem_toArray, List.getElem_cons_zero, List.getElem_cons_succ, Act.put, List.setIfInBounds_toArray, List.set_cons_zero, List.set_cons_succ]
                          refine wpAnyH_take (i := 9) (v := .int .i64 (i : Int)) rfl (by kernel_rfl) (by kernel_rfl) (by kernel_rfl) (fun _ _ _ h => h) (Or.inl ⟨by simp [Region.wanted], fun W _ => by go_simp⟩) hS ?_
                          simp only [List.getElem_toArray, List.getElem_cons_zero, List.getElem_cons_succ, Act.put, List.setIfInBounds_toArray, List.set_cons_zero, List.set_cons_succ]
                          refine wpAnyH_take (i := 10) (v := .pointer (some ⟨g1, i, none⟩)) rfl (by kernel_rfl) (by kernel_rfl) (by kernel_rfl) (fun _ _ _ h => h) (Or.inl ⟨by simp [Region.wanted], fun W _ => by go_simp⟩) hS ?_
                          simp only [List.getElem_toArray, List.getElem_cons_zero, List.getElem_cons_succ, Act.put, List.setIfInBounds_toArray, List.set_cons_zero, List.set_cons_succ]
                          refine wpAnyH_take (i := 11) (v := .int .i64 z1) rfl (by kernel_rfl) (by kernel_rfl) (by kernel_rfl) (fun _ _ _ h => h) (Or.inl ⟨by simp [Region.wanted], fun W hW => by have kz := (HQ1.out W hW).2; go_simp⟩) hS ?_
                          simp only [List.getElem_toArray, List.getElem_cons_zero, List.getElem_cons_succ, Act.put, List.setIfInBounds_toArray, List.set_cons_zero, List.set_cons_succ]
                          refine wpAnyH_take (i := 12) (v := .pointer (some ⟨W4.heap.size, 9, none⟩)) rfl (by kernel_rfl) (by kernel_rfl) (by kernel_rfl) (fun _ _ _ h => h) (Or.inl ⟨by simp [Region.wanted], fun W _ => by go_simp⟩) hS ?_
                          simp only [List.getElem_toArray, List.getElem_cons_zero, List.getElem_cons_succ, Act.put, List.setIfInBounds_toArray, List.set_cons_zero, List.set_cons_succ]
                          refine wpAnyH_take (i := 13) (v := .slice (some ⟨g2, 0, none⟩) n2 p2) rfl (by kernel_rfl) (by kernel_rfl) (by kernel_rfl) (fun _ _ _ h => h) (Or.inl ⟨by simp [Region.wanted], fun W hW => by have kc := (HQ2.out W hW).1; go_simp⟩) hS ?_
                          simp only [List.getElem_toArray, List.getElem_cons_zero, List.getElem_cons_succ, Act.put, List.setIfInBounds_toArray, List.set_cons_zero, List.set_cons_succ]
                          refine wpAnyH_take (i := 14) (v := .int .i64 (i : Int)) rfl (by kernel_rfl) (by kernel_rfl) (by kernel_rfl) (fun _ _ _ h => h) (Or.inl ⟨by simp [Region.wanted], fun W _ => by go_simp⟩) hS ?_
                          simp only [List.getElem_toArray, List.getElem_cons_zero, List.getElem_cons_succ, Act.put, List.setIfInBounds_toArray, List.set_cons_zero, List.set_cons_succ]
                          refine wpAnyH_take (i := 15) (v := .pointer (some ⟨g2, i, none⟩)) rfl (by kernel_rfl) (by kernel_rfl) (by kernel_rfl) (fun _ _ _ h => h) (Or.inl ⟨by simp [Region.wanted], fun W _ => by go_simp⟩) hS ?_
                          simp only [List.getElem_toArray, List.getElem_cons_zero, List.getElem_cons_succ, Act.put, List.setIfInBounds_toArray, List.set_cons_zero, List.set_cons_succ]
                          refine wpAnyH_take (i := 16) (v := .int .i64 z2) rfl (by kernel_rfl) (by kernel_rfl) (by kernel_rfl) (fun _ _ _ h => h) (Or.inl ⟨by simp [Region.wanted], fun W hW => by have kz := (HQ2.out W hW).2; go_simp⟩) hS ?_
                          simp only [List.getElem_toArray, List.getElem_cons_zero, List.getElem_cons_succ, Act.put, List.setIfInBounds_toArray, List.set_cons_zero, List.set_cons_succ]
                          refine wpAnyH_take (i := 17) (v := .pointer (some ⟨W4.heap.size, 10, none⟩)) rfl (by kernel_rfl) (by kernel_rfl) (by kernel_rfl) (fun _ _ _ h => h) (Or.inl ⟨by simp [Region.wanted], fun W _ => by go_simp⟩) hS ?_
                          simp only [List.getElem_toArray, List.getElem_cons_zero, List.getElem_cons_succ, Act.put, List.setIfInBounds_toArray, List.set_cons_zero, List.set_cons_succ]
                          refine wpAnyH_take (i := 18) (v := .slice (some ⟨g3, 0, none⟩) n2 p3) rfl (by kernel_rfl) (by kernel_rfl) (by kernel_rfl) (fun _ _ _ h => h) (Or.inl ⟨by simp [Region.wanted], fun W hW => by have kc := (HQ3.out W hW).1; go_simp⟩) hS ?_
                          simp only [List.getElem_toArray, List.getElem_cons_zero, List.getElem_cons_succ, Act.put, List.setIfInBounds_toArray, List.set_cons_zero, List.set_cons_succ]
                          refine wpAnyH_take (i := 19) (v := .int .i64 (i : Int)) rfl (by kernel_rfl) (by kernel_rfl) (by kernel_rfl) (fun _ _ _ h => h) (Or.inl ⟨by simp [Region.wanted], fun W _ => by go_simp⟩) hS ?_
                          simp only [List.getElem_toArray, List.getElem_cons_zero, List.getElem_cons_succ, Act.put, List.setIfInBounds_toArray, List.set_cons_zero, List.set_cons_succ]
                          refine wpAnyH_take (i := 20) (v := .pointer (some ⟨g3, i, none⟩)) rfl (by kernel_rfl) (by kernel_rfl) (by kernel_rfl) (fun _ _ _ h => h) (Or.inl ⟨by simp [Region.wanted], fun W _ => by go_simp⟩) hS ?_
                          simp only [List.getElem_toArray, List.getElem_cons_zero, List.getElem_cons_succ, Act.put, List.setIfInBounds_toArray, List.set_cons_zero, List.set_cons_succ]
                          refine wpAnyH_take (i := 21) (v := .int .i64 z3) rfl (by kernel_rfl) (by kernel_rfl) (by kernel_rfl) (fun _ _ _ h => h) (Or.inl ⟨by simp [Region.wanted], fun W hW => by have kz := (HQ3.out W hW).2; go_simp⟩) hS ?_
                          simp only [List.getElem_toArray, List.getElem_cons_zero, List.getElem_cons_succ, Act.put, List.setIfInBounds_toArray, List.set_cons_zero, List.set_cons_succ]
                          refine wpAnyH_take (i := 22) (v := .pointer (some ⟨W4.heap.size, 11, none⟩)) rfl (by kernel_rfl) (by kernel_rfl) (by kernel_rfl) (fun _ _ _ h => h) (Or.inl ⟨by simp [Region.wanted], fun W _ => by go_simp⟩) hS ?_
                          simp only [List.getElem_toArray, List.getElem_cons_zero, List.getElem_cons_succ, Act.put, List.setIfInBounds_toArray, List.set_cons_zero, List.set_cons_succ]
                          refine wpAnyH_take (i := 23) (v := .slice (some ⟨g4, 0, none⟩) n2 p4) rfl (by kernel_rfl) (by kernel_rfl) (by kernel_rfl) (fun _ _ _ h => h) (Or.inl ⟨by simp [Region.wanted], fun W hW => by have kc := (HQ4.out W hW).1; go_simp⟩) hS ?_
                          simp only [List.getElem_toArray, List.getElem_cons_zero, List.getElem_cons_succ, Act.put, List.setIfInBounds_toArray, List.set_cons_zero, List.set_cons_succ]
                          refine wpAnyH_take (i := 24) (v := .int .i64 (i : Int)) rfl (by kernel_rfl) (by kernel_rfl) (by kernel_rfl) (fun _ _ _ h => h) (Or.inl ⟨by simp [Region.wanted], fun W _ => by go_simp⟩) hS ?_
                          simp only [List.getElem_toArray, List.getElem_cons_zero, List.getElem_cons_succ, Act.put, List.setIfInBounds_toArray, List.set_cons_zero, List.set_cons_succ]
                          refine wpAnyH_take (i := 25) (v := .pointer (some ⟨g4, i, none⟩)) rfl (by kernel_rfl) (by kernel_rfl) (by kernel_rfl) (fun _ _ _ h => h) (Or.inl ⟨by simp [Region.wanted], fun W _ => by go_simp⟩) hS ?_
                          simp only [List.getElem_toArray, List.getElem_cons_zero, List.getElem_cons_succ, Act.put, List.setIfInBounds_toArray, List.set_cons_zero, List.set_cons_succ]
                          refine wpAnyH_take (i := 26) (v := .int .i64 z4) rfl (by kernel_rfl) (by kernel_rfl) (by kernel_rfl) (fun _ _ _ h => h) (Or.inl ⟨by simp [Region.wanted], fun W hW => by have kz := (HQ4.out W hW).2; go_simp⟩) hS ?_
                          simp only [List.getElem_toArray, List.getElem_cons_zero, List.getElem_cons_succ, Act.put, List.setIfInBounds_toArray, List.set_cons_zero, List.set_cons_succ]
                          refine wpAnyH_take (i := 27) (v := .pointer (some ⟨W4.heap.size, 12, none⟩)) rfl (by kernel_rfl) (by kernel_rfl) (by kernel_rfl) (fun _ _ _ h => h) (Or.inl ⟨by simp [Region.wanted], fun W _ => by go_simp⟩) hS ?_
                          simp only [List.getElem_toArray, List.getElem_cons_zero, List.getElem_cons_succ, Act.put, List.setIfInBounds_toArray, List.set_cons_zero, List.set_cons_succ]
                          refine wpAnyH_take (i := 28) (v := .slice (some ⟨g5, 0, none⟩) n2 p5) rfl (by kernel_rfl) (by kernel_rfl) (by kernel_rfl) (fun _ _ _ h => h) (Or.inl ⟨by simp [Region.wanted], fun W hW => by have kc := (HQ5.out W hW).1; go_simp⟩) hS ?_
                          simp only [List.getElem_toArray, List.getElem_cons_zero, List.getElem_cons_succ, Act.put, List.setIfInBounds_toArray, List.set_cons_zero, List.set_cons_succ]
                          refine wpAnyH_take (i := 29) (v := .int .i64 (i : Int)) rfl (by kernel_rfl) (by kernel_rfl) (by kernel_rfl) (fun _ _ _ h => h) (Or.inl ⟨by simp [Region.wanted], fun W _ => by go_simp⟩) hS ?_
                          simp only [List.getElem_toArray, List.getElem_cons_zero, List.getElem_cons_succ, Act.put, List.setIfInBounds_toArray, List.set_cons_zero, List.set_cons_succ]
                          refine wpAnyH_take (i := 30) (v := .pointer (some ⟨g5, i, none⟩)) rfl (by kernel_rfl) (by kernel_rfl) (by kernel_rfl) (fun _ _ _ h => h) (Or.inl ⟨by simp [Region.wanted], fun W _ => by go_simp⟩) hS ?_
                          simp only [List.getElem_toArray, List.getElem_cons_zero, List.getElem_cons_succ, Act.put, List.setIfInBounds_toArray, List.set_cons_zero, List.set_cons_succ]
                          refine wpAnyH_take (i := 31) (v := .int .i64 z5) rfl (by kernel_rfl) (by kernel_rfl) (by kernel_rfl) (fun _ _ _ h => h) (Or.inl ⟨by simp [Region.wanted], fun W hW => by have kz := (HQ5.out W hW).2; go_simp⟩) hS ?_
                          simp only [List.getElem_toArray, List.getElem_cons_zero, List.getElem_cons_succ, Act.put, List.setIfInBounds_toArray, List.set_cons_zero, List.set_cons_succ]
                          refine wpAnyH_take (i := 32) (v := .agg #[.int .i64 z0, .int .i64 z1, .int .i64 z2, .int .i64 z3, .int .i64 z4, .int .i64 z5]) rfl (by kernel_rfl) (by kernel_rfl) (by kernel_rfl) (fun _ _ _ h => h) (Or.inl ⟨by simp [Region.wanted], fun W _ => by go_simp⟩) hS ?_
                          simp only [List.getElem_toArray, List.getElem_cons_zero, List.getElem_cons_succ, Act.put, List.setIfInBounds_toArray, List.set_cons_zero, List.set_cons_succ]
                          refine wpAnyH_ready (rs := [1, 33]) (by kernel_rfl) (by simp) ?_
                          refine AllReadyH.cons rfl (fun KA hKA => ?_) (AllReadyH.cons rfl (fun KA hKA => ?_) AllReadyH.nil)
                          · refine wanted_go rfl ?_
                            simp only [List.getElem_toArray, List.getElem_cons_zero, List.getElem_cons_succ]
                            have ec := HEC.out
                            go_wp2
                            refine hKA.out _ _ (HKT.out.trans (KeepT.below ((Below.refl _ _).drew))) (fun _ => ?_)
                            clear ec
                            refine wpAnyH_ready (rs := [33]) (by kernel_rfl) (by simp) ?_
                            refine AllReadyH.cons rfl (fun KB hKB => ?_) AllReadyH.nil
                            refine wanted_go rfl ?_
                            simp only [List.getElem_toArray, List.getElem_cons_zero, List.getElem_cons_succ]
                            go_wp2
                            refine hKB.out _ _ (HKT.out.trans (KeepT.below HAL.out)) (fun _ => ?_)
                            obtain ⟨v', w2, hr, hown, hgrow, _⟩ := run_append_own (P := Tryz.prog) (w := (wr.alloc (.cells #[.int .i64 z0, .int .i64 z1, .int .i64 z2, .int .i64 z3, .int .i64 z4, .int .i64 z5] 69)).drew) W1.heap.size 24 24 69 i0 _ 6 48 Tryz.underlying24 hi0 hz0' hz1' hz2' rfl (by decide) _ _ _ (own_below' HOWN.out HAL.out) ⟨wr.heap.size, 0, none⟩ 1 1 [.int .i64 z0, .int .i64 z1, .int .i64 z2, .int .i64 z3, .int .i64 z4, .int .i64 z5] rfl (fun j u hu => new_cells wr [.int .i64 z0, .int .i64 z1, .int .i64 z2, .int .i64 z3, .int .i64 z4, .int .i64 z5] 69 j u hu) (one_items [z0, z1, z2, z3, z4, z5]) (by unfold maxLen; omega) (by omega) (Nat.le_trans HB0.out HAL.out.size)
                            obtain ⟨av, cv, hv⟩ := own_formS hown
                            subst hv
                            have hS2 : BkS W1.heap.size gb (wr.alloc (.cells #[.int .i64 z0, .int .i64 z1, .int .i64 z2, .int .i64 z3, .int .i64 z4, .int .i64 z5] 69)).drew v ⟨L0, L1, L2.take i, [], (n : Int)⟩ := HBK.out.below HAL.out
                            obtain ⟨hN1, hN2, hN3, hN4, hN5⟩ := hS2.appOpen (x := [z0, z1, z2, z3, z4, z5]) (a := av) (cp := cv) (w2 := w2) (by show w2.ownsRow _ _ _ (.slice av ((L2.take i).length + 1) cv) ((L2.take i).length + 1) _; rw [hlen]; exact hown) (by show World.grownBy _ w2 (Value.slice v.o (L2.take i).length v.co).ownBlock; rw [hlen]; exact hgrow) (Nat.le_trans HB0.out HAL.out.size)
                            dsimp only at hN1 hN2 hN3 hN4
                            rw [hlen] at hN1 hN2 hN3
                            have HKA := Lib.hid (HKT.out.trans (KeepT.below HAL.out))
                            have hfz := free_of_blkN hN4 2
                            obtain ⟨uo, hcc⟩ := cell_of_blkN hN4 2 (by simp [cellsB])
                            refine wpAnyH_ready (rs := [34]) (by kernel_rfl) (by simp) ?_
                            refine AllReadyH.cons rfl (fun KE hKE => ?_) AllReadyH.nil
                            refine wanted_go rfl ?_
                            simp only [List.getElem_toArray, List.getElem_cons_zero, List.getElem_cons_succ]
                            refine Lib.wp_append_run _ _ _ _ _ rfl _ _ rfl rfl _ _ hr ?_
                            refine hKE.out _ _ (HKA.out.trans hN5) (fun hSE => ?_)
                            refine wpAnyH_take (i := 35) (v := .pointer (some ⟨gb, 2, none⟩)) rfl (by kernel_rfl) (by kernel_rfl) (by kernel_rfl) (fun _ _ _ h => h) (Or.inl ⟨by simp [Region.wanted], fun W _ => by go_simp⟩) hSE ?_
                            simp only [List.getElem_toArray, List.getElem_cons_zero, List.getElem_cons_succ, Act.put, List.setIfInBounds_toArray, List.set_cons_zero, List.set_cons_succ]
                            refine wpAnyH_ready (rs := [36]) (by kernel_rfl) (by simp) ?_
                            refine AllReadyH.cons rfl (fun KF hKF => ?_) AllReadyH.nil
                            refine wanted_go rfl ?_
                            simp only [List.getElem_toArray, List.getElem_cons_zero, List.getElem_cons_succ]
                            go_wp2
                            refine hKF.out _ _ (HKA.out.trans hN2) (fun _ => ?_)
                            refine wpAnyH_done (by kernel_rfl) ?_ _
                            have HNB := Lib.hid (show BkS W1.heap.size gb _ _ ⟨L0, L1, L2.take (i + 1), [], (n : Int)⟩ by rw [HTN.out]; exact hN1)
                            have HNK := Lib.hid (HKA.out.trans hN2)
                            have HNL := Lib.hid ((HLW.out.trans (HAL.out.mono HB0.out)).trans hN3)
                            clear hN1 hN2 hN3 hN4 hN5 hS2 hown hgrow hr hfz hcc hSE
                            go_wp2
                            go_roundw
                            case rel => exact ⟨i + 1, _, by go_num, hlt, HNK.out, HNL.out, HNB.out⟩
                            case measure => simp [intOf]; omega
                          · refine wanted_go rfl ?_
                            simp only [List.getElem_toArray, List.getElem_cons_zero, List.getElem_cons_succ]
                            go_wp2
                            refine hKA.out _ _ (HKT.out.trans (KeepT.below HAL.out)) (fun _ => ?_)
                            refine wpAnyH_ready (rs := [1]) (by kernel_rfl) (by simp) ?_
                            refine AllReadyH.cons rfl (fun KB hKB => ?_) AllReadyH.nil
                            refine wanted_go rfl ?_
                            simp only [List.getElem_toArray, List.getElem_cons_zero, List.getElem_cons_succ]
                            have ec := (HAL.out.cell (p := ⟨gb, 2, none⟩) (lt_of_blk HBK.out.box)).trans HEC.out
                            go_wp2
                            refine hKB.out _ _ (HKT.out.trans (KeepT.below HAL.out)) (fun _ => ?_)
                            clear ec
                            obtain ⟨v', w2, hr, hown, hgrow, _⟩ := run_append_own (P := Tryz.prog) (w := (wr.alloc (.cells #[.int .i64 z0, .int .i64 z1, .int .i64 z2, .int .i64 z3, .int .i64 z4, .int .i64 z5] 69)).drew) W1.heap.size 24 24 69 i0 _ 6 48 Tryz.underlying24 hi0 hz0' hz1' hz2' rfl (by decide) _ _ _ (own_below' HOWN.out HAL.out) ⟨wr.heap.size, 0, none⟩ 1 1 [.int .i64 z0, .int .i64 z1, .int .i64 z2, .int .i64 z3, .int .i64 z4, .int .i64 z5] rfl (fun j u hu => new_cells wr [.int .i64 z0, .int .i64 z1, .int .i64 z2, .int .i64 z3, .int .i64 z4, .int .i64 z5] 69 j u hu) (one_items [z0, z1, z2, z3, z4, z5]) (by unfold maxLen; omega) (by omega) (Nat.le_trans HB0.out HAL.out.size)
                            obtain ⟨av, cv, hv⟩ := own_formS hown
                            subst hv
                            have hS2 : BkS W1.heap.size gb (wr.alloc (.cells #[.int .i64 z0, .int .i64 z1, .int .i64 z2, .int .i64 z3, .int .i64 z4, .int .i64 z5] 69)).drew v ⟨L0, L1, L2.take i, [], (n : Int)⟩ := HBK.out.below HAL.out
                            obtain ⟨hN1, hN2, hN3, hN4, hN5⟩ := hS2.appOpen (x := [z0, z1, z2, z3, z4, z5]) (a := av) (cp := cv) (w2 := w2) (by show w2.ownsRow _ _ _ (.slice av ((L2.take i).length + 1) cv) ((L2.take i).length + 1) _; rw [hlen]; exact hown) (by show World.grownBy _ w2 (Value.slice v.o (L2.take i).length v.co).ownBlock; rw [hlen]; exact hgrow) (Nat.le_trans HB0.out HAL.out.size)
                            dsimp only at hN1 hN2 hN3 hN4
                            rw [hlen] at hN1 hN2 hN3
                            have HKA := Lib.hid (HKT.out.trans (KeepT.below HAL.out))
                            have hfz := free_of_blkN hN4 2
                            obtain ⟨uo, hcc⟩ := cell_of_blkN hN4 2 (by simp [cellsB])
                            refine wpAnyH_ready (rs := [34]) (by kernel_rfl) (by simp) ?_
                            refine AllReadyH.cons rfl (fun KE hKE => ?_) AllReadyH.nil
                            refine wanted_go rfl ?_
                            simp only [List.getElem_toArray, List.getElem_cons_zero, List.getElem_cons_succ]
                            refine Lib.wp_append_run _ _ _ _ _ rfl _ _ rfl rfl _ _ hr ?_
                            refine hKE.out _ _ (HKA.out.trans hN5) (fun hSE => ?_)
                            refine wpAnyH_take (i := 35) (v := .pointer (some ⟨gb, 2, none⟩)) rfl (by kernel_rfl) (by kernel_rfl) (by kernel_rfl) (fun _ _ _ h => h) (Or.inl ⟨by simp [Region.wanted], fun W _ => by go_simp⟩) hSE ?_
                            simp only [List.getElem_toArray, List.getElem_cons_zero, List.getElem_cons_succ, Act.put, List.setIfInBounds_toArray, List.set_cons_zero, List.set_cons_succ]
                            refine wpAnyH_ready (rs := [36]) (by kernel_rfl) (by simp) ?_
                            refine AllReadyH.cons rfl (fun KF hKF => ?_) AllReadyH.nil
                            refine wanted_go rfl ?_
                            simp only [List.getElem_toArray, List.getElem_cons_zero, List.getElem_cons_succ]
                            go_wp2
                            refine hKF.out _ _ (HKA.out.trans hN2) (fun _ => ?_)
                            refine wpAnyH_done (by kernel_rfl) ?_ _
                            have HNB := Lib.hid (show BkS W1.heap.size gb _ _ ⟨L0, L1, L2.take (i + 1), [], (n : Int)⟩ by rw [HTN.out]; exact hN1)
                            have HNK := Lib.hid (HKA.out.trans hN2)
                            have HNL := Lib.hid ((HLW.out.trans (HAL.out.mono HB0.out)).trans hN3)
                            clear hN1 hN2 hN3 hN4 hN5 hS2 hown hgrow hr hfz hcc hSE
                            go_wp2
                            go_roundw
                            case rel => exact ⟨i + 1, _, by go_num, hlt, HNK.out, HNL.out, HNB.out⟩
                            case measure => simp [intOf]; omega
                        · obtain ⟨ax, px, hvx⟩ := HF2.out
                          have k0 := HV.out.cell (show 7 < 15 by decide)
                          rw [hvx] at k0
                          have hall : L2.take i = L2 := List.take_of_length_le (by rw [HL2.out]; omega)
                          have HBK2 := Lib.hid (show BkS W1.heap.size gb wr v ⟨L0, L1, L2, [], (n : Int)⟩ by have h := HBK.out; rw [hall] at h; exact h)
                          clear HBK hall hvx HV
                          have HBK := Lib.hid HBK2.out
                          clear HBK2
                          obtain ⟨v2, hv2⟩ : ∃ x, x = v := ⟨_, rfl⟩
                          subst hv2
                          go_wp2
                          clear k0 hlt hi
                          go_loopw [17] (fun vi W => ∃ (i : Nat) (v : Slots), vi = .int .i64 (i : Int) ∧ i ≤ n3 ∧ KeepT Wd W ∧ Below W1.heap.size W1 W ∧ BkS W1.heap.size gb W v ⟨L0, L1, L2, L3.take i, (n : Int)⟩) (fun vi _ => n3 - (intOf vi).toNat)
                          case atStart => exact ⟨0, v2, rfl, Nat.zero_le _, HKT.out, HLW.out, by rw [List.take_zero]; exact HBK.out⟩
                          case round =>
                            obtain ⟨i, v, rfl, hi, hkt, hlw, hbk⟩ := hrel
                            clear HKT HLW HBK
                            have HKT := Lib.hid hkt
                            have HLW := Lib.hid hlw
                            have HBK := Lib.hid hbk
                            have HV := Lib.hid (HVX.out _ hkt)
                            clear hkt hlw hbk
                            by_cases hlt : i < n3
                            · have hix := HX3.out i hlt
                              have hlen : (L3.take i).length = i := by rw [List.length_take, HL3.out]; omega
                              have HTN := Lib.hid (take_one hix)
                              obtain ⟨g0, p0, hv0⟩ := HV.out.ptr (j := 13) (c := c13) rfl (by rw [HN3_0.out]; omega)
                              rw [HN3_0.out] at hv0
                              have hz0 : c13[i]? = some (c13.getD i 0) := by rw [List.getD_eq_getElem?_getD]; have := HN3_0.out; simp [show i < c13.length by omega]
                              generalize c13.getD i 0 = z0 at *
                              have HQ0 := Lib.hid (show ∀ W, KeepT Wd W → W.cell? ⟨W4.heap.size, 13, none⟩ = some (.slice (some ⟨g0, 0, none⟩) n3 p0) ∧ W.cell? ⟨g0, i, none⟩ = some (.int .i64 z0) from fun W h => ⟨by rw [← hv0]; exact (HVX.out W h).cell (by decide), (HVX.out W h).at (j := 13) rfl hz0 hv0⟩)
                              obtain ⟨g1, p1, hv1⟩ := HV.out.ptr (j := 14) (c := c14) rfl (by rw [HN3_1.out]; omega)
                              rw [HN3_1.out] at hv1
                              have hz1 : c14[i]? = some (c14.getD i 0) := by rw [List.getD_eq_getElem?_getD]; have := HN3_1.out; simp [show i < c14.length by omega]
                              generalize c14.getD i 0 = z1 at *
                              have HQ1 := Lib.hid (show ∀ W, KeepT Wd W → W.cell? ⟨W4.heap.size, 14, none⟩ = some (.slice (some ⟨g1, 0, none⟩) n3 p1) ∧ W.cell? ⟨g1, i, none⟩ = some (.int .i64 z1) from fun W h => ⟨by rw [← hv1]; exact (HVX.out W h).cell (by decide), (HVX.out W h).at (j := 14) rfl hz1 hv1⟩)
                              have k0 := (HQ0.out _ HKT.out).1
                              obtain ⟨i0, hi0, hz0', hz1', hz2'⟩ := info_parts infoZRate
                              have hown := HBK.out.r
                              dsimp only at hown
                              rw [hlen] at hown
                              have HOWN := Lib.hid hown
                              have hec := HBK.out.box.cells.2.2.2.1
                              dsimp only at hec
                              rw [hlen] at hec
                              have HEC := Lib.hid hec
                              have HB0 := Lib.hid HLW.out.size
                              clear hown hec hix hv0 hz0 hv1 hz1
                              go_upto_region 49 with (fail)
                              clear k0
                              have HAL := Lib.hid (show Below wr.heap.size wr (wr.alloc (.cells #[.int .i64 z0, .int .i64 z1] 64)).drew from ((Below.refl _ _).alloc (Nat.le_refl _) _).drew)
                              refine wp_region_held_drew (S := fun W => KeepT Wd W) (by kernel_rfl) (by exact HKT.out.trans (KeepT.below ((Below.refl _ _).drew))) (fun hS => ?_)
                              refine wpAnyH_take (i := 0) (v := .pointer (some ⟨gb, 3, none⟩)) rfl (by kernel_rfl) (by kernel_rfl) (by kernel_rfl) (fun _ _ _ h => h) (Or.inl ⟨by simp [Region.wanted], fun W _ => by go_simp⟩) hS ?_
                              simp only [List.getElem_toArray, List.getElem_cons_zero, Act.put, List.setIfInBounds_toArray, List.set_cons_zero, List.set_cons_succ]
                              refine wpAnyH_take (i := 2) (v := .pointer (some ⟨W4.heap.size, 13, none⟩)) rfl (by kernel_rfl) (by kernel_rfl) (by kernel_rfl) (fun _ _ _ h => h) (Or.inl ⟨by simp [Region.wanted], fun W _ => by go_simp⟩) hS ?_
                              simp only [List.getElem_toArray, List.getElem_cons_zero, List.getElem_cons_succ, Act.put, List.setIfInBounds_toArray, List.set_cons_zero, List.set_cons_succ]
                              refine wpAnyH_take (i := 3) (v := .slice (some ⟨g0, 0, none⟩) n3 p0) rfl (by kernel_rfl) (by kernel_rfl) (by kernel_rfl) (fun _ _ _ h => h) (Or.inl ⟨by simp [Region.wanted], fun W hW => by have kc := (HQ0.out W hW).1; go_simp⟩) hS ?_
                              simp only [List.getElem_toArray, List.getElem_cons_zero, List.getElem_cons_succ, Act.put, List.setIfInBounds_toArray, List.set_cons_zero, List.set_cons_succ]
                              refine wpAnyH_take (i := 4) (v := .int .i64 (i : Int)) rfl (by kernel_rfl) (by kernel_rfl) (by kernel_rfl) (fun _ _ _ h => h) (Or.inl ⟨by simp [Region.wanted], fun W _ => by go_simp⟩) hS ?_
                              simp only [List.getElem_toArray, List.getElem_cons_zero, List.getElem_cons_succ, Act.put, List.setIfInBounds_toArray, List.set_cons_zero, List.set_cons_succ]
                              refine wpAnyH_take (i := 5) (v := .pointer (some ⟨g0, i, none⟩)) rfl (by kernel_rfl) (by kernel_rfl) (by kernel_rfl) (fun _ _ _ h => h) (Or.inl ⟨by simp [Region.wanted], fun W _ => by go_simp⟩) hS ?_
                              simp only [List.getElem_toArray, List.getElem_cons_zero, List.getElem_cons_succ, Act.put, List.setIfInBounds_toArray, List.set_cons_zero, List.set_cons_succ]
                              refine wpAnyH_take (i := 6) (v := .int .i64 z0) rfl (by kernel_rfl) (by kernel_rfl) (by kernel_rfl) (fun _ _ _ h => h) (Or.inl ⟨by simp [Region.wanted], fun W hW => by have kz := (HQ0.out W hW).2; go_simp⟩) hS ?_
                              simp only [List.getElem_toArray, List.getElem_cons_zero, List.getElem_cons_succ, Act.put, List.setIfInBounds_toArray, List.set_cons_zero, List.set_cons_succ]
                              refine wpAnyH_take (i := 7) (v := .pointer (some ⟨W4.heap.size, 14, none⟩)) rfl (by kernel_rfl) (by kernel_rfl) (by kernel_rfl) (fun _ _ _ h => h) (Or.inl ⟨by simp [Region.wanted], fun W _ => by go_simp⟩) hS ?_
                              simp only [List.getElem_toArray, List.getElem_cons_zero, List.getElem_cons_succ, Act.put, List.setIfInBounds_toArray, List.set_cons_zero, List.set_cons_succ]
                              refine wpAnyH_take (i := 8) (v := .slice (some ⟨g1, 0, none⟩) n3 p1) rfl (by kernel_rfl) (by kernel_rfl) (by kernel_rfl) (fun _ _ _ h => h) (Or.inl ⟨by simp [Region.wanted], fun W hW => by have kc := (HQ1.out W hW).1; go_simp⟩) hS ?_
                              simp only [List.getElem_toArray, List.getElem_cons_zero, List.getElem_cons_succ, Act.put, List.setIfInBounds_toArray, List.set_cons_zero, List.set_cons_succ]
                              refine wpAnyH_take (i := 9) (v := .int .i64 (i : Int)) rfl (by kernel_rfl) (by kernel_rfl) (by kernel_rfl) (fun _ _ _ h => h) (Or.inl ⟨by simp [Region.wanted], fun W _ => by go_simp⟩) hS ?_
                              simp only [List.getElem_toArray, List.getElem_cons_zero, List.getElem_cons_succ, Act.put, List.setIfInBounds_toArray, List.set_cons_zero, List.set_cons_succ]
                              refine wpAnyH_take (i := 10) (v := .pointer (some ⟨g1, i, none⟩)) rfl (by kernel_rfl) (by kernel_rfl) (by kernel_rfl) (fun _ _ _ h => h) (Or.inl ⟨by simp [Region.wanted], fun W _ => by go_simp⟩) hS ?_
                              simp only [List.getElem_toArray, List.getElem_cons_zero, List.getElem_cons_succ, Act.put, List.setIfInBounds_toArray, List.set_cons_zero, List.set_cons_succ]
                              refine wpAnyH_take (i := 11) (v := .int .i64 z1) rfl (by kernel_rfl) (by kernel_rfl) (by kernel_rfl) (fun _ _ _ h => h) (Or.inl ⟨by simp [Region.wanted], fun W hW => by have kz := (HQ1.out W hW).2; go_simp⟩) hS ?_
                              simp only [List.getElem_toArray, List.getElem_cons_zero, List.getElem_cons_succ, Act.put, List.setIfInBounds_toArray, List.set_cons_zero, List.set_cons_succ]
                              refine wpAnyH_take (i := 12) (v := .agg #[.int .i64 z0, .int .i64 z1]) rfl (by kernel_rfl) (by kernel_rfl) (by kernel_rfl) (fun _ _ _ h => h) (Or.inl ⟨by simp [Region.wanted], fun W _ => by go_simp⟩) hS ?_
                              simp only [List.getElem_toArray, List.getElem_cons_zero, List.getElem_cons_succ, Act.put, List.setIfInBounds_toArray, List.set_cons_zero, List.set_cons_succ]
                              refine wpAnyH_ready (rs := [1, 13]) (by kernel_rfl) (by simp) ?_
                              refine AllReadyH.cons rfl (fun KA hKA => ?_) (AllReadyH.cons rfl (fun KA hKA => ?_) AllReadyH.nil)
                              · refine wanted_go rfl ?_
                                simp only [List.getElem_toArray, List.getElem_cons_zero, List.getElem_cons_succ]
                                have ec := HEC.out
                                go_wp2
                                refine hKA.out _ _ (HKT.out.trans (KeepT.below ((Below.refl _ _).drew))) (fun _ => ?_)
                                clear ec
                                refine wpAnyH_ready (rs := [13]) (by kernel_rfl) (by simp) ?_
                                refine AllReadyH.cons rfl (fun KB hKB => ?_) AllReadyH.nil
                                refine wanted_go rfl ?_
                                simp only [List.getElem_toArray, List.getElem_cons_zero, List.getElem_cons_succ]
                                go_wp2
                                refine hKB.out _ _ (HKT.out.trans (KeepT.below HAL.out)) (fun _ => ?_)
                                obtain ⟨v', w2, hr, hown, hgrow, _⟩ := run_append_own (P := Tryz.prog) (w := (wr.alloc (.cells #[.int .i64 z0, .int .i64 z1] 64)).drew) W1.heap.size 25 25 64 i0 _ 2 16 Tryz.underlying25 hi0 hz0' hz1' hz2' rfl (by decide) _ _ _ (own_below' HOWN.out HAL.out) ⟨wr.heap.size, 0, none⟩ 1 1 [.int .i64 z0, .int .i64 z1] rfl (fun j u hu => new_cells wr [.int .i64 z0, .int .i64 z1] 64 j u hu) (one_items [z0, z1]) (by unfold maxLen; omega) (by omega) (Nat.le_trans HB0.out HAL.out.size)
                                obtain ⟨av, cv, hv⟩ := own_formS hown
                                subst hv
                                have hS2 : BkS W1.heap.size gb (wr.alloc (.cells #[.int .i64 z0, .int .i64 z1] 64)).drew v ⟨L0, L1, L2, L3.take i, (n : Int)⟩ := HBK.out.below HAL.out
                                obtain ⟨hN1, hN2, hN3, hN4, hN5⟩ := hS2.appRate (x := [z0, z1]) (a := av) (cp := cv) (w2 := w2) (by show w2.ownsRow _ _ _ (.slice av ((L3.take i).length + 1) cv) ((L3.take i).length + 1) _; rw [hlen]; exact hown) (by show World.grownBy _ w2 (Value.slice v.r (L3.take i).length v.cr).ownBlock; rw [hlen]; exact hgrow) (Nat.le_trans HB0.out HAL.out.size)
                                dsimp only at hN1 hN2 hN3 hN4
                                rw [hlen] at hN1 hN2 hN3
                                have HKA := Lib.hid (HKT.out.trans (KeepT.below HAL.out))
                                have hfz := free_of_blkN hN4 3
                                obtain ⟨uo, hcc⟩ := cell_of_blkN hN4 3 (by simp [cellsB])
                                refine wpAnyH_ready (rs := [14]) (by kernel_rfl) (by simp) ?_
                                refine AllReadyH.cons rfl (fun KE hKE => ?_) AllReadyH.nil
                                refine wanted_go rfl ?_
                                simp only [List.getElem_toArray, List.getElem_cons_zero, List.getElem_cons_succ]
                                refine Lib.wp_append_run _ _ _ _ _ rfl _ _ rfl rfl _ _ hr ?_
                                refine hKE.out _ _ (HKA.out.trans hN5) (fun hSE => ?_)
                                refine wpAnyH_take (i := 15) (v := .pointer (some ⟨gb, 3, none⟩)) rfl (by kernel_rfl) (by kernel_rfl) (by kernel_rfl) (fun _ _ _ h => h) (Or.inl ⟨by simp [Region.wanted], fun W _ => by go_simp⟩) hSE ?_
                                simp only [List.getElem_toArray, List.getElem_cons_zero, List.getElem_cons_succ, Act.put, List.setIfInBounds_toArray, List.set_cons_zero, List.set_cons_succ]
                                refine wpAnyH_ready (rs := [16]) (by kernel_rfl) (by simp) ?_
                                refine AllReadyH.cons rfl (fun KF hKF => ?_) AllReadyH.nil
                                refine wanted_go rfl ?_
                                simp only [List.getElem_toArray, List.getElem_cons_zero, List.getElem_cons_succ]
                                go_wp2
                                refine hKF.out _ _ (HKA.out.trans hN2) (fun _ => ?_)
                                refine wpAnyH_done (by kernel_rfl) ?_ _
                                have HNB := Lib.hid (show BkS W1.heap.size gb _ _ ⟨L0, L1, L2, L3.take (i + 1), (n : Int)⟩ by rw [HTN.out]; exact hN1)
                                have HNK := Lib.hid (HKA.out.trans hN2)
                                have HNL := Lib.hid ((HLW.out.trans (HAL.out.mono HB0.out)).trans hN3)
                                clear hN1 hN2 hN3 hN4 hN5 hS2 hown hgrow hr hfz hcc hSE
                                go_wp2
                                go_roundw
                                case rel => exact ⟨i + 1, _, by go_num, hlt, HNK.out, HNL.out, HNB.out⟩
                                case measure => simp [intOf]; omega
                              · refine wanted_go rfl ?_
                                simp only [List.getElem_toArray, List.getElem_cons_zero, List.getElem_cons_succ]
                                go_wp2
                                refine hKA.out _ _ (HKT.out.trans (KeepT.below HAL.out)) (fun _ => ?_)
                                refine wpAnyH_ready (rs := [1]) (by kernel_rfl) (by simp) ?_
                                refine AllReadyH.cons rfl (fun KB hKB => ?_) AllReadyH.nil
                                refine wanted_go rfl ?_
                                simp only [List.getElem_toArray, List.getElem_cons_zero, List.getElem_cons_succ]
                                have ec := (HAL.out.cell (p := ⟨gb, 3, none⟩) (lt_of_blk HBK.out.box)).trans HEC.out
                                go_wp2
                                refine hKB.out _ _ (HKT.out.trans (KeepT.below HAL.out)) (fun _ => ?_)
                                clear ec
                                obtain ⟨v', w2, hr, hown, hgrow, _⟩ := run_append_own (P := Tryz.prog) (w := (wr.alloc (.cells #[.int .i64 z0, .int .i64 z1] 64)).drew) W1.heap.size 25 25 64 i0 _ 2 16 Tryz.underlying25 hi0 hz0' hz1' hz2' rfl (by decide) _ _ _ (own_below' HOWN.out HAL.out) ⟨wr.heap.size, 0, none⟩ 1 1 [.int .i64 z0, .int .i64 z1] rfl (fun j u hu => new_cells wr [.int .i64 z0, .int .i64 z1] 64 j u hu) (one_items [z0, z1]) (by unfold maxLen; omega) (by omega) (Nat.le_trans HB0.out HAL.out.size)
                                obtain ⟨av, cv, hv⟩ := own_formS hown
                                subst hv
                                have hS2 : BkS W1.heap.size gb (wr.alloc (.cells #[.int .i64 z0, .int .i64 z1] 64)).drew v ⟨L0, L1, L2, L3.take i, (n : Int)⟩ := HBK.out.below HAL.out
                                obtain ⟨hN1, hN2, hN3, hN4, hN5⟩ := hS2.appRate (x := [z0, z1]) (a := av) (cp := cv) (w2 := w2) (by show w2.ownsRow _ _ _ (.slice av ((L3.take i).length + 1) cv) ((L3.take i).length + 1) _; rw [hlen]; exact hown) (by show World.grownBy _ w2 (Value.slice v.r (L3.take i).length v.cr).ownBlock; rw [hlen]; exact hgrow) (Nat.le_trans HB0.out HAL.out.size)
                                dsimp only at hN1 hN2 hN3 hN4
                                rw [hlen] at hN1 hN2 hN3
                                have HKA := Lib.hid (HKT.out.trans (KeepT.below HAL.out))
                                have hfz := free_of_blkN hN4 3
                                obtain ⟨uo, hcc⟩ := cell_of_blkN hN4 3 (by simp [cellsB])
                                refine wpAnyH_ready (rs := [14]) (by kernel_rfl) (by simp) ?_
                                refine AllReadyH.cons rfl (fun KE hKE => ?_) AllReadyH.nil
                                refine wanted_go rfl ?_
                                simp only [List.getElem_toArray, List.getElem_cons_zero, List.getElem_cons_succ]
                                refine Lib.wp_append_run _ _ _ _ _ rfl _ _ rfl rfl _ _ hr ?_
                                refine hKE.out _ _ (HKA.out.trans hN5) (fun hSE => ?_)
                                refine wpAnyH_take (i := 15) (v := .pointer (some ⟨gb, 3, none⟩)) rfl (by kernel_rfl) (by kernel_rfl) (by kernel_rfl) (fun _ _ _ h => h) (Or.inl ⟨by simp [Region.wanted], fun W _ => by go_simp⟩) hSE ?_
                                simp only [List.getElem_toArray, List.getElem_cons_zero, List.getElem_cons_succ, Act.put, List.setIfInBounds_toArray, List.set_cons_zero, List.set_cons_succ]
                                refine wpAnyH_ready (rs := [16]) (by kernel_rfl) (by simp) ?_
                                refine AllReadyH.cons rfl (fun KF hKF => ?_) AllReadyH.nil
                                refine wanted_go rfl ?_
                                simp only [List.getElem_toArray, List.getElem_cons_zero, List.getElem_cons_succ]
                                go_wp2
                                refine hKF.out _ _ (HKA.out.trans hN2) (fun _ => ?_)
                                refine wpAnyH_done (by kernel_rfl) ?_ _
                                have HNB := Lib.hid (show BkS W1.heap.size gb _ _ ⟨L0, L1, L2, L3.take (i + 1), (n : Int)⟩ by rw [HTN.out]; exact hN1)
                                have HNK := Lib.hid (HKA.out.trans hN2)
                                have HNL := Lib.hid ((HLW.out.trans (HAL.out.mono HB0.out)).trans hN3)
                                clear hN1 hN2 hN3 hN4 hN5 hS2 hown hgrow hr hfz hcc hSE
                                go_wp2
                                go_roundw
                                case rel => exact ⟨i + 1, _, by go_num, hlt, HNK.out, HNL.out, HNB.out⟩
                                case measure => simp [intOf]; omega
                            · obtain ⟨ax, px, hvx⟩ := HF3.out
                              have k0 := HV.out.cell (show 13 < 15 by decide)
                              rw [hvx] at k0
                              have hall : L3.take i = L3 := List.take_of_length_le (by rw [HL3.out]; omega)
                              have HBK2 := Lib.hid (show BkS W1.heap.size gb wr v ⟨L0, L1, L2, L3, (n : Int)⟩ by have h := HBK.out; rw [hall] at h; exact h)
                              clear HBK hall hvx HV
                              have HBK := Lib.hid HBK2.out
                              clear HBK2
                              obtain ⟨v3, hv3⟩ : ∃ x, x = v := ⟨_, rfl⟩
                              subst hv3
                              have hbk : BkS W1.heap.size gb wr v3 BB := by rw [HBB.out]; exact HBK.out
                              have HMY := Lib.hid (may10 v3 BB wr (hbk.isIn HBO.out) (HBO.out.monoS (by omega)))
                              have HVB := Lib.hid hbk
                              have HI := Lib.hid (show (Tryz.prog.info? 27).map (·.size) = some (cellsB v3 BB).size from info27)
                              have hfin := HFIN2.out
                              clear hbk HBK
                              cases hm : mayT BB with
                              | false =>
                                rw [hm] at HMY
                                rw [if_pos hm] at hfin
                                have HERR := Lib.hid hfin
                                clear hfin hm
                                go_wp2_with (first
                                  | ((with_reducible refine atStore (ty := 27) (x := .tmp 2) (y := .tmp 226) rfl ?_); refine wpList_store_row rfl 27 (.tmp 2) (.tmp 226) rfl w.heap.size #[.slice none 0 0, .slice none 0 0, .slice none 0 0, .slice none 0 0, .int .i64 0] rfl rfl 27 #[.slice none 0 0, .slice none 0 0, .slice none 0 0, .slice none 0 0, .int .i64 0] (HZX.out _ HB2.out) info27 rfl (by simp [Value.oneCell']) ?_)
                                  | (go_at_call 9; refine HMY.out.mono ?_; rintro e y2 ⟨rfl, hb2⟩; have HB2 := Lib.hid (HLW.out.trans (hb2.mono HLW.out.size)); have HVC := Lib.hid (HVB.out.below hb2); clear hb2)
                                  | ((with_reducible refine atLoad (ty := 27) (x := .tmp 5) rfl ?_); refine wpList_load_row rfl 27 (.tmp 5) rfl gb rfl 27 (cellsB v3 BB) (0, 0) _ HVB.out.box Tryz.underlying27 rfl HI.out ?_))
                                refine ret_cell_tmp (v := .int .i64 3) rfl rfl rfl rfl (setRow_heap _ _ _ _ _ _ (HZX.out _ HB2.out)) Tryz.underlying27 rfl HIZ.out ?_
                                exact get_zero_end HA.out HB2.out HERR.out
                              | true =>
                                rw [hm] at HMY
                                rw [if_neg (by rw [hm]; simp)] at hfin
                                have HERR := Lib.hid hfin
                                clear hfin hm
                                go_wp2_with (first
                                  | ((with_reducible refine atStore (ty := 27) (x := .tmp 2) (y := .tmp 227) rfl ?_); refine wpList_store_row rfl 27 (.tmp 2) (.tmp 227) rfl w.heap.size (cellsB v3 BB) rfl rfl 27 #[.slice none 0 0, .slice none 0 0, .slice none 0 0, .slice none 0 0, .int .i64 0] (HZX.out _ HB2.out) info27 rfl (by simp [cellsB, Value.oneCell']) ?_)
                                  | ((with_reducible refine atLoad (ty := 27) (x := .tmp 5) rfl ?_); refine wpList_load_row rfl 27 (.tmp 5) rfl gb rfl 27 (cellsB v3 BB) (0, 0) _ HVC.out.box Tryz.underlying27 rfl HI.out ?_)
                                  | (go_at_call 9; refine HMY.out.mono ?_; rintro e y2 ⟨rfl, hb2⟩; have HB2 := Lib.hid (HLW.out.trans (hb2.mono HLW.out.size)); have HVC := Lib.hid (HVB.out.below hb2); clear hb2)
                                  | ((with_reducible refine atLoad (ty := 27) (x := .tmp 5) rfl ?_); refine wpList_load_row rfl 27 (.tmp 5) rfl gb rfl 27 (cellsB v3 BB) (0, 0) _ HVB.out.box Tryz.underlying27 rfl HI.out ?_))
                                refine ret_cell_tmp (v := .int .i64 0) rfl rfl rfl rfl (setRow_heap _ _ _ _ _ _ (HZX.out _ HB2.out)) Tryz.underlying27 rfl HI.out ?_
                                exact get_book_end HS1.out HA.out HB2.out HVC.out HBO.out HERR.out
        · rw [if_pos hre] at hfin
          have HERR := Lib.hid hfin
          have hq : rest.toList ≠ [] := by rw [Lib.toList_data]; exact hre
          have z2 : rest.toList.isEmpty = false := by cases h : rest.toList with | nil => exact absurd h hq | cons a b => rfl
          have z1 : (rest.toList == []) = false := by rw [beq_eq_false_iff_ne]; exact hq
          clear hfin hre hok
          go_wp2_with ((with_reducible refine atStore (ty := 27) (x := .tmp 2) (y := .tmp 75) rfl ?_); refine wpList_store_row rfl 27 (.tmp 2) (.tmp 75) rfl w.heap.size #[.slice none 0 0, .slice none 0 0, .slice none 0 0, .slice none 0 0, .int .i64 0] rfl rfl 27 #[.slice none 0 0, .slice none 0 0, .slice none 0 0, .slice none 0 0, .int .i64 0] (HZW.out _ HST.out.lo) info27 rfl (by simp [Value.oneCell']) ?_)
          refine ret_cell_tmp (v := .int .i64 3) rfl rfl rfl rfl (setRow_heap _ _ _ _ _ _ (HZW.out _ HST.out.lo)) Tryz.underlying27 rfl HIZ.out ?_
          exact get_zero_end HA.out (HW1.out _ HST.out.lo) HERR.out
  · exact rget13_bad S w hS n P e0 hn he0 R hR
end Go.Proofs.YtnhljfhpfpfniaaGreat
