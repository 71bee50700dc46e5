/- The contract of the document's Get. -/
import Derived.Test.YtnhljfhpfpfniaaGreatClRef2
namespace Go.Proofs.YtnhljfhpfpfniaaGreat
open Go.RowKit Base Base2

theorem ext_drop (S : ByteArray) (P : Nat) : (S.extract P S.size).data.toList = S.data.toList.drop P := by
  rw [ByteArray.data_extract, Array.toList_extract, List.extract_eq_take_drop, List.take_of_length_le]
  rw [List.length_drop, Lib.size_eq]; omega
/-- What is still to come, from a place on, behind runs. -/
def contS (s : List UInt8) (n P : Nat) (r : List RunT) : List Int × Nat × Int :=
  if (getR (s.drop P) (n - total r) (r.getLast?.map (·.1))).2.2 ≠ 0 then ([], 0, (getR (s.drop P) (n - total r) (r.getLast?.map (·.1))).2.2)
  else (undiff 0 (expand (r ++ (getR (s.drop P) (n - total r) (r.getLast?.map (·.1))).1)), P + (getR (s.drop P) (n - total r) (r.getLast?.map (·.1))).2.1, 0)
theorem total_app : ∀ (r s : List RunT), total (r ++ s) = total r + total s
  | [], s => by simp [total]
  | p :: r, s => by show p.2 + total (r ++ s) = p.2 + total r + total s; rw [total_app r s]; omega
theorem getS_cont {s : List UInt8} {most n i : Nat} (h : numM s most = (n, i, 0)) : getS s most = contS s n i [] := by
  obtain ⟨r, k, f, hr⟩ : ∃ r k f, getR (s.drop i) n none = (r, k, f) := ⟨_, _, _, rfl⟩
  rw [getS_is h hr, if_neg (by simp)]
  unfold contS
  show _ = if (getR (s.drop i) (n - 0) none).2.2 ≠ 0 then _ else _
  simp only [Nat.sub_zero, total, List.getLast?_nil, Option.map_none, hr, List.nil_append]
theorem contS_end {s : List UInt8} {n P : Nat} {r : List RunT} (h : total r = n) : contS s n P r = (undiff 0 (expand r), P, 0) := by
  unfold contS
  rw [h, Nat.sub_self, getR_zero]
  simp
theorem contS_e1 {s : List UInt8} {n P u j : Nat} {r : List RunT} {e : Int} (h0 : total r < n) (hu : M.num (s.drop P) = (u, j, e)) (he : e ≠ 0) : contS s n P r = ([], 0, e) := by
  unfold contS
  rw [getR_e1 (by omega) hu he, if_pos he]
theorem contS_e2 {s : List UInt8} {n P u j v i : Nat} {r : List RunT} {e : Int} (h0 : total r < n) (hu : M.num (s.drop P) = (u, j, 0)) (hv : numM (s.drop (P + j)) (n - total r) = (v, i, e)) (he : e ≠ 0) : contS s n P r = ([], 0, e) := by
  unfold contS
  rw [getR_e2 (by omega) hu (by rw [List.drop_drop]; exact hv) he, if_pos he]
theorem contS_form {s : List UInt8} {n P u j v i : Nat} {r : List RunT} (h0 : total r < n) (hu : M.num (s.drop P) = (u, j, 0)) (hv : numM (s.drop (P + j)) (n - total r) = (v, i, 0)) (hb : v = 0 ∨ r.getLast?.map (·.1) = some (M.zag (u : Int))) : contS s n P r = ([], 0, 3) := by
  unfold contS
  rw [getR_form (by omega) hu (by rw [List.drop_drop]; exact hv) hb, if_pos (by simp)]
theorem contS_next {s : List UInt8} {n P u j v i : Nat} {r : List RunT} (h0 : total r < n) (hu : M.num (s.drop P) = (u, j, 0)) (hv : numM (s.drop (P + j)) (n - total r) = (v, i, 0)) (hb : ¬ (v = 0 ∨ r.getLast?.map (·.1) = some (M.zag (u : Int)))) :
    contS s n P r = contS s n (P + j + i) (r ++ [(M.zag (u : Int), v)]) := by
  obtain ⟨r2, k2, e3, hc⟩ : ∃ r2 k2 e3, getR ((s.drop P).drop (j + i)) (n - total r - v) (some (M.zag (u : Int))) = (r2, k2, e3) := ⟨_, _, _, rfl⟩
  have h1 := getR_next (was := r.getLast?.map (·.1)) (by omega) hu (by rw [List.drop_drop]; exact hv) hb hc
  unfold contS
  have h2 : getR (s.drop (P + j + i)) (n - total (r ++ [(M.zag (u : Int), v)])) ((r ++ [(M.zag (u : Int), v)]).getLast?.map (·.1)) = (r2, k2, e3) := by
    rw [total_app, List.getLast?_concat, ← hc, List.drop_drop]
    show getR _ (n - (total r + (v + 0))) (some (M.zag (u : Int))) = _
    rw [show n - (total r + (v + 0)) = n - total r - v by omega, Nat.add_assoc]
  rw [h1, h2]
  by_cases he : e3 = 0
  · subst he
    simp [List.append_assoc, Nat.add_assoc]
  · simp [he]
def lenV : Value → Nat
  | .slice _ n _ => n
  | _ => 0
theorem numM_zero {s : List UInt8} {m v i : Nat} {e : Int} (h : numM s m = (v, i, e)) (he : e ≠ 0) : v = 0 := by
  unfold numM numTo at h
  split at h
  · simp only [Prod.mk.injEq] at h; exact h.1.symm
  · have := M.num_form s
    rw [h] at this
    dsimp only at this
    omega
theorem canon_snoc {d : Int} {v : Nat} (hv : 1 ≤ v) : ∀ (r : List RunT) (was : Option Int), Canon was r → (∀ p, r.getLast? = some p → p.1 ≠ d) → (r = [] → was ≠ some d) → Canon was (r ++ [(d, v)])
  | [], was, _, _, h => ⟨hv, h rfl, trivial⟩
  | [p], was, hc, h, _ => ⟨hc.1, hc.2.1, hv, fun a => h p rfl (Option.some.inj a), trivial⟩
  | p :: q :: r, was, hc, h, _ => ⟨hc.1, hc.2.1, canon_snoc hv (q :: r) (some p.1) hc.2.2 (fun p' hp' => h p' (by rw [List.getLast?_cons_cons]; exact hp')) (fun e => by cases e)⟩
theorem expand_snoc (r : List RunT) (d : Int) (v : Nat) : expand (r ++ [(d, v)]) = expand r ++ List.replicate v d := by rw [expand_app]; simp [expand]
theorem last_undiff (r : List RunT) (d : Int) (k : Nat) : undiff 0 (expand r ++ List.replicate (k + 1) d) = undiff 0 (expand r ++ List.replicate k d) ++ [w64 ((undiff 0 (expand r ++ List.replicate k d)).getLastD 0 + d)] := by
  rw [List.replicate_succ', ← List.append_assoc, undiff_app]; rfl
theorem one_i64C (n : Int) : ∀ u ∈ [Value.int .i64 n], u.oneCell' = true := by
  intro u hu; simp at hu; subst hu; rfl
theorem info2C : (Tryz.prog.info? 2).map (fun i => (i.zero, i.size, i.bytes)) = some (some (.int .i64 0), 1, 8) := by kernel_rfl
/-- While numbers are read: the reader, the row of numbers. -/
structure ColS (w : World) (S : ByteArray) (L : List Int) (P : Nat) (e : Int) (v : Value) (W : World) : Prop where
  rd : RdY W w.heap.size S P e
  row : W.ownsRow w.heap.size 2 1 v L.length (L.map (Value.int .i64))
  lo : Below w.heap.size w W
theorem ColS.step {w W W' : World} {S : ByteArray} {L : List Int} {P P' : Nat} {e e' : Int} {v : Value} (h : ColS w S L P e v W) (hr : RdY W' w.heap.size S P' e') (hg : W.grownBy W' (some w.heap.size)) : ColS w S L P' e' v W' :=
  ⟨hr, h.row.kept hg (.inr (Ne.symm (own_ne' h.row h.rd (by decide)))), h.lo.grown hg (by have := lt_of_blk h.rd; omega) (fun k hk => by simp at hk; omega)⟩
theorem ColS.drewN {w W : World} {S : ByteArray} {L : List Int} {P : Nat} {e : Int} {v : Value} (h : ColS w S L P e v W) (m : Nat) : ColS w S L P e v (W.drewN m) := ⟨h.rd, h.row, below_drewN' h.lo m⟩
theorem ColS.app {w W W' : World} {S : ByteArray} {L : List Int} {P : Nat} {e x : Int} {v v' : Value} (h : ColS w S L P e v W) (hr : W'.ownsRow w.heap.size 2 1 v' (L.length + 1) (L.map (Value.int .i64) ++ [.int .i64 x])) (hg : (W.alloc (.cells #[.int .i64 x] 2)).grownBy W' v.ownBlock) : ColS w S (L ++ [x]) P e v' W' := by
  have hl := lt_of_blk h.rd
  refine ⟨(hg.block _ (by simp; omega) (own_ne' h.row h.rd (by decide))).trans ((Below.heap_alloc _ _ _ hl).trans h.rd), by simpa using hr, h.lo.grown (World_grown_alloc hg) (by omega) (fun k hk => own_block_ge h.row k hk)⟩
theorem own_form {W : World} {base : Nat} {e : TypeId} {v : Value} {n : Nat} {xs : List Value} (h : W.ownsRow base e 1 v n xs) : ∃ av cv, v = .slice av n cv := by
  rcases h.2 with ⟨rfl, hn⟩ | ⟨g, cap2, cur, rfl, _⟩
  · exact ⟨_, _, by rw [hn]⟩
  · exact ⟨_, _, rfl⟩
/-- What Get answers. -/
def GetQ (w : World) (R : List Int × Nat × Int) (e : Ending) (w' : World) : Prop := (∃ v, e = .returned (.tuple #[v, .int .i64 (R.2.1 : Int), .int .i64 R.2.2]) ∧ w'.ownsRow w.heap.size 2 1 v R.1.length (R.1.map (Value.int .i64))) ∧ Below w.heap.size w w'
theorem GetQ.bad {w w' : World} {R : List Int × Nat × Int} {er : Int} (hR : R = ([], 0, er)) (hb : Below w.heap.size w w') : GetQ w R (.returned (.tuple #[.slice none 0 0, .int .i64 0, .int .i64 er])) w' := by
  subst hR
  exact ⟨⟨_, rfl, ⟨rfl, .inl ⟨rfl, rfl⟩⟩⟩, hb⟩
theorem GetQ.good {w w' : World} {R : List Int × Nat × Int} {L : List Int} {P : Nat} {e : Int} {S : ByteArray} {v : Value} (hR : R = (L, P, 0)) (h : ColS w S L P e v w') : GetQ w R (.returned (.tuple #[v, .int .i64 (P : Int), .int .i64 0])) w' := by
  subst hR
  exact ⟨⟨_, rfl, h.row⟩, h.lo⟩

set_option maxRecDepth 100000 in
set_option maxHeartbeats 8000000 in
theorem rget13 (S : ByteArray) (most : Nat) (w : World) (hs : S.size ≤ 1000000) (hm : most ≤ 65536) :
    Calls Tryz.prog 33 #[.string S, .int .i64 (most : Int)] w fun e w' => GetQ w (getS S.data.toList most) e w' := by
  obtain ⟨i0, hi0, hz0, hz1, hz2⟩ := info_parts info2C
  have HO := Lib.hid (of25 S w)
  have hwm : IntKind.u64.wrap (most : Int) = (most : Int) := by rw [IntKind.wrap_u64]; omega
  obtain ⟨n, j0, e0, hn⟩ : ∃ n j e, numM S.data.toList most = (n, j, e) := ⟨_, _, _, rfl⟩
  have h0 : (S.extract 0 S.size).data.toList = S.data.toList := by rw [ext_drop]; rfl
  have HN := Lib.hid (fun W h => num26 w.heap.size S 0 0 (most : Int) W hs (Nat.zero_le _) h)
  rw [h0, show numTo S.data.toList (fun n => decide ((n : Int) ≤ (most : Int))) = (n, j0, e0) from hn, orZ_ok] at HN
  dsimp only at HN
  have hle := numTo_le S (fun n => decide ((n : Int) ≤ (most : Int)))
  rw [show numTo S.data.toList (fun n => decide ((n : Int) ≤ (most : Int))) = (n, j0, e0) from hn] at hle
  dsimp only at hle
  obtain ⟨RES, hRES⟩ : ∃ R, getS S.data.toList most = R := ⟨_, rfl⟩
  rw [hRES]
  by_cases he0 : e0 = 0
  · subst he0
    have hnm := (numM_some hn).2
    have HR := Lib.hid (hRES.symm.trans (getS_cont hn))
    have hwn : IntKind.i64.wrap (n : Int) = (n : Int) := by rw [IntKind.wrap_i64]; omega
    have HST : Hid (∀ W, RdY W w.heap.size S j0 0 → Below w.heap.size w W → ColS w S [] j0 0 (.slice none 0 0) W) := fun W h1 h2 => ⟨h1, ⟨rfl, .inl ⟨rfl, rfl⟩⟩, h2⟩
    rw [AfterY_ok, Int.toNat_natCast, Nat.zero_add] at HN
    dsimp only at HN
    clear hn hRES h0
    go_enter Tryz.func33, Tryz.ntmps33
    go_wp2_with (first
      | (go_at_call 31; refine HO.out.mono ?_; rintro e w1 ⟨rfl, hr1, hb1⟩; have HR1 := Lib.hid hr1; have HB1 := Lib.hid hb1; clear hr1 hb1)
      | (go_at_call 32; refine (HN.out _ HR1.out).mono ?_; rintro e w2 ⟨rfl, hr2, hg2⟩; have HC2 := Lib.hid (HST.out _ hr2 (HB1.out.grown hg2 HB1.out.size (fun k hk => by simp at hk; omega))); clear hr2 hg2))
    have HSW := Lib.hid (Nat.le_refl 0)
    go_loopw [9, 10, 11] (fun vo vx vy W => ∃ (P : Nat) (r : List RunT) (x y : Int), P ≤ S.size ∧ Canon none r ∧ total r ≤ n ∧ vx = .int .i64 x ∧ vy = .int .i64 y ∧ x = (undiff 0 (expand r)).getLastD 0 ∧ (r ≠ [] → r.getLast?.map (·.1) = some y) ∧ RES = contS S.data.toList n P r ∧ ColS w S (undiff 0 (expand r)) P 0 vo W) (fun vo _ _ _ => n - lenV vo)
    case atStart => exact ⟨j0, [], 0, 0, hle, trivial, Nat.zero_le _, rfl, rfl, rfl, fun h => absurd rfl h, HR.out, HC2.out⟩
    case round =>
      clear HR HC2 HST HN HO HR1 HB1 HSW
      obtain ⟨P, r, x, y, hP, hcan, htot, rfl, rfl, hx, hwas, hres, hS⟩ := hrel
      obtain ⟨av, cv, hv⟩ := own_form hS.row
      subst hv
      have hlL : (undiff 0 (expand r)).length = total r := by rw [undiff_len, expand_len]
      obtain ⟨T, hT⟩ : ∃ T, total r = T := ⟨_, rfl⟩
      rw [hT] at hlL htot
      rw [hlL] at hS ⊢
      have c20 := hS.rd.c2
      have hdl : (S.data.toList.drop P).length = S.size - P := by rw [List.length_drop, Lib.size_eq]
      have HS := Lib.hid hS
      by_cases hlt : T < n
      · obtain ⟨u, j, e1, hu⟩ : ∃ u j e, M.num (S.data.toList.drop P) = (u, j, e) := ⟨_, _, _, rfl⟩
        have HI := Lib.hid (int27 w.heap.size S P 0 wr hs hP hS.rd)
        rw [ext_drop, hu, orZ_ok] at HI
        dsimp only at HI
        obtain ⟨mm, hmm⟩ : ∃ mm, n - T = mm := ⟨_, rfl⟩
        have hsub : (n : Int) - (T : Int) = (mm : Int) := by omega
        have hwmm : IntKind.u64.wrap (mm : Int) = (mm : Int) := by rw [IntKind.wrap_u64]; omega
        obtain ⟨d, hd⟩ : ∃ d, M.zag (u : Int) = d := ⟨_, rfl⟩
        rw [hd] at HI
        by_cases he1 : e1 = 0
        · subst he1
          rw [AfterY_ok, Int.toNat_natCast] at HI
          dsimp only at HI
          have hj : P + j ≤ S.size := by have := (num_of hu).2.1; omega
          obtain ⟨v, i, e2, hv⟩ : ∃ v i e, numM (S.data.toList.drop (P + j)) mm = (v, i, e) := ⟨_, _, _, rfl⟩
          have HN := Lib.hid (fun W h => num26 w.heap.size S (P + j) 0 (mm : Int) W hs hj h)
          rw [ext_drop, show numTo (S.data.toList.drop (P + j)) (fun n => decide ((n : Int) ≤ (mm : Int))) = (v, i, e2) from hv, orZ_ok] at HN
          dsimp only at HN
          by_cases he2 : e2 = 0
          · subst he2
            rw [AfterY_ok, Int.toNat_natCast] at HN
            dsimp only at HN
            have hvb := numM_some hv
            have hi2 : P + j + i ≤ S.size := by have := (num_of hvb.1).2.1; rw [List.length_drop, ← Lib.size_eq] at this; omega
            have hwv : IntKind.i64.wrap (v : Int) = (v : Int) := by rw [IntKind.wrap_i64]; omega
            by_cases hv0 : v = 0
            · have hz := hres.trans (contS_form (by omega) hu (by rw [hT, hmm]; exact hv) (.inl hv0))
              subst hv0
              clear hres hu hv hx hwas hcan hS hd
              go_wp2_with (first | (go_at_call 78; refine HI.out.mono ?_; rintro e w3 ⟨rfl, hr3, hg3⟩; have HS3 := Lib.hid (HS.out.step hr3 hg3); clear hr3 hg3) | (go_at_call 32; refine (HN.out _ HS3.out.rd).mono ?_; rintro e w4 ⟨rfl, hr4, hg4⟩; have HS4 := Lib.hid (HS3.out.step hr4 hg4); have c2 := HS4.out.rd.c2; clear hr4 hg4))
              go_ret3
              exact GetQ.bad hz HS4.out.lo
            · have gv : ((v : Int) == 0) = false := by rw [beq_eq_false_iff_ne]; omega
              have hvm : v ≤ mm := hvb.2
              have hv1 : 1 ≤ v := by omega
              have hmT : T + mm = n := by omega
              by_cases hT0 : T = 0
              · have hr0 : r = [] := by
                  cases r with
                  | nil => rfl
                  | cons p r => have := hcan.1; simp [total] at hT; omega
                subst hr0
                have hnx := hres.trans (contS_next (by omega) hu (by rw [hT, hmm]; exact hv) (by rintro (a | a); exact hv0 a; simp at a))
                rw [hd] at hnx
                have hcan2 : Canon none ([] ++ [(d, v)]) := ⟨by show 1 ≤ v; omega, by simp, trivial⟩
                have HNX := Lib.hid hnx
                have HCAN := Lib.hid hcan2
                have HX := Lib.hid hx
                have hT1 : ¬ (0 : Int) < (T : Int) := by omega
                have HT := Lib.hid hT
                clear hres hu hv hwas hcan hS hd hnx hcan2 hx hT hT0 hlL hdl hmm hvb hv0
                go_wp2_with (first | (go_at_call 78; refine HI.out.mono ?_; rintro e w3 ⟨rfl, hr3, hg3⟩; have HS3 := Lib.hid (HS.out.step hr3 hg3); clear hr3 hg3) | (go_at_call 32; refine (HN.out _ HS3.out.rd).mono ?_; rintro e w4 ⟨rfl, hr4, hg4⟩; have HS4 := Lib.hid (HS3.out.step hr4 hg4); have c2 := HS4.out.rd.c2; clear hr4 hg4))
                go_loopw [9, 10, 15] (fun vo vx vi W => ∃ (q : Nat) (x : Int), q ≤ v ∧ vi = .int .i64 (q : Int) ∧ vx = .int .i64 x ∧ x = (undiff 0 (expand ([] : List RunT) ++ List.replicate q d)).getLastD 0 ∧ ColS w S (undiff 0 (expand ([] : List RunT) ++ List.replicate q d)) (P + j + i) 0 vo W) (fun _ _ vi _ => v - (intOf vi).toNat)
                case atStart => exact ⟨0, x, by omega, rfl, rfl, by simpa using HX.out, by simpa using HS4.out⟩
                case round =>
                  obtain ⟨q, x2, hq, rfl, rfl, hx2, hC⟩ := hrel
                  obtain ⟨av2, cv2, hv2⟩ := own_form hC.row
                  subst hv2
                  have hl2 : (undiff 0 (expand ([] : List RunT) ++ List.replicate q d)).length = T + q := by rw [undiff_len, List.length_append, expand_len, HT.out, List.length_replicate]
                  have hnext := last_undiff ([] : List RunT) d q
                  have hexp := expand_snoc ([] : List RunT) d v
                  by_cases hlt2 : q < v
                  · obtain ⟨L2, hL2⟩ : ∃ L, undiff 0 (expand ([] : List RunT) ++ List.replicate q d) = L := ⟨_, rfl⟩
                    rw [hL2] at hx2 hl2 hnext hC
                    rw [← hx2] at hnext
                    obtain ⟨z, hz⟩ : ∃ z, w64 (x2 + d) = z := ⟨_, rfl⟩
                    rw [hz] at hnext
                    have hz5 : IntKind.i64.wrap (x2 + d) = z := hz
                    rw [hL2, hl2]
                    rw [hl2] at hC
                    have b1 : L2.length + 1 ≤ maxLen := by unfold maxLen; omega
                    have b2 : (L2.length + 1) * 8 ≤ 140737488355328 := by omega
                    have HC := Lib.hid hC
                    have HNE := Lib.hid hnext
                    have HL2 := Lib.hid hl2
                    clear hC hnext hL2 hz hx2 hexp hl2
                    go_wp2_with (at_builtin; refine wpList_append_own _ rfl _ _ 59 rfl w.heap.size 2 i0 (.int .i64 0) 1 8 Tryz.underlying59 hi0 hz0 hz1 hz2 rfl (by decide) _ _ _ rfl (HC.out.row.alloc _) ⟨wr.heap.size, 0, none⟩ 1 1 [.int .i64 z] rfl rfl (new_one _ _ _) (one_i64C _) b1 b2 (by have := HC.out.lo.size; simp; omega) ?_; intro v3 w5 hown hgrow _; have HA := Lib.hid (HC.out.app hown hgrow); clear hown hgrow)
                    go_roundw
                    case rel => exact ⟨q + 1, z, by omega, by go_num, rfl, by rw [HNE.out]; simp, by rw [HNE.out]; exact HA.out⟩
                    case measure => simp [intOf]; omega
                  · have hqv : q = v := by omega
                    subst hqv
                    rw [← hexp] at hx2 hC hl2
                    have HC := Lib.hid hC
                    have HX2 := Lib.hid hx2
                    have HL2 := Lib.hid hl2
                    rw [← hexp]
                    clear hC hx2 hnext hexp hlt2 hq
                    go_wp2
                    go_roundw
                    case rel => exact ⟨P + j + i, ([] : List RunT) ++ [(d, q)], x2, d, hi2, HCAN.out, by rw [total_app]; show total ([] : List RunT) + (q + 0) ≤ n; rw [HT.out]; omega, rfl, rfl, HX2.out, fun _ => by simp, HNX.out, HC.out⟩
                    case measure =>
                      have h9 := HL2.out
                      simp only [lenV]
                      rw [h9]; omega
              · have hT1 : (0 : Int) < (T : Int) := by omega
                have hrne : r ≠ [] := by rintro rfl; exact hT0 hT.symm
                have hw2 := hwas hrne
                by_cases hdy : d = y
                · have gdy : (d == y) = true := by simpa using hdy
                  have hz := hres.trans (contS_form (by omega) hu (by rw [hT, hmm]; exact hv) (.inr (by rw [hd, hw2, hdy])))
                  clear hres hu hv hx hwas hcan hS hd hw2 hdy
                  go_wp2_with (first | (go_at_call 78; refine HI.out.mono ?_; rintro e w3 ⟨rfl, hr3, hg3⟩; have HS3 := Lib.hid (HS.out.step hr3 hg3); clear hr3 hg3) | (go_at_call 32; refine (HN.out _ HS3.out.rd).mono ?_; rintro e w4 ⟨rfl, hr4, hg4⟩; have HS4 := Lib.hid (HS3.out.step hr4 hg4); have c2 := HS4.out.rd.c2; clear hr4 hg4))
                  go_ret3
                  exact GetQ.bad hz HS4.out.lo
                · have gdy : (d == y) = false := by rw [beq_eq_false_iff_ne]; exact hdy
                  have hnx := hres.trans (contS_next (by omega) hu (by rw [hT, hmm]; exact hv) (by rintro (a | a); exact hv0 a; rw [hd, hw2] at a; exact hdy (Option.some.inj a).symm))
                  rw [hd] at hnx
                  have hcan2 : Canon none (r ++ [(d, v)]) := canon_snoc (by omega) r none hcan (fun p hp e => hdy (by rw [hp] at hw2; rw [← e]; exact (Option.some.inj hw2))) (fun e => absurd e hrne)
                  have HNX := Lib.hid hnx
                  have HCAN := Lib.hid hcan2
                  have HX := Lib.hid hx
                  have HT := Lib.hid hT
                  clear hres hu hv hwas hcan hS hd hw2 hdy hnx hcan2 hx hT hT0 hlL hdl hmm hvb hrne hv0
                  go_wp2_with (first | (go_at_call 78; refine HI.out.mono ?_; rintro e w3 ⟨rfl, hr3, hg3⟩; have HS3 := Lib.hid (HS.out.step hr3 hg3); clear hr3 hg3) | (go_at_call 32; refine (HN.out _ HS3.out.rd).mono ?_; rintro e w4 ⟨rfl, hr4, hg4⟩; have HS4 := Lib.hid (HS3.out.step hr4 hg4); have c2 := HS4.out.rd.c2; clear hr4 hg4))
                  go_loopw [9, 10, 15] (fun vo vx vi W => ∃ (q : Nat) (x : Int), q ≤ v ∧ vi = .int .i64 (q : Int) ∧ vx = .int .i64 x ∧ x = (undiff 0 (expand r ++ List.replicate q d)).getLastD 0 ∧ ColS w S (undiff 0 (expand r ++ List.replicate q d)) (P + j + i) 0 vo W) (fun _ _ vi _ => v - (intOf vi).toNat)
                  case atStart => exact ⟨0, x, by omega, rfl, rfl, by simpa using HX.out, by simpa using HS4.out⟩
                  case round =>
                    obtain ⟨q, x2, hq, rfl, rfl, hx2, hC⟩ := hrel
                    obtain ⟨av2, cv2, hv2⟩ := own_form hC.row
                    subst hv2
                    have hl2 : (undiff 0 (expand r ++ List.replicate q d)).length = T + q := by rw [undiff_len, List.length_append, expand_len, HT.out, List.length_replicate]
                    have hnext := last_undiff r d q
                    have hexp := expand_snoc r d v
                    by_cases hlt2 : q < v
                    · obtain ⟨L2, hL2⟩ : ∃ L, undiff 0 (expand r ++ List.replicate q d) = L := ⟨_, rfl⟩
                      rw [hL2] at hx2 hl2 hnext hC
                      rw [← hx2] at hnext
                      obtain ⟨z, hz⟩ : ∃ z, w64 (x2 + d) = z := ⟨_, rfl⟩
                      rw [hz] at hnext
                      have hz5 : IntKind.i64.wrap (x2 + d) = z := hz
                      rw [hL2, hl2]
                      rw [hl2] at hC
                      have b1 : L2.length + 1 ≤ maxLen := by unfold maxLen; omega
                      have b2 : (L2.length + 1) * 8 ≤ 140737488355328 := by omega
                      have HC := Lib.hid hC
                      have HNE := Lib.hid hnext
                      have HL2 := Lib.hid hl2
                      clear hC hnext hL2 hz hx2 hexp hl2
                      go_wp2_with (at_builtin; refine wpList_append_own _ rfl _ _ 59 rfl w.heap.size 2 i0 (.int .i64 0) 1 8 Tryz.underlying59 hi0 hz0 hz1 hz2 rfl (by decide) _ _ _ rfl (HC.out.row.alloc _) ⟨wr.heap.size, 0, none⟩ 1 1 [.int .i64 z] rfl rfl (new_one _ _ _) (one_i64C _) b1 b2 (by have := HC.out.lo.size; simp; omega) ?_; intro v3 w5 hown hgrow _; have HA := Lib.hid (HC.out.app hown hgrow); clear hown hgrow)
                      go_roundw
                      case rel => exact ⟨q + 1, z, by omega, by go_num, rfl, by rw [HNE.out]; simp, by rw [HNE.out]; exact HA.out⟩
                      case measure => simp [intOf]; omega
                    · have hqv : q = v := by omega
                      subst hqv
                      rw [← hexp] at hx2 hC hl2
                      have HC := Lib.hid hC
                      have HX2 := Lib.hid hx2
                      have HL2 := Lib.hid hl2
                      rw [← hexp]
                      clear hC hx2 hnext hexp hlt2 hq
                      go_wp2
                      go_roundw
                      case rel => exact ⟨P + j + i, r ++ [(d, q)], x2, d, hi2, HCAN.out, by rw [total_app]; show total r + (q + 0) ≤ n; rw [HT.out]; omega, rfl, rfl, HX2.out, fun _ => by simp, HNX.out, HC.out⟩
                      case measure =>
                        have h9 := HL2.out
                        simp only [lenV]
                        rw [h9]; omega
          · have hz := hres.trans (contS_e2 (by omega) hu (by rw [hT, hmm]; exact hv) he2)
            have hv0 := numM_zero hv he2
            subst hv0
            rw [AfterY_no _ _ _ he2] at HN
            dsimp only at HN
            have g2 : (e2 != 0) = true := by simpa using he2
            clear hres hu hv hx hwas hcan hS hd he2
            go_wp2_with (first | (go_at_call 78; refine HI.out.mono ?_; rintro e w3 ⟨rfl, hr3, hg3⟩; have HS3 := Lib.hid (HS.out.step hr3 hg3); clear hr3 hg3) | (go_at_call 32; refine (HN.out _ HS3.out.rd).mono ?_; rintro e w4 ⟨rfl, hr4, hg4⟩; have HS4 := Lib.hid (HS3.out.step hr4 hg4); have c2 := HS4.out.rd.c2; clear hr4 hg4))
            go_quiet (fail)
            go_wp2
            go_ret3
            exact GetQ.bad hz (HS4.out.drewN _).lo
        · have hz := hres.trans (contS_e1 (by omega) hu he1)
          rw [AfterY_no _ _ _ he1] at HI
          dsimp only at HI
          have HN := Lib.hid (fun W h => num26 w.heap.size S P e1 (mm : Int) W hs hP h)
          rw [orZ_no _ _ _ he1, AfterY_stop _ _ _ _ he1] at HN
          dsimp only at HN
          have g2 : (e1 != 0) = true := by simpa using he1
          clear hres hu hx hwas hcan hS hd he1
          go_wp2_with (first | (go_at_call 78; refine HI.out.mono ?_; rintro e w3 ⟨rfl, hr3, hg3⟩; have HS3 := Lib.hid (HS.out.step hr3 hg3); clear hr3 hg3) | (go_at_call 32; refine (HN.out _ HS3.out.rd).mono ?_; rintro e w4 ⟨rfl, hr4, hg4⟩; have HS4 := Lib.hid (HS3.out.step hr4 hg4); have c2 := HS4.out.rd.c2; clear hr4 hg4))
          go_quiet (fail)
          go_wp2
          go_ret3
          exact GetQ.bad hz (HS4.out.drewN _).lo
      · have hTn : T = n := by omega
        have hz := hres.trans (contS_end (by omega))
        subst hTn
        clear hres hx hwas hcan hS
        go_wp2
        have c21 := HS.out.rd.c1
        go_quiet (fail)
        go_wp2
        go_ret3
        exact GetQ.good hz (HS.out.drewN _)
  · have hz : RES = ([], 0, e0) := by rw [← hRES, getS_is (r := (getR (S.data.toList.drop j0) n none).1) (k := (getR (S.data.toList.drop j0) n none).2.1) (f := (getR (S.data.toList.drop j0) n none).2.2) hn rfl, if_pos he0]
    have hn0 := numM_zero hn he0
    subst hn0
    rw [AfterY_no _ _ _ he0] at HN
    dsimp only at HN
    have g2 : (e0 != 0) = true := by simpa using he0
    clear hn hRES h0 he0
    go_enter Tryz.func33, Tryz.ntmps33
    go_wp2_with (first
      | (go_at_call 31; refine HO.out.mono ?_; rintro e w1 ⟨rfl, hr1, hb1⟩; have HR1 := Lib.hid hr1; have HB1 := Lib.hid hb1; clear hr1 hb1)
      | (go_at_call 32; refine (HN.out _ HR1.out).mono ?_; rintro e w2 ⟨rfl, hr2, hg2⟩; have HR2 := Lib.hid hr2; have HB2 : Hid (Below w.heap.size w w2) := HB1.out.grown hg2 HB1.out.size (fun k hk => by simp at hk; omega); clear hr2 hg2))
    go_loopw [9] (fun vo W => vo = .slice none 0 0 ∧ W = w2) (fun _ _ => 0)
    case atStart => exact ⟨rfl, rfl⟩
    case round =>
      obtain ⟨rfl, rfl⟩ := hrel
      have c2 := HR2.out.c2
      go_wp2
      go_quiet (fail)
      go_wp2
      go_ret3
      exact GetQ.bad hz (below_drewN' HB2.out _)
end Go.Proofs.YtnhljfhpfpfniaaGreat
