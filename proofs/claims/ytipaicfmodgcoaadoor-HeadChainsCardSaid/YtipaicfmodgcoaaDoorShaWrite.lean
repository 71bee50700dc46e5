/- Bytes come behind: the contract of Write. -/
import Derived.Test.YtipaicfmodgcoaaDoorShaHash
namespace Go.Proofs.YtipaicfmodgcoaaDoor
open Go.RowKit

def strSize : Value → Nat
  | .string t => t.size
  | _ => 0
theorem hash_size {W : World} {g : Nat} {s : St} {b : List UInt8} {n : Nat} (h : W.heap[g]? = some (.cells (hC s b n) 125 (0, 0))) (hb : b.length = 64) : W.cell? ⟨g, 72, none⟩ = some (.int .u64 (n : Int)) := by
  rw [cell_of_row W g 72 _ 125 (0, 0) h, hC_72 s b n hb]
theorem KHeld_heap {w W : World} (h : KHeld w) (e : W.heap[0]? = w.heap[0]?) : KHeld W := by
  intro i hi
  have := h i hi
  simpa [World.cell?, e] using this
theorem KHeld_pos {w : World} (h : KHeld w) : 0 < w.heap.size := World.block_lt_of_cell? w _ (h 0 (by omega))
theorem KHeld_grown {w W : World} {g : Nat} (h : KHeld w) (hg : g ≠ 0) (e : w.grownBy W (some g)) : KHeld W := KHeld_heap h (e.block 0 (KHeld_pos h) (by simp; omega))
theorem grown_row {w W : World} {g : Nat} (h : w.grownBy W (some g)) (cs : Array Value) : w.grownBy (W.setRow g cs) (some g) :=
  ⟨h.os, h.tape, h.output, by have := h.size; simpa using this, fun k hk hne => by rw [setRow_other _ _ _ _ (by rintro rfl; exact hne rfl)]; exact h.block k hk hne⟩
theorem grown_drew {w W : World} {r : Option Nat} (h : w.grownBy W r) : w.grownBy W.drew r := ⟨h.os, h.tape, h.output, h.size, h.block⟩
theorem grown_below {w W W' : World} {r : Option Nat} (h : w.grownBy W r) (hb : Below W.heap.size W W') : w.grownBy W' r :=
  ⟨hb.os.trans h.os, hb.tape.trans h.tape, hb.output.trans h.output, Nat.le_trans h.size hb.size, fun k hk hne => (hb.block k (Nat.lt_of_lt_of_le hk h.size)).trans (h.block k hk hne)⟩
theorem slice46 (g o m : Nat) (h : m < 64) (W : World) (x : Int) (hx : x = (m : Int)) : (Instr.sliceAt 123 (.pointer (some ⟨g, o, none⟩)) (some (.int .u64 x)) none none).run Tryd.prog W = .ok (.slice (some ⟨g, o + m, none⟩) (64 - m) (64 - m)) W := by
  have hal : Tryd.prog.arrayLen 123 = 64 := by kernel_rfl
  subst hx
  rw [run_sliceAt_array_l W 123 ⟨g, o, none⟩ (by kernel_rfl) .u64 (m : Int) (by omega) (by rw [hal]; omega)]
  rw [hin5, size5]
  simp [slicedAt, hal, Result.andThen, Addr.add_mid, if_neg (show ¬ 64 = m by omega)]

theorem step_load {P : Program} {ops : Array Oper} {o : Oper} {a : Act} {w : World} {K : Act → World → Prop} {Q : Exit → Act → World → Prop} {E : Prop} (hgd : o.guard = none) (ty : TypeId) (x : Operand) (ho : o.op = .load ty x) (p v : Value) (hx : a.eval x = p)
    (hr : (Instr.loadAt ty p).run P w = .ok v w) (h : K (a.put o.dst v) w) : if Region.wanted o (yielded ops a.tmps) = true then Oper.wp P o a w K Q else E := by
  rw [if_pos (by simp [Region.wanted, hgd])]
  unfold Oper.wp execOp
  simp only [ho, hx, Sem.run_bind, Sem.run_pure, hr, Result.andThen_ok]
  exact h
theorem step_store_at {P : Program} {ops : Array Oper} {op : Oper} {a : Act} {w : World} {K : Act → World → Prop} {Q : Exit → Act → World → Prop} {E : Prop} (hgd : op.guard = none) (hd0 : op.dst = none) (ty : TypeId) (x y : Operand) (ho : op.op = .store ty x y)
    (g o : Nat) (cells : Array Value) (hx : a.eval x = .pointer (some ⟨g, o, none⟩)) (hy : a.eval y = .agg cells)
    (cur : Array Value) (t : TypeId) (hg : w.heap[g]? = some (.cells cur t (0, 0))) (hfit : o + cells.toList.length ≤ cur.size) (hi : (P.info? ty).map (·.size) = some cells.size) (h1 : cells.all (·.oneCell') = true)
    (h : K a (w.setRow g (cur.toList.take o ++ cells.toList ++ cur.toList.drop (o + cells.toList.length)).toArray)) : if Region.wanted op (yielded ops a.tmps) = true then Oper.wp P op a w K Q else E := by
  rw [if_pos (by simp [Region.wanted, hgd])]
  have hst := run_storeCells_at P g o t cells.toList 0 cur w hg (by simpa using hfit) (fun v hv => (Array.all_eq_true_iff_forall_mem.1 h1) v (by simpa using hv))
  simp only [Nat.add_zero] at hst
  have hrun : (Instr.storeAt ty (.pointer (some ⟨g, o, none⟩)) (.agg cells)).run P w = .ok () (w.setRow g (cur.toList.take o ++ cells.toList ++ cur.toList.drop (o + cells.toList.length)).toArray) := by
    cases hq : P.info? ty with
    | none => simp [hq] at hi
    | some i =>
      have hs : cells.size = i.size := by simp [hq] at hi; omega
      simp [Instr.storeAt, Instr.sureAddr, Sem.run_bind, storeVar, sizeOf, typeInfo, hq, Value.cells, hs, hst, Result.andThen]
  unfold Oper.wp execOp
  simp only [ho, hx, hy, Sem.run_bind, hrun, Result.andThen_ok, Sem.run_pure]
  show K (a.put op.dst undef) _
  rw [hd0]
  exact h

def HS2 (w : World) (g : Nat) (s : St) (b : List UInt8) (n : Nat) (W : World) : Prop := W.heap[g]? = some (.cells (hC s b n) 125 (0, 0)) ∧ w.grownBy W (some g)
def WrRel (w : World) (g : Nat) (all : List UInt8) (s : ByteArray) (v : Value) (W : World) : Prop :=
  ∃ k, k ≤ s.size ∧ v = .string (s.extract k s.size) ∧ HashAt W g (all ++ s.data.toList.take k) ∧ w.grownBy W (some g)

set_option maxRecDepth 100000 in
set_option maxHeartbeats 1000000 in
theorem write15 (g : Nat) (all : List UInt8) (s : ByteArray) (w : World) (hs : all.length + s.size ≤ 900000) (hh : HashAt w g all) (hK : KHeld w) (hg0 : g ≠ 0) :
    Calls Tryd.prog 77 #[.pointer (some ⟨g, 0, none⟩), .string s] w fun e w' => e = .returned (.tuple #[]) ∧ HashAt w' g (all ++ s.data.toList) ∧ w.grownBy w' (some g) := by
  have HH := Lib.hid hh
  have HK := Lib.hid hK
  clear hh hK
  go_enter Tryd.func77, Tryd.ntmps77
  go_wp2
  go_loopw [1] (fun v W => WrRel w g all s v W) (fun v _ => strSize v)
  case atStart => exact ⟨0, by omega, by simp, by simpa using HH.out, World.grownBy.refl _ _⟩
  case round =>
    obtain ⟨k, hk, rfl, ⟨b, ht, hb⟩, hgr⟩ := hrel
    by_cases hlt : k < s.size
    · obtain ⟨A, hA⟩ : ∃ A, all ++ s.data.toList.take k = A := ⟨_, rfl⟩
      have hlA : A.length = all.length + k := by rw [← hA]; simp; omega
      rw [hA] at ht hb
      obtain ⟨T, hT⟩ : ∃ T, s.extract k s.size = T := ⟨_, rfl⟩
      have hTs : T.size = s.size - k := by rw [← hT]; simp
      obtain ⟨N, hN⟩ : ∃ N, A.length = N := ⟨_, rfl⟩
      rw [hN] at hb hlA
      obtain ⟨m, hm⟩ : ∃ m, N % 64 = m := ⟨_, rfl⟩
      obtain ⟨c, hc⟩ : ∃ c, Nat.min T.size (64 - m) = c := ⟨_, rfl⟩
      have hc0 : (T.size ≤ 64 - m ∧ c = T.size) ∨ (64 - m < T.size ∧ c = 64 - m) := by rw [← hc]; show (_ ∧ min _ _ = _) ∨ (_ ∧ min _ _ = _); omega
      have hm64 : m < 64 := by omega
      have hc1 : c ≤ T.size := by omega
      have hc2 : c ≤ 64 - m := by omega
      have hc3 : 0 < c := by omega
      have hc4 : m + c < 64 → c = T.size := by omega
      have hb64 := ht.1
      obtain ⟨x, hx⟩ : ∃ x, T.data.toList.take c = x := ⟨_, rfl⟩
      have hxl : x.length = c := by rw [← hx]; simp; omega
      have hmore : A ++ x = all ++ s.data.toList.take (k + c) := by
        rw [← hA, ← hx, ← hT, List.append_assoc, List.take_add]
        congr 2
        simp [ByteArray.data_extract, List.take_take]
      have HPART := Lib.hid (fun h => more_part A b x ht h)
      have HFULL := Lib.hid (fun h => more_full A b x ht h)
      rw [hN, hm, hxl] at HPART HFULL
      obtain ⟨S, hS⟩ : ∃ S, sOf A = S := ⟨_, rfl⟩
      rw [hS] at hb HPART HFULL
      have hsize := hash_size hb hb64
      have hNm : (N : Int).tmod 64 = (m : Int) := by rw [Int.tmod_eq_emod_of_nonneg (by omega)]; omega
      have hNb : N + c ≤ 900000 := by omega
      have HMN := Lib.hid hm
      have hsl : ∀ W, (Instr.sliceAt 123 (.pointer (some ⟨g, 8, none⟩)) (some (.int .u64 (m : Int))) none none).run Tryd.prog W = .ok (.slice (some ⟨g, 8 + m, none⟩) (64 - m) (64 - m)) W := fun W => slice46 g 8 m hm64 W _ rfl
      have hTpos : 0 < T.size := by omega
      have hTint : (0 : Int) < (T.size : Int) := by omega
      have HB := Lib.hid hb; have HG := Lib.hid hgr; have HX := Lib.hid hx; have HXL := Lib.hid hxl; have HMORE := Lib.hid hmore; have HC := Lib.hid hc; have HB64 := Lib.hid hb64; have HLA := Lib.hid hlA; have HNN := Lib.hid hN; have HTS := Lib.hid hTs; have HT := Lib.hid hT; have HKH := Lib.hid (KHeld_grown HK.out hg0 hgr)
      rw [hT]
      clear hb hgr hx hxl hmore hc hb64 hlA hN hTs hT hS hA ht hm
      go_wp2
      go_still_tail 10, (by kernel_rfl)
      refine wpList_copy_str rfl (.tmp 18) (.tmp 19) 76 9 rfl 5 Tryd.underlying76 (by kernel_rfl) g (8 + m) (64 - m) (64 - m) c T rfl rfl _ 125 HB.out HC.out (by rw [hC_size _ _ _ HB64.out]; omega) ?_
      refine at_worldL (Φ := fun W => W.heap[g]? = some (.cells (hC S (laid b m x) N) 125 (0, 0)) ∧ w.grownBy W (some g)) ⟨?_, ?_⟩ ?_
      · have h := setRow_heap wr.drew g _ ((hC S b N).toList.take (8 + m) ++ Lib.byteCells (T.data.toList.take c) ++ (hC S b N).toList.drop (8 + m + c)).toArray 125 (0, 0) HB.out
        rw [HX.out] at h
        have e := hC_splice S b x N m HB64.out (by rw [HXL.out]; omega)
        rw [HXL.out] at e
        rw [e] at h
        rw [HX.out]
        rw [e]
        exact h
      · exact grown_row (grown_drew HG.out) _
      · rintro W1 ⟨hb1, hg1⟩
        have hl64 : (laid b m x).length = 64 := laid_len b m x HB64.out (by rw [HXL.out]; omega)
        have hsize1 := hash_size hb1 hl64
        have hfr := free_of_blk hb1 72
        have HB1 := Lib.hid hb1; have HG1 := Lib.hid hg1; have HL64 := Lib.hid hl64
        clear hb1 hg1 hl64 hsize hsl hNm HB HG HKH
        have HEX : Hid (T.extract c T.size = s.extract (k + c) s.size) := by
          show _ = _
          rw [← HT.out]
          apply ByteArray.ext
          simp [Array.extract_extract]
          congr 1; omega
        have HLN : Hid ((A ++ x).length = N + c) := by show _ = _; rw [List.length_append, HNN.out, HXL.out]
        by_cases hfull : m + c = 64
        · have htest : (((N : Int) + (c : Int)) % 64 == 0) = true := by rw [beq_iff_eq]; have := HMN.out; omega
          obtain ⟨ht1, hs1⟩ := HFULL.out hfull
          have HT1 := Lib.hid ht1; have HS1 := Lib.hid hs1
          have HM20 := Lib.hid (fun W (h : KHeld W) => mixed20 S (laid b m x) W HL64.out h)
          obtain ⟨b', hb'⟩ : ∃ b', laid b m x = b' := ⟨_, rfl⟩
          rw [hb'] at HM20 HB1 HL64 HT1 HS1
          obtain ⟨S', hS'⟩ : ∃ S', blk b' 0 S = S' := ⟨_, rfl⟩
          rw [hS'] at HM20 HS1
          have htb : (stA S').toList.length = 8 := rfl
          have hone := stA_one S'
          have hinf : (Tryd.prog.info? 35).map (·.size) = some (stA S').size := info41
          have HSTATE := Lib.hid (hC_state S S' b' (N + c))
          have HEND := Lib.hid (show ∀ W, W.heap[g]? = some (.cells (hC S' b' (N + c)) 125 (0, 0)) → w.grownBy W (some g) → WrRel w g all s (.string (s.extract (k + c) s.size)) W from fun W h1 h2 =>
            ⟨k + c, by have := HTS.out; omega, rfl, ⟨b', by rw [← HMORE.out]; exact HT1.out, by rw [← HMORE.out, HLN.out, HS1.out]; exact h1⟩, h2⟩)
          clear ht1 hs1 hb' hS' HPART
          obtain ⟨ta, hta⟩ : ∃ ta, stA S' = ta := ⟨_, rfl⟩
          obtain ⟨sa, hsa⟩ : ∃ sa, stA S = sa := ⟨_, rfl⟩
          obtain ⟨ba, hba⟩ : ∃ ba, bA b' = ba := ⟨_, rfl⟩
          rw [hta, hsa, hba] at HM20
          rw [hta] at htb hone hinf HSTATE
          have HTB := Lib.hid htb; have HINF := Lib.hid hinf
          have HSA := Lib.hid hsa; have HBA := Lib.hid hba
          clear hta htb hinf hsa hba
          go_wp2
          refine at_world (Φ := fun W => W.heap[g]? = some (.cells (hC S b' (N + c)) 125 (0, 0)) ∧ w.grownBy W (some g)) ⟨?_, ?_⟩ ?_
          · have h := set_blk HB1.out 72 (.int .u64 ((N + c : Nat) : Int))
            rw [hC_set72 S b' N (N + c) HL64.out] at h
            simpa using h
          · exact grown_trans HG1.out (grown_set _ _ _ _)
          · rintro W2 ⟨hb2, hg2⟩
            have hl41 : (Instr.loadAt 35 (.pointer (some ⟨g, 0, none⟩))).run Tryd.prog W2.drew = .ok (.agg sa) W2.drew := by rw [← HSA.out]; exact hash_state (W := W2.drew) hb2
            have hl46 : (Instr.loadAt 123 (.pointer (some ⟨g, 8, none⟩))).run Tryd.prog W2.drew = .ok (.agg ba) W2.drew := by rw [← HBA.out]; exact hash_block (W := W2.drew) hb2 HL64.out
            have HB2 := Lib.hid hb2; have HG2 := Lib.hid hg2; have HL41 := Lib.hid hl41; have HL46 := Lib.hid hl46
            have hgl : g < W2.heap.size := lt_of_block hb2
            clear hb2 hg2 hl41 hl46 hsize1 hfr HB1 HG1
            refine wp_region_any (by kernel_rfl) ?_
            change wpAny _ _ _ _ _ _ _ W2.drew
            refine wpAny_take (i := 0) (v := (.pointer (some ⟨g, 0, none⟩))) rfl (by kernel_rfl) (by kernel_rfl) (by kernel_rfl) (fun _ _ _ h => h) (Or.inl ⟨by simp [Region.wanted], fun W => by go_simp⟩) ?_
            simp only [List.getElem_toArray, List.getElem_cons_zero, Act.put, List.setIfInBounds_toArray, List.set_cons_zero, List.set_cons_succ]
            refine wpAny_take (i := 1) (v := (.pointer (some ⟨g, 0, none⟩))) rfl (by kernel_rfl) (by kernel_rfl) (by kernel_rfl) (fun _ _ _ h => h) (Or.inl ⟨by simp [Region.wanted], fun W => by go_simp⟩) ?_
            simp only [List.getElem_toArray, List.getElem_cons_zero, List.getElem_cons_succ, Act.put, List.setIfInBounds_toArray, List.set_cons_zero, List.set_cons_succ]
            refine wpAny_take (i := 2) (v := (.pointer (some ⟨g, 0, none⟩))) rfl (by kernel_rfl) (by kernel_rfl) (by kernel_rfl) (fun _ _ _ h => h) (Or.inl ⟨by simp [Region.wanted], fun W => by go_simp⟩) ?_
            simp only [List.getElem_toArray, List.getElem_cons_zero, List.getElem_cons_succ, Act.put, List.setIfInBounds_toArray, List.set_cons_zero, List.set_cons_succ]
            refine wpAny_take (i := 3) (v := (.pointer (some ⟨g, 0, none⟩))) rfl (by kernel_rfl) (by kernel_rfl) (by kernel_rfl) (fun _ _ _ h => h) (Or.inl ⟨by simp [Region.wanted], fun W => by go_simp⟩) ?_
            simp only [List.getElem_toArray, List.getElem_cons_zero, List.getElem_cons_succ, Act.put, List.setIfInBounds_toArray, List.set_cons_zero, List.set_cons_succ]
            refine wpAny_take (i := 5) (v := (.pointer (some ⟨g, 0, none⟩))) rfl (by kernel_rfl) (by kernel_rfl) (by kernel_rfl) (fun _ _ _ h => h) (Or.inl ⟨by simp [Region.wanted], fun W => by go_simp⟩) ?_
            simp only [List.getElem_toArray, List.getElem_cons_zero, List.getElem_cons_succ, Act.put, List.setIfInBounds_toArray, List.set_cons_zero, List.set_cons_succ]
            refine wpAny_take (i := 6) (v := (.pointer (some ⟨g, 0, none⟩))) rfl (by kernel_rfl) (by kernel_rfl) (by kernel_rfl) (fun _ _ _ h => h) (Or.inl ⟨by simp [Region.wanted], fun W => by go_simp⟩) ?_
            simp only [List.getElem_toArray, List.getElem_cons_zero, List.getElem_cons_succ, Act.put, List.setIfInBounds_toArray, List.set_cons_zero, List.set_cons_succ]
            refine wpAny_take (i := 7) (v := (.pointer (some ⟨g, 8, none⟩))) rfl (by kernel_rfl) (by kernel_rfl) (by kernel_rfl) (fun _ _ _ h => h) (Or.inl ⟨by simp [Region.wanted], fun W => by go_simp⟩) ?_
            simp only [List.getElem_toArray, List.getElem_cons_zero, List.getElem_cons_succ, Act.put, List.setIfInBounds_toArray, List.set_cons_zero, List.set_cons_succ]
            refine wpAny_ready (rs := [4, 8]) (by kernel_rfl) (by simp) ?_
            refine AllReady.cons rfl (fun K hK => ?_) (AllReady.cons rfl (fun K hK => ?_) AllReady.nil)
            · refine step_load rfl 35 (.tmp 42) rfl _ _ rfl HL41.out ?_
              refine hK _ _ ?_
              simp only [List.getElem_toArray, List.getElem_cons_zero, List.getElem_cons_succ, Act.put, List.setIfInBounds_toArray, List.set_cons_zero, List.set_cons_succ]
              refine wpAny_ready (rs := [8]) (by kernel_rfl) (by simp) ?_
              refine AllReady.cons rfl (fun K2 hK2 => ?_) AllReady.nil
              refine step_load rfl 123 (.tmp 46) rfl _ _ rfl HL46.out ?_
              refine hK2 _ _ ?_
              simp only [List.getElem_toArray, List.getElem_cons_zero, List.getElem_cons_succ, Act.put, List.setIfInBounds_toArray, List.set_cons_zero, List.set_cons_succ]
              refine wpAny_ready (rs := [9]) (by kernel_rfl) (by simp) ?_
              refine AllReady.cons rfl (fun K3 hK3 => ?_) AllReady.nil
              refine wanted_go rfl ?_
              simp only [List.getElem_toArray, List.getElem_cons_zero, List.getElem_cons_succ]
              go_wp2_with (go_at_call 80; refine (HM20.out _ (KHeld_grown HK.out hg0 (grown_drew HG2.out))).mono ?_; rintro e w5 ⟨rfl, hb5⟩)
              have HB5 := Lib.hid ((hb5.block g hgl).trans HB2.out)
              have HG5 := Lib.hid (grown_below (grown_drew HG2.out) hb5)
              clear hb5
              refine wpAny_ready (rs := [10]) (by kernel_rfl) (by simp) ?_
              refine AllReady.cons rfl (fun K4 hK4 => ?_) AllReady.nil
              refine wanted_go rfl ?_
              simp only [List.getElem_toArray, List.getElem_cons_zero, List.getElem_cons_succ]
              go_wp2
              refine wpAny_ready (rs := [11]) (by kernel_rfl) (by simp) ?_
              refine AllReady.cons rfl (fun K5 hK5 => ?_) AllReady.nil
              refine wanted_go rfl ?_
              simp only [List.getElem_toArray, List.getElem_cons_zero, List.getElem_cons_succ]
              go_wp2
              refine wpAny_ready (rs := [12]) (by kernel_rfl) (by simp) ?_
              refine AllReady.cons rfl (fun K6 hK6 => ?_) AllReady.nil
              refine step_store_at rfl rfl 35 (.tmp 50) (.tmp 48) rfl g 0 ta rfl rfl _ 125 HB5.out (by rw [HTB.out, hC_size _ _ _ HL64.out]; omega) HINF.out hone ?_
              rw [HSTATE.out]
              refine hK6 _ _ ?_
              refine wpAny_done (by kernel_rfl) ?_ _
              have he1 := setRow_heap w5 g _ (hC S' b' (N + c)) 125 (0, 0) HB5.out
              have he2 := grown_row HG5.out (hC S' b' (N + c))
              have HE1 := Lib.hid he1; have HE2 := Lib.hid he2
              clear he1 he2
              generalize w5.setRow g (hC S' b' (N + c)) = w6 at *
              go_wp2
              go_roundw
              case rel => rw [HEX.out]; exact HEND.out _ HE1.out HE2.out
              case measure => simp [strSize]; omega
            · refine step_load rfl 123 (.tmp 46) rfl _ _ rfl HL46.out ?_
              refine hK _ _ ?_
              simp only [List.getElem_toArray, List.getElem_cons_zero, List.getElem_cons_succ, Act.put, List.setIfInBounds_toArray, List.set_cons_zero, List.set_cons_succ]
              refine wpAny_ready (rs := [4]) (by kernel_rfl) (by simp) ?_
              refine AllReady.cons rfl (fun K2 hK2 => ?_) AllReady.nil
              refine step_load rfl 35 (.tmp 42) rfl _ _ rfl HL41.out ?_
              refine hK2 _ _ ?_
              simp only [List.getElem_toArray, List.getElem_cons_zero, List.getElem_cons_succ, Act.put, List.setIfInBounds_toArray, List.set_cons_zero, List.set_cons_succ]
              refine wpAny_ready (rs := [9]) (by kernel_rfl) (by simp) ?_
              refine AllReady.cons rfl (fun K3 hK3 => ?_) AllReady.nil
              refine wanted_go rfl ?_
              simp only [List.getElem_toArray, List.getElem_cons_zero, List.getElem_cons_succ]
              go_wp2_with (go_at_call 80; refine (HM20.out _ (KHeld_grown HK.out hg0 (grown_drew HG2.out))).mono ?_; rintro e w5 ⟨rfl, hb5⟩)
              have HB5 := Lib.hid ((hb5.block g hgl).trans HB2.out)
              have HG5 := Lib.hid (grown_below (grown_drew HG2.out) hb5)
              clear hb5
              refine wpAny_ready (rs := [10]) (by kernel_rfl) (by simp) ?_
              refine AllReady.cons rfl (fun K4 hK4 => ?_) AllReady.nil
              refine wanted_go rfl ?_
              simp only [List.getElem_toArray, List.getElem_cons_zero, List.getElem_cons_succ]
              go_wp2
              refine wpAny_ready (rs := [11]) (by kernel_rfl) (by simp) ?_
              refine AllReady.cons rfl (fun K5 hK5 => ?_) AllReady.nil
              refine wanted_go rfl ?_
              simp only [List.getElem_toArray, List.getElem_cons_zero, List.getElem_cons_succ]
              go_wp2
              refine wpAny_ready (rs := [12]) (by kernel_rfl) (by simp) ?_
              refine AllReady.cons rfl (fun K6 hK6 => ?_) AllReady.nil
              refine step_store_at rfl rfl 35 (.tmp 50) (.tmp 48) rfl g 0 ta rfl rfl _ 125 HB5.out (by rw [HTB.out, hC_size _ _ _ HL64.out]; omega) HINF.out hone ?_
              rw [HSTATE.out]
              refine hK6 _ _ ?_
              refine wpAny_done (by kernel_rfl) ?_ _
              have he1 := setRow_heap w5 g _ (hC S' b' (N + c)) 125 (0, 0) HB5.out
              have he2 := grown_row HG5.out (hC S' b' (N + c))
              have HE1 := Lib.hid he1; have HE2 := Lib.hid he2
              clear he1 he2
              generalize w5.setRow g (hC S' b' (N + c)) = w6 at *
              go_wp2
              go_roundw
              case rel => rw [HEX.out]; exact HEND.out _ HE1.out HE2.out
              case measure => simp [strSize]; omega
        · have htest : (((N : Int) + (c : Int)) % 64 == 0) = false := by rw [beq_eq_false_iff_ne]; have := HMN.out; omega
          obtain ⟨ht1, hs1⟩ := HPART.out (by omega)
          have HT1 := Lib.hid ht1; have HS1 := Lib.hid hs1
          clear ht1 hs1 HFULL
          go_wp2
          go_roundw
          case rel =>
            rw [HEX.out]
            refine ⟨k + c, by have := HTS.out; omega, rfl, ⟨laid b m x, by rw [← HMORE.out]; exact HT1.out, ?_⟩, grown_trans HG1.out (grown_set _ _ _ _)⟩
            rw [← HMORE.out, HLN.out, HS1.out]
            have h := set_blk HB1.out 72 (.int .u64 ((N + c : Nat) : Int))
            rw [hC_set72 S _ N (N + c) HL64.out] at h
            simpa using h
          case measure => simp [strSize]; omega
    · have hks : k = s.size := by omega
      have HE := Lib.hid (show HashAt wr g (all ++ s.data.toList) from by
        have e : s.data.toList.take k = s.data.toList := List.take_of_length_le (by simp [hks])
        rw [e] at ht hb
        exact ⟨b, ht, hb⟩)
      clear ht hb
      go_wp2
      go_end0
      exact ⟨rfl, HE.out, hgr⟩
end Go.Proofs.YtipaicfmodgcoaaDoor
