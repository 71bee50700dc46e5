/- An account's orders, as the program tells them: the contract. -/
import Derived.Test.YtmndkbfjmamnfaaMgP1
namespace Go.Proofs.Ytmndkbfjmamnfaa
open Go.RowKit Go.Shelf Base Base2

attribute [local go_sem] Oper.semAt_some
set_option maxRecDepth 100000 in
set_option maxHeartbeats 8000000 in
theorem orders_seq (R : Nat → Obj → Prop) (V : World) (v : Slots) (b : BookT) (hb : BookIn V v b) (hk : BookOk 2000 b) (acc : Int) (g g2 : Nat) (w0 : World) (hV : Below V.heap.size V w0) (hg : BoxB w0 g v b) (ha : Boxed w0 g2 2 (.int .i64 acc)) (hR1 : ∀ k o, R k o → V.heap.size ≤ k) (hR2 : NoT [27, 2] R) :
    SeqK Try.prog 53 #[.pointer (some ⟨g, 0, none⟩), .pointer (some ⟨g2, 0, none⟩)] encO (fun _ => False) R (TlA (ofAcc 1 acc b.os)) (fun xs => xs = ofAcc 1 acc b.os) w0 := by
  intro l J Jx W hW hl _ hJ hJx hY h0
  have HJJ := Lib.hid (show BearsK (fun _ _ => False) J from hJ.mono (fun _ _ a => a.elim))
  have HYY := Lib.hid (show YieldA encO l R (ofAcc 1 acc b.os) J Jx from hY)
  have HK := Lib.hid hk
  have HVW := Lib.hid (hV.trans (hW.mono hV.size))
  have HL := Lib.hid (Nat.le_trans hV.size hl)
  have HR1 := Lib.hid hR1
  have hgl := blk_ltK hg
  have HG := Lib.hid (fun (W' : World) (ht : TurnsK (TLR l R) W W') => show BoxB W' g v b from (hR2.tlr l).at ht ((hW.block g hgl).trans hg) (by simp))
  have HA := Lib.hid (fun (W' : World) (ht : TurnsK (TLR l R) W W') => show Boxed W' g2 2 (.int .i64 acc) from (hR2.tlr l).at ht ((hW.block g2 ha.lt).trans ha) (by simp))
  have HLO := Lib.hid (fun (W' : World) (ht : TurnsK (TLR l R) W W') => show Below V.heap.size V W' from lo_round HVW.out HL.out hR1 ht)
  have HROW := Lib.hid hb.os
  have HBK := Lib.hid hb
  have HT0 := Lib.hid (TurnsK.refl (TLR l R) W)
  have HJ0 := Lib.hid h0
  obtain ⟨n, hn⟩ : ∃ n, b.os.length = n := ⟨_, rfl⟩
  have HN := Lib.hid hn
  have hle : n ≤ 2000 := by rw [← hn]; exact hk.os.1
  clear hJ hJx hY h0 hb hk hW hV hl hR1 hR2 hg ha hgl
  refine (callsIn_wide (n := 10)).1 ?_
  refine callsIn_of_wp Try.func53 rfl trivial ?_ rfl
  simp only [Try.ntmps53, List.size_toArray, List.length_cons, List.length_nil, Nat.reduceAdd, Nat.reduceSub, Array.replicate_succ, Array.replicate_zero, List.push_toArray, List.append_toArray, List.nil_append, List.cons_append]
  obtain ⟨_, _, c2, _, _⟩ := (HG.out _ HT0.out).cells
  rw [hn] at c2
  clear hn
  gi_wp2
  clear c2
  gi_loopw [9] (fun vi W' => ∃ (i : Nat), vi = .int .i64 (i : Int) ∧ i ≤ n ∧ J (ofAcc 1 acc (b.os.take i)) W' ∧ TurnsK (TLR l R) W W') (fun vi _ => n - (intOf vi).toNat)
  case atStart => exact ⟨0, rfl, Nat.zero_le _, HJ0.out, HT0.out⟩
  case round =>
    obtain ⟨i, rfl, hi, hj, ht⟩ := hrel
    have HTR := Lib.hid ht
    have HLW := Lib.hid (HLO.out _ ht)
    have HJI := Lib.hid hj
    clear ht hj HJ0
    by_cases hlt : i < n
    · obtain ⟨it, hx⟩ : ∃ x, b.os[i]? = some x := ⟨b.os[i]'(by rw [HN.out]; exact hlt), by simp [HN.out, hlt]⟩
      obtain ⟨s0, s1, s2, s3, s4, s5, rfl⟩ := item6 (HK.out.os.2 _ (List.mem_of_getElem? hx)).1
      obtain ⟨b0, off, hvs, hb0, hcs⟩ := HROW.out.at hx
      have k0 := hcs wr HLW.out 0 s0 rfl
      have k1 := hcs wr HLW.out 1 s1 rfl
      have k2 := hcs wr HLW.out 2 s2 rfl
      have k3 := hcs wr HLW.out 3 s3 rfl
      have k4 := hcs wr HLW.out 4 s4 rfl
      have k5 := hcs wr HLW.out 5 s5 rfl
      rw [Nat.add_zero] at k0
      rw [hvs]
      clear hcs hb0
      obtain ⟨w4, hw4⟩ : ∃ x, wr.alloc (.cells #[.int .i64 s0, .int .i64 s1, .int .i64 s2, .int .i64 s3, .int .i64 s4, .int .i64 s5] 37) = x := ⟨_, rfl⟩
      have hb4 : Below wr.heap.size wr w4 := by rw [← hw4]; exact (Below.refl _ _).alloc (Nat.le_refl _) _
      have HT4 := Lib.hid (HTR.out.trans (.below hb4))
      have HJ4 := Lib.hid (HJJ.out.below HJI.out hb4)
      have ca := (HA.out _ HT4.out).cell
      rw [← hw4] at ca
      have HW4 := Lib.hid hw4
      clear hw4
      by_cases he : s1 = acc
      · have g4 : (s1 == acc) = true := by rw [beq_iff_eq]; exact he
        have HNX := Lib.hid (ofAcc_yes (j := 1) (a := acc) hx (show (key 1 [s0, s1, s2, s3, s4, s5] == acc) = true from g4))
        obtain ⟨fn, tmps, assign, body, hy, hRd⟩ := HYY.out _ [s0, s1, s2, s3, s4, s5] _ HJ4.out (tla_yes (j := 1) (a := acc) w4 hx (show (key 1 [s0, s1, s2, s3, s4, s5] == acc) = true from g4))
        replace hy : (Instr.yield l #[.agg #[.int .i64 s0, .int .i64 s1, .int .i64 s2, .int .i64 s3, .int .i64 s4, .int .i64 s5]]).run Try.prog w4 = .ok (.round l fn tmps assign body) w4 := hy
        rw [← HW4.out] at hy hRd
        clear he hx hb4 hvs
        gi_wp2
        refine (roundIn_wide hRd).mono ?_
        rintro e W6 ⟨⟨rfl, hJ6⟩ | ⟨rfl, hJx6⟩, ht6⟩
        · have HT6 := Lib.hid (HT4.out.trans (by rw [← HW4.out]; exact ht6))
          have HJ6 := Lib.hid hJ6
          clear hJ6 ht6 hy hRd k0 k1 k2 k3 k4 k5 ca
          gi_wp2
          go_roundw
          case rel => exact ⟨i + 1, by go_num, hlt, by rw [HNX.out]; exact HJ6.out, HT6.out⟩
          case measure => simp [intOf]; omega
        · have HJ6 := Lib.hid hJx6
          clear hJx6 ht6 hy hRd k0 k1 k2 k3 k4 k5 ca
          gi_wp2
          (try simp only [Exit.inBlock, Exit.then])
          refine bodyPost_ret (v := .tuple #[]) (results_none rfl _ _ _) rfl ?_
          exact ⟨⟨_, rfl⟩, .inr ⟨_, HJ6.out⟩⟩
      · have g4 : (s1 == acc) = false := by rw [beq_eq_false_iff_ne]; exact he
        have HNX := Lib.hid (ofAcc_no (j := 1) (a := acc) hx (show (key 1 [s0, s1, s2, s3, s4, s5] == acc) = false from g4))
        clear he hx hb4 hvs
        gi_wp2
        repeat (first | (refine ⟨trivial, ?_⟩; gi_wp2) | (refine ⟨fun _ _ => trivial, ?_⟩; gi_wp2))
        rw [HW4.out]
        go_roundw
        case rel => exact ⟨i + 1, by go_num, hlt, by rw [HNX.out]; exact HJ4.out, HT4.out⟩
        case measure => simp [intOf]; omega
    · rw [List.take_of_length_le (by rw [HN.out]; omega)] at HJI
      gi_wp2
      go_end0
      exact ⟨⟨_, rfl⟩, .inl ⟨_, rfl, HJI.out⟩⟩
end Go.Proofs.Ytmndkbfjmamnfaa
