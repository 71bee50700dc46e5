/- A book's things as rows, told by an iterator: the program's contract. -/
import Derived.Test.YtellifcjamedkaaDpEach
namespace Go.Proofs.Ytellifcjamedkaa
open Go.RowKit Go.Shelf Base Base2
attribute [local go_sem] Oper.semAt_some

theorem rowsF (v : Slots) (b : BookT) (w : World) : Calls Try.prog 18 #[.agg (cellsB v b)] w fun e w' => e = .returned (.func (.func 42) #[] #[.pointer (some ⟨w.heap.size, 0, none⟩)]) ∧ w' = w.alloc (.cells (cellsB v b) 27) := by
  go_enter Try.func18, Try.ntmps18
  go_wp2
  go_ret
  exact ⟨rfl, rfl⟩
def encRv (x : RowV) : Array Value := #[.agg x.cells.toArray]
def TlRow (FULL : List RowT) (pre : List RowV) (x : RowV) (W : World) : Prop := (∃ s, (pre ++ [x]).map RowV.r ++ s = FULL) ∧ ValAt W x.a x.r.v
theorem pre0 {b : BookT} : ∃ s, ([] : List RowV).map RowV.r ++ b.hs.map rwH ++ s = rowsD b := ⟨_, by unfold rowsD; rfl⟩
theorem pre1 {b : BookT} {y0 : List RowV} (h0 : y0.map RowV.r = b.hs.map rwH) : ∃ s, ([] ++ y0).map RowV.r ++ b.ss.map rwS ++ s = rowsD b := ⟨b.os.map rwO ++ (b.rs.map rwR ++ [rwC b.co]), by unfold rowsD; rw [List.nil_append, h0]; simp only [List.append_assoc]⟩
theorem pre2 {b : BookT} {y0 y1 : List RowV} (h0 : y0.map RowV.r = b.hs.map rwH) (h1 : y1.map RowV.r = b.ss.map rwS) : ∃ s, ([] ++ y0 ++ y1).map RowV.r ++ b.os.map rwO ++ s = rowsD b := ⟨b.rs.map rwR ++ [rwC b.co], by unfold rowsD; rw [List.nil_append, List.map_append, h0, h1]; simp only [List.append_assoc]⟩
theorem pre3 {b : BookT} {y0 y1 y2 : List RowV} (h0 : y0.map RowV.r = b.hs.map rwH) (h1 : y1.map RowV.r = b.ss.map rwS) (h2 : y2.map RowV.r = b.os.map rwO) : ∃ s, ([] ++ y0 ++ y1 ++ y2).map RowV.r ++ b.rs.map rwR ++ s = rowsD b := ⟨[rwC b.co], by unfold rowsD; rw [List.nil_append, List.map_append, List.map_append, h0, h1, h2]; simp only [List.append_assoc]⟩
theorem pre4 {b : BookT} {y0 y1 y2 y3 : List RowV} (h0 : y0.map RowV.r = b.hs.map rwH) (h1 : y1.map RowV.r = b.ss.map rwS) (h2 : y2.map RowV.r = b.os.map rwO) (h3 : y3.map RowV.r = b.rs.map rwR) (k c : Nat) :
    (∃ s, ([] ++ y0 ++ y1 ++ y2 ++ y3 ++ [(⟨rwC b.co, some ⟨k, 0, none⟩, c⟩ : RowV)]).map RowV.r ++ s = rowsD b) ∧ ([] ++ y0 ++ y1 ++ y2 ++ y3 ++ [(⟨rwC b.co, some ⟨k, 0, none⟩, c⟩ : RowV)]).map RowV.r = rowsD b := by
  have e : ([] ++ y0 ++ y1 ++ y2 ++ y3 ++ [(⟨rwC b.co, some ⟨k, 0, none⟩, c⟩ : RowV)]).map RowV.r = rowsD b := by
    unfold rowsD; rw [List.nil_append, List.map_append, List.map_append, List.map_append, List.map_append, h0, h1, h2, h3]; simp only [List.append_assoc]; rfl
  exact ⟨⟨[], by rw [List.append_nil]; exact e⟩, e⟩
set_option maxRecDepth 100000 in
set_option maxHeartbeats 8000000 in
theorem rows_seq (R : Nat → Obj → Prop) (V : World) (v : Slots) (b : BookT) (hb : BookIn V v b) (hk : BookOk 2000 b) (g : Nat) (w0 : World) (hV : Below V.heap.size V w0) (hg : BoxB w0 g v b) (hR1 : ∀ k o, R k o → V.heap.size ≤ k) (hR2 : ¬ R g (.cells (cellsB v b) 27 (0, 0))) :
    SeqK Try.prog 42 #[.pointer (some ⟨g, 0, none⟩)] encRv (fun _ => False) R (TlRow (rowsD b)) (fun xs => xs.map RowV.r = rowsD b) w0 := by
  intro l J Jx W hW hl _ hJ hJx hY h0
  have HJJ := Lib.hid (show BearsK (fun _ _ => False) J from hJ.mono (fun _ _ a => a.elim))
  have HJX := Lib.hid (show BearsK (fun _ _ => False) Jx from hJx.mono (fun _ _ a => a.elim))
  have HYY := Lib.hid (show YieldRow l R (rowsD b) J Jx from fun pre x W1 a h1 h2 => hY pre x W1 a ⟨h1, h2⟩)
  have HB := Lib.hid hb
  have HK := Lib.hid hk
  have hVW := Lib.hid (hV.trans (hW.mono hV.size))
  have HL := Lib.hid (Nat.le_trans hV.size hl)
  have HR1 := Lib.hid hR1
  have hgl := lt_of_blk hg
  have HG := Lib.hid (fun (W' : World) (ht : TurnsK (TLR l R) W W') => show BoxB W' g v b from ht.block _ _ ((hW.block g hgl).trans hg) (fun a => by rcases a with ⟨a, _⟩ | a; omega; exact hR2 a))
  have HT0 := Lib.hid (TurnsK.refl (TLR l R) W)
  have HJ0 := Lib.hid h0
  have HP0 := Lib.hid (pre0 (b := b))
  obtain ⟨c0, c1, c2, c3, c4⟩ := (HG.out _ HT0.out).cells
  clear hJ hJx hY h0 hb hk hW hV hl hR1 hR2 hg hgl
  refine (callsIn_wide (n := 10)).1 ?_
  refine callsIn_of_wp Try.func42 rfl trivial ?_ rfl
  simp only [Try.ntmps42, List.size_toArray, List.length_cons, List.length_nil, Nat.reduceAdd, Nat.reduceSub, Array.replicate_succ, Array.replicate_zero, List.push_toArray, List.append_toArray, List.nil_append, List.cons_append]
  gi_wp2
  refine ⟨trivial, ?_⟩
  gi_at_call 43
  refine (callsIn_wide.2 (eachHolder l R (rowsD b) J Jx HJJ.out HJX.out HYY.out V _ _ _ HB.out.hs HK.out.hs ([]) HP0.out HL.out HR1.out _ (lo_round (hVW.out) HL.out HR1.out HT0.out) HJ0.out)).mono ?_
  rintro e w1 ⟨ht, ⟨rfl, y0, hy, hj⟩ | ⟨rfl, y0, hj⟩⟩
  · have HT1 := Lib.hid (HT0.out.trans ht)
    have HJ1 := Lib.hid hj
    have HM1 := Lib.hid hy
    clear ht hy hj
    obtain ⟨c0, c1, c2, c3, c4⟩ := (HG.out _ HT1.out).cells
    have HP1 := Lib.hid (pre1 (b := b) HM1.out)
    gi_wp2
    refine ⟨trivial, ?_⟩
    gi_at_call 45
    refine (callsIn_wide.2 (eachStake l R (rowsD b) J Jx HJJ.out HJX.out HYY.out V _ _ _ HB.out.ss HK.out.ss ([] ++ y0) HP1.out HL.out HR1.out _ (lo_round (hVW.out) HL.out HR1.out HT1.out) HJ1.out)).mono ?_
    rintro e w2 ⟨ht, ⟨rfl, y1, hy, hj⟩ | ⟨rfl, y1, hj⟩⟩
    · have HT2 := Lib.hid (HT1.out.trans ht)
      have HJ2 := Lib.hid hj
      have HM2 := Lib.hid hy
      clear ht hy hj
      obtain ⟨c0, c1, c2, c3, c4⟩ := (HG.out _ HT2.out).cells
      have HP2 := Lib.hid (pre2 (b := b) HM1.out HM2.out)
      gi_wp2
      refine ⟨trivial, ?_⟩
      gi_at_call 47
      refine (callsIn_wide.2 (eachOpen l R (rowsD b) J Jx HJJ.out HJX.out HYY.out V _ _ _ HB.out.os HK.out.os ([] ++ y0 ++ y1) HP2.out HL.out HR1.out _ (lo_round (hVW.out) HL.out HR1.out HT2.out) HJ2.out)).mono ?_
      rintro e w3 ⟨ht, ⟨rfl, y2, hy, hj⟩ | ⟨rfl, y2, hj⟩⟩
      · have HT3 := Lib.hid (HT2.out.trans ht)
        have HJ3 := Lib.hid hj
        have HM3 := Lib.hid hy
        clear ht hy hj
        obtain ⟨c0, c1, c2, c3, c4⟩ := (HG.out _ HT3.out).cells
        have HP3 := Lib.hid (pre3 (b := b) HM1.out HM2.out HM3.out)
        gi_wp2
        refine ⟨trivial, ?_⟩
        gi_at_call 49
        refine (callsIn_wide.2 (eachRate l R (rowsD b) J Jx HJJ.out HJX.out HYY.out V _ _ _ HB.out.rs HK.out.rs ([] ++ y0 ++ y1 ++ y2) HP3.out HL.out HR1.out _ (lo_round (hVW.out) HL.out HR1.out HT3.out) HJ3.out)).mono ?_
        rintro e w4 ⟨ht, ⟨rfl, y3, hy, hj⟩ | ⟨rfl, y3, hj⟩⟩
        · have HT4 := Lib.hid (HT3.out.trans ht)
          have HJ4 := Lib.hid hj
          have HM4 := Lib.hid hy
          clear ht hy hj
          obtain ⟨c0, c1, c2, c3, c4⟩ := (HG.out _ HT4.out).cells
          have HP4 := Lib.hid (pre4 (b := b) HM1.out HM2.out HM3.out HM4.out w4.heap.size 1)
          have HJ5 := Lib.hid (HJJ.out.below HJ4.out ((Below.refl _ w4).alloc (Nat.le_refl _) (.cells #[.int .i64 b.co] 2)))
          obtain ⟨fn, tmps, assign, body, hy, hRd⟩ := HYY.out _ ⟨rwC b.co, some ⟨w4.heap.size, 0, none⟩, 1⟩ _ HJ5.out HP4.out.1 (ValAt.new w4 [b.co])
          replace hy : (Instr.yield l #[.agg #[.int .i64 5, .int .i64 0, .int .i64 0, .slice (some ⟨w4.heap.size, 0, none⟩) 1 1]]).run Try.prog (w4.alloc (.cells #[.int .i64 b.co] 2)) = .ok (.round l fn tmps assign body) (w4.alloc (.cells #[.int .i64 b.co] 2)) := hy
          gi_wp2
          refine (roundIn_wide hRd).mono ?_
          rintro e W6 ⟨⟨rfl, hJ6⟩ | ⟨rfl, hJx6⟩, ht6⟩
          · have HJ6 := Lib.hid hJ6
            clear hJ6 ht6 hy hRd c0 c1 c2 c3 c4
            gi_wp2
            go_end0
            exact ⟨⟨_, rfl⟩, .inl ⟨_, HP4.out.2, HJ6.out⟩⟩
          · have HJ6 := Lib.hid hJx6
            clear hJx6 ht6 hy hRd c0 c1 c2 c3 c4
            gi_wp2
            go_end0
            exact ⟨⟨_, rfl⟩, .inr ⟨_, HJ6.out⟩⟩
        · have HJE := Lib.hid hj
          clear ht hj
          gi_wp2
          repeat (first | (refine ⟨trivial, ?_⟩; gi_wp2) | (refine ⟨fun _ _ => trivial, ?_⟩; gi_wp2))
          go_end0
          exact ⟨⟨_, rfl⟩, .inr ⟨_, HJE.out⟩⟩
      · have HJE := Lib.hid hj
        clear ht hj
        gi_wp2
        repeat (first | (refine ⟨trivial, ?_⟩; gi_wp2) | (refine ⟨fun _ _ => trivial, ?_⟩; gi_wp2))
        go_end0
        exact ⟨⟨_, rfl⟩, .inr ⟨_, HJE.out⟩⟩
    · have HJE := Lib.hid hj
      clear ht hj
      gi_wp2
      repeat (first | (refine ⟨trivial, ?_⟩; gi_wp2) | (refine ⟨fun _ _ => trivial, ?_⟩; gi_wp2))
      go_end0
      exact ⟨⟨_, rfl⟩, .inr ⟨_, HJE.out⟩⟩
  · have HJE := Lib.hid hj
    clear ht hj
    gi_wp2
    repeat (first | (refine ⟨trivial, ?_⟩; gi_wp2) | (refine ⟨fun _ _ => trivial, ?_⟩; gi_wp2))
    go_end0
    exact ⟨⟨_, rfl⟩, .inr ⟨_, HJE.out⟩⟩
end Go.Proofs.Ytellifcjamedkaa
