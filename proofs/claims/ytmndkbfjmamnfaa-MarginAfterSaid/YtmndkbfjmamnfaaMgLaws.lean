/- The walks of margin's laws. -/
import Derived.Test.YtmndkbfjmamnfaaMgAlive
import Derived.Test.YtmndkbfjmamnfaaBkFinds
namespace Go.Proofs.Ytmndkbfjmamnfaa
open Go.RowKit Base Base2

set_option maxRecDepth 100000 in
set_option maxHeartbeats 8000000 in
theorem needs3 (v : Slots) (b : BookT) (acc q pc r : Int) (w : World) (hb : BookIn w v b) (hw : BookWf b) (_ia : in6 acc) (iq : in6 q) (ip : in6 pc) (ir : in6 r) :
    Calls Try.prog 3 #[.agg (cellsB v b), .int .i64 acc, .int .i64 q, .int .i64 pc, .int .i64 r] w fun e w' => e = .returned (.bool true) ∧ Below w.heap.size w w' := by
  obtain ⟨W0, hW0⟩ : ∃ x, w.alloc (.cells (cellsB v b) 27) = x := ⟨_, rfl⟩
  have hA : Below w.heap.size w W0 := by rw [← hW0]; exact (Below.refl _ w).alloc (Nat.le_refl _) _
  have hg : BoxB W0 w.heap.size v b := by rw [← hW0]; exact BoxB.new w v b
  have HA := Lib.hid hA
  have HBI := Lib.hid (show BkIn w.heap.size v b W0 from ⟨hg, hb.below hA⟩)
  have HC := Lib.hid (Below.refl W0.heap.size W0)
  have HLB := Lib.hid (fun W (h : Below W0.heap.size W0 W) => load_book (HBI.out.box h))
  have HAL := Lib.hid (fun W => aliveM W)
  have HGR := Lib.hid (fun W => great8 v b W)
  cases hgr : greatT b with
  | true =>
    rw [hgr] at HGR
    clear hb hw hg hA hgr HBI iq ip ir
    generalize cellsB v b = CA at *
    go_enter Try.func3, Try.ntmps3
    go_wp2_with (first
    | ((with_reducible refine atLoad (ty := 27) (x := .tmp 5) rfl ?_); refine loadE (wanted_noneD rfl) 27 (.tmp 5) rfl _ (.agg CA) rfl (HLB.out _ HC.out) ?_)
    | (go_at_call 7; refine (HAL.out _).mono ?_; rintro e w1 ⟨rfl, hb⟩; replace HC := Lib.hid (HC.out.trans (hb.mono HC.out.size)); clear hb)
    | (go_at_call 8; refine (HGR.out _).mono ?_; rintro e w2 ⟨rfl, hb⟩; replace HC := Lib.hid (HC.out.trans (hb.mono HC.out.size)); clear hb))
    go_ret
    exact ⟨rfl, HA.out.trans (HC.out.mono HA.out.size)⟩
  | false =>
    have hk : BookOk 2000 b := (ok_of_great hgr hw).mono (by omega)
    rw [hgr] at HGR
    have HMY := Lib.hid (fun W (h : Below W0.heap.size W0 W) => may10 v b W (HBI.out.book h) hk)
    have HE := Lib.hid (fun W (h : Below W0.heap.size W0 W) => pequity9 v b acc W (HBI.out.book h) hk)
    have HN := Lib.hid (fun W (h : Below W0.heap.size W0 W) => pneed10 v b acc q pc r W (HBI.out.book h) hk iq ip ir)
    cases hm : mayT b with
    | false =>
      rw [hm] at HMY
      rw [hm] at HE
      rw [hm] at HN
      rw [if_neg (by simp), Bool.false_and] at HE HN
      clear hb hw hg hA hgr hm hk HBI iq ip ir
      generalize cellsB v b = CA at *
      go_enter Try.func3, Try.ntmps3
      go_wp2_with (first
    | ((with_reducible refine atLoad (ty := 27) (x := .tmp 5) rfl ?_); refine loadE (wanted_noneD rfl) 27 (.tmp 5) rfl _ (.agg CA) rfl (HLB.out _ HC.out) ?_)
    | (go_at_call 7; refine (HAL.out _).mono ?_; rintro e w1 ⟨rfl, hb⟩; replace HC := Lib.hid (HC.out.trans (hb.mono HC.out.size)); clear hb)
    | (go_at_call 8; refine (HGR.out _).mono ?_; rintro e w2 ⟨rfl, hb⟩; replace HC := Lib.hid (HC.out.trans (hb.mono HC.out.size)); clear hb)
    | (go_at_call 9; refine (HE.out _ HC.out).mono ?_; rintro e w3 ⟨rfl, hb⟩; replace HC := Lib.hid (HC.out.trans (hb.mono HC.out.size)); clear hb)
    | (go_at_call 10; refine (HN.out _ HC.out).mono ?_; rintro e w4 ⟨rfl, hb⟩; replace HC := Lib.hid (HC.out.trans (hb.mono HC.out.size)); clear hb)
    | (go_at_call 11; refine (HMY.out _ HC.out).mono ?_; rintro e w9 ⟨rfl, hb⟩; replace HC := Lib.hid (HC.out.trans (hb.mono HC.out.size)); clear hb))
      go_ret
      exact ⟨rfl, HA.out.trans (HC.out.mono HA.out.size)⟩
    | true =>
      rw [hm] at HMY
      rw [hm] at HE
      rw [hm] at HN
      have HE2 := Lib.hid (fun W (h : Below W0.heap.size W0 W) => requity12 v b acc W (HBI.out.book h) hk)
      have HN2 := Lib.hid (fun W (h : Below W0.heap.size W0 W) => rneed13 v b acc q pc r W (HBI.out.book h) hk iq ip ir)
      rw [if_pos rfl, Bool.true_and] at HE HN
      generalize fitV (eqT b acc) = a1 at *
      generalize fitB (eqT b acc) = a2 at *
      generalize (if mayB (exT b acc q pc) r then fitV (shr (exT b acc q pc) r) else 0) = a3 at *
      generalize (mayB (exT b acc q pc) r && fitB (shr (exT b acc q pc) r)) = a4 at *
      clear hb hw hg hA hgr hm hk HBI iq ip ir
      generalize cellsB v b = CA at *
      go_enter Try.func3, Try.ntmps3
      go_wp2_with (first
    | ((with_reducible refine atLoad (ty := 27) (x := .tmp 5) rfl ?_); refine loadE (wanted_noneD rfl) 27 (.tmp 5) rfl _ (.agg CA) rfl (HLB.out _ HC.out) ?_)
    | (go_at_call 7; refine (HAL.out _).mono ?_; rintro e w1 ⟨rfl, hb⟩; replace HC := Lib.hid (HC.out.trans (hb.mono HC.out.size)); clear hb)
    | (go_at_call 8; refine (HGR.out _).mono ?_; rintro e w2 ⟨rfl, hb⟩; replace HC := Lib.hid (HC.out.trans (hb.mono HC.out.size)); clear hb)
    | (go_at_call 9; refine (HE.out _ HC.out).mono ?_; rintro e w3 ⟨rfl, hb⟩; replace HC := Lib.hid (HC.out.trans (hb.mono HC.out.size)); clear hb)
    | (go_at_call 10; refine (HN.out _ HC.out).mono ?_; rintro e w4 ⟨rfl, hb⟩; replace HC := Lib.hid (HC.out.trans (hb.mono HC.out.size)); clear hb)
    | (go_at_call 11; refine (HMY.out _ HC.out).mono ?_; rintro e w9 ⟨rfl, hb⟩; replace HC := Lib.hid (HC.out.trans (hb.mono HC.out.size)); clear hb)
    | (go_at_call 12; refine (HE2.out _ HC.out).mono ?_; rintro e w10 ⟨rfl, hb⟩; replace HC := Lib.hid (HC.out.trans (hb.mono HC.out.size)); clear hb)
    | (go_at_call 13; refine (HN2.out _ HC.out).mono ?_; rintro e w11 ⟨rfl, hb⟩; replace HC := Lib.hid (HC.out.trans (hb.mono HC.out.size)); clear hb))
      go_ret
      exact ⟨rfl, HA.out.trans (HC.out.mono HA.out.size)⟩
set_option maxRecDepth 100000 in
set_option maxHeartbeats 8000000 in
theorem reaches4 (v : Slots) (b : BookT) (acc sy d q : Int) (w : World) (hb : BookIn w v b) (hw : BookWf b) (_ia : in6 acc) (_is : in6 sy) (_id : in6 d) (iq : in6 q) :
    Calls Try.prog 4 #[.agg (cellsB v b), .int .i64 acc, .int .i64 sy, .int .i64 d, .int .i64 q] w fun e w' => e = .returned (.bool true) ∧ Below w.heap.size w w' := by
  obtain ⟨W0, hW0⟩ : ∃ x, w.alloc (.cells (cellsB v b) 27) = x := ⟨_, rfl⟩
  have hA : Below w.heap.size w W0 := by rw [← hW0]; exact (Below.refl _ w).alloc (Nat.le_refl _) _
  have hg : BoxB W0 w.heap.size v b := by rw [← hW0]; exact BoxB.new w v b
  have HA := Lib.hid hA
  have HBI := Lib.hid (show BkIn w.heap.size v b W0 from ⟨hg, hb.below hA⟩)
  have HC := Lib.hid (Below.refl W0.heap.size W0)
  have HLB := Lib.hid (fun W (h : Below W0.heap.size W0 W) => load_book (HBI.out.box h))
  have HAL := Lib.hid (fun W => aliveM W)
  have HGR := Lib.hid (fun W => great8 v b W)
  cases hgr : greatT b with
  | true =>
    rw [hgr] at HGR
    clear hb hw hg hA hgr HBI iq
    generalize cellsB v b = CA at *
    go_enter Try.func4, Try.ntmps4
    go_wp2_with (first
    | ((with_reducible refine atLoad (ty := 27) (x := .tmp 5) rfl ?_); refine loadE (wanted_noneD rfl) 27 (.tmp 5) rfl _ (.agg CA) rfl (HLB.out _ HC.out) ?_)
    | (go_at_call 7; refine (HAL.out _).mono ?_; rintro e w1 ⟨rfl, hb⟩; replace HC := Lib.hid (HC.out.trans (hb.mono HC.out.size)); clear hb)
    | (go_at_call 8; refine (HGR.out _).mono ?_; rintro e w2 ⟨rfl, hb⟩; replace HC := Lib.hid (HC.out.trans (hb.mono HC.out.size)); clear hb))
    go_ret
    exact ⟨rfl, HA.out.trans (HC.out.mono HA.out.size)⟩
  | false =>
    have hk : BookOk 2000 b := (ok_of_great hgr hw).mono (by omega)
    rw [hgr] at HGR
    have HMY := Lib.hid (fun W (h : Below W0.heap.size W0 W) => may10 v b W (HBI.out.book h) hk)
    have HE := Lib.hid (fun W (h : Below W0.heap.size W0 W) => preach14 v b acc sy d q W (HBI.out.book h) hk iq)
    cases hm : mayT b with
    | false =>
      rw [hm] at HMY
      rw [hm] at HE
      rw [Bool.and_false, if_neg (by simp), Bool.false_and] at HE
      clear hb hw hg hA hgr hm hk HBI iq
      generalize cellsB v b = CA at *
      go_enter Try.func4, Try.ntmps4
      go_wp2_with (first
    | ((with_reducible refine atLoad (ty := 27) (x := .tmp 5) rfl ?_); refine loadE (wanted_noneD rfl) 27 (.tmp 5) rfl _ (.agg CA) rfl (HLB.out _ HC.out) ?_)
    | (go_at_call 7; refine (HAL.out _).mono ?_; rintro e w1 ⟨rfl, hb⟩; replace HC := Lib.hid (HC.out.trans (hb.mono HC.out.size)); clear hb)
    | (go_at_call 8; refine (HGR.out _).mono ?_; rintro e w2 ⟨rfl, hb⟩; replace HC := Lib.hid (HC.out.trans (hb.mono HC.out.size)); clear hb)
    | (go_at_call 14; refine (HE.out _ HC.out).mono ?_; rintro e w3 ⟨rfl, hb⟩; replace HC := Lib.hid (HC.out.trans (hb.mono HC.out.size)); clear hb)
    | (go_at_call 11; refine (HMY.out _ HC.out).mono ?_; rintro e w9 ⟨rfl, hb⟩; replace HC := Lib.hid (HC.out.trans (hb.mono HC.out.size)); clear hb))
      go_ret
      exact ⟨rfl, HA.out.trans (HC.out.mono HA.out.size)⟩
    | true =>
      rw [hm] at HMY
      rw [hm] at HE
      have HE2 := Lib.hid (fun W (h : Below W0.heap.size W0 W) => rreach15 v b acc sy d q W (HBI.out.book h) hk iq)
      rw [Bool.and_true] at HE
      generalize (if sideB d then fitV (farT b acc sy d q) else 0) = a1 at *
      generalize (sideB d && fitB (farT b acc sy d q)) = a2 at *
      clear hb hw hg hA hgr hm hk HBI iq
      generalize cellsB v b = CA at *
      go_enter Try.func4, Try.ntmps4
      go_wp2_with (first
    | ((with_reducible refine atLoad (ty := 27) (x := .tmp 5) rfl ?_); refine loadE (wanted_noneD rfl) 27 (.tmp 5) rfl _ (.agg CA) rfl (HLB.out _ HC.out) ?_)
    | (go_at_call 7; refine (HAL.out _).mono ?_; rintro e w1 ⟨rfl, hb⟩; replace HC := Lib.hid (HC.out.trans (hb.mono HC.out.size)); clear hb)
    | (go_at_call 8; refine (HGR.out _).mono ?_; rintro e w2 ⟨rfl, hb⟩; replace HC := Lib.hid (HC.out.trans (hb.mono HC.out.size)); clear hb)
    | (go_at_call 14; refine (HE.out _ HC.out).mono ?_; rintro e w3 ⟨rfl, hb⟩; replace HC := Lib.hid (HC.out.trans (hb.mono HC.out.size)); clear hb)
    | (go_at_call 11; refine (HMY.out _ HC.out).mono ?_; rintro e w9 ⟨rfl, hb⟩; replace HC := Lib.hid (HC.out.trans (hb.mono HC.out.size)); clear hb)
    | (go_at_call 15; refine (HE2.out _ HC.out).mono ?_; rintro e w10 ⟨rfl, hb⟩; replace HC := Lib.hid (HC.out.trans (hb.mono HC.out.size)); clear hb))
      go_ret
      exact ⟨rfl, HA.out.trans (HC.out.mono HA.out.size)⟩
theorem infoOp : (Try.prog.info? 37).map (·.size) = some 6 := by kernel_rfl
theorem load_openM {W : World} {g : Nat} {a b c d e f : Value} (h : W.heap[g]? = some (.cells #[a, b, c, d, e, f] 37 (0, 0))) : (Instr.loadAt 37 (.pointer (some ⟨g, 0, none⟩))).run Try.prog W = .ok (.agg #[a, b, c, d, e, f]) W := by
  simp only [Instr.loadAt, Instr.sureAddr, Sem.run_bind, Sem.run_pure, Result.andThen_ok, run_loadVar_row W g 37 37 #[a, b, c, d, e, f] (0, 0) _ h Try.underlying37 rfl infoOp]
set_option maxRecDepth 100000 in
set_option maxHeartbeats 8000000 in
theorem after5 (v : Slots) (b : BookT) (o0 acc sy d o4 o5 q pc : Int) (w : World) (hb : BookIn w v b) (hw : BookWf b) (iq : in6 q) (ip : in6 pc) :
    Calls Try.prog 5 #[.agg (cellsB v b), .agg #[.int .i64 o0, .int .i64 acc, .int .i64 sy, .int .i64 d, .int .i64 o4, .int .i64 o5], .int .i64 q, .int .i64 pc] w fun e w' => e = .returned (.bool true) ∧ Below w.heap.size w w' := by
  obtain ⟨W0, hW0⟩ : ∃ x, (w.alloc (.cells (cellsB v b) 27)).alloc (.cells #[.int .i64 o0, .int .i64 acc, .int .i64 sy, .int .i64 d, .int .i64 o4, .int .i64 o5] 37) = x := ⟨_, rfl⟩
  have hA : Below w.heap.size w W0 := by rw [← hW0]; exact ((Below.refl _ w).alloc (Nat.le_refl _) _).alloc (by simp) _
  have hN := two_new (W := w) (O := .cells (cellsB v b) 27) (P := .cells #[.int .i64 o0, .int .i64 acc, .int .i64 sy, .int .i64 d, .int .i64 o4, .int .i64 o5] 37)
  rw [hW0] at hN
  have hg : BoxB W0 w.heap.size v b := hN.1
  have ho := hN.2
  have HLO := Lib.hid (fun W (h : Below W0.heap.size W0 W) => load_openM ((h.block _ (blk_ltK ho)).trans ho))
  clear ho hN
  have HA := Lib.hid hA
  have HBI := Lib.hid (show BkIn w.heap.size v b W0 from ⟨hg, hb.below hA⟩)
  have HC := Lib.hid (Below.refl W0.heap.size W0)
  have HLB := Lib.hid (fun W (h : Below W0.heap.size W0 W) => load_book (HBI.out.box h))
  have HAL := Lib.hid (fun W => aliveM W)
  have HGR := Lib.hid (fun W => great8 v b W)
  cases hgr : greatT b with
  | true =>
    rw [hgr] at HGR
    clear hb hw hg hA hgr HBI iq ip
    generalize cellsB v b = CA at *
    go_enter Try.func5, Try.ntmps5
    go_wp2_with (first
    | ((with_reducible refine atLoad (ty := 27) (x := .tmp 4) rfl ?_); refine loadE (wanted_noneD rfl) 27 (.tmp 4) rfl _ (.agg CA) rfl (HLB.out _ HC.out) ?_)
    | ((with_reducible refine atLoad (ty := 37) (x := .tmp 5) rfl ?_); refine loadE (wanted_noneD rfl) 37 (.tmp 5) rfl _ (.agg #[.int .i64 o0, .int .i64 acc, .int .i64 sy, .int .i64 d, .int .i64 o4, .int .i64 o5]) rfl (HLO.out _ HC.out) ?_)
    | (go_at_call 7; refine (HAL.out _).mono ?_; rintro e w1 ⟨rfl, hb⟩; replace HC := Lib.hid (HC.out.trans (hb.mono HC.out.size)); clear hb)
    | (go_at_call 8; refine (HGR.out _).mono ?_; rintro e w2 ⟨rfl, hb⟩; replace HC := Lib.hid (HC.out.trans (hb.mono HC.out.size)); clear hb))
    go_ret
    exact ⟨rfl, HA.out.trans (HC.out.mono HA.out.size)⟩
  | false =>
    have hk : BookOk 2000 b := (ok_of_great hgr hw).mono (by omega)
    rw [hgr] at HGR
    have HMY := Lib.hid (fun W (h : Below W0.heap.size W0 W) => may10 v b W (HBI.out.book h) hk)
    have HE := Lib.hid (fun W (h : Below W0.heap.size W0 W) => pafter16 v b o0 acc sy d o4 o5 q pc W (HBI.out.book h) hk iq ip)
    cases hm : mayT b with
    | false =>
      rw [hm] at HMY
      rw [hm] at HE
      rw [Bool.and_false, if_neg (by simp), if_neg (by simp), Bool.false_and, Bool.false_and] at HE
      clear hb hw hg hA hgr hm hk HBI iq ip
      generalize cellsB v b = CA at *
      go_enter Try.func5, Try.ntmps5
      go_wp2_with (first
    | ((with_reducible refine atLoad (ty := 27) (x := .tmp 4) rfl ?_); refine loadE (wanted_noneD rfl) 27 (.tmp 4) rfl _ (.agg CA) rfl (HLB.out _ HC.out) ?_)
    | ((with_reducible refine atLoad (ty := 37) (x := .tmp 5) rfl ?_); refine loadE (wanted_noneD rfl) 37 (.tmp 5) rfl _ (.agg #[.int .i64 o0, .int .i64 acc, .int .i64 sy, .int .i64 d, .int .i64 o4, .int .i64 o5]) rfl (HLO.out _ HC.out) ?_)
    | (go_at_call 7; refine (HAL.out _).mono ?_; rintro e w1 ⟨rfl, hb⟩; replace HC := Lib.hid (HC.out.trans (hb.mono HC.out.size)); clear hb)
    | (go_at_call 8; refine (HGR.out _).mono ?_; rintro e w2 ⟨rfl, hb⟩; replace HC := Lib.hid (HC.out.trans (hb.mono HC.out.size)); clear hb)
    | (go_at_call 16; refine (HE.out _ HC.out).mono ?_; rintro e w3 ⟨rfl, hb⟩; replace HC := Lib.hid (HC.out.trans (hb.mono HC.out.size)); clear hb)
    | (go_at_call 11; refine (HMY.out _ HC.out).mono ?_; rintro e w9 ⟨rfl, hb⟩; replace HC := Lib.hid (HC.out.trans (hb.mono HC.out.size)); clear hb))
      go_ret
      exact ⟨rfl, HA.out.trans (HC.out.mono HA.out.size)⟩
    | true =>
      rw [hm] at HMY
      rw [hm] at HE
      have HE2 := Lib.hid (fun W (h : Below W0.heap.size W0 W) => rafter17 v b o0 acc sy d o4 o5 q pc W (HBI.out.book h) hk iq ip)
      rw [Bool.and_true] at HE
      generalize (if sideB d then fitV (leftT b acc d q pc) else 0) = a1 at *
      generalize (if sideB d then fitV (muchT b acc sy d q) else 0) = a2 at *
      generalize (sideB d && fitB (leftT b acc d q pc)) = a3 at *
      generalize (sideB d && fitB (muchT b acc sy d q)) = a4 at *
      clear hb hw hg hA hgr hm hk HBI iq ip
      generalize cellsB v b = CA at *
      go_enter Try.func5, Try.ntmps5
      go_wp2_with (first
    | ((with_reducible refine atLoad (ty := 27) (x := .tmp 4) rfl ?_); refine loadE (wanted_noneD rfl) 27 (.tmp 4) rfl _ (.agg CA) rfl (HLB.out _ HC.out) ?_)
    | ((with_reducible refine atLoad (ty := 37) (x := .tmp 5) rfl ?_); refine loadE (wanted_noneD rfl) 37 (.tmp 5) rfl _ (.agg #[.int .i64 o0, .int .i64 acc, .int .i64 sy, .int .i64 d, .int .i64 o4, .int .i64 o5]) rfl (HLO.out _ HC.out) ?_)
    | (go_at_call 7; refine (HAL.out _).mono ?_; rintro e w1 ⟨rfl, hb⟩; replace HC := Lib.hid (HC.out.trans (hb.mono HC.out.size)); clear hb)
    | (go_at_call 8; refine (HGR.out _).mono ?_; rintro e w2 ⟨rfl, hb⟩; replace HC := Lib.hid (HC.out.trans (hb.mono HC.out.size)); clear hb)
    | (go_at_call 16; refine (HE.out _ HC.out).mono ?_; rintro e w3 ⟨rfl, hb⟩; replace HC := Lib.hid (HC.out.trans (hb.mono HC.out.size)); clear hb)
    | (go_at_call 11; refine (HMY.out _ HC.out).mono ?_; rintro e w9 ⟨rfl, hb⟩; replace HC := Lib.hid (HC.out.trans (hb.mono HC.out.size)); clear hb)
    | (go_at_call 17; refine (HE2.out _ HC.out).mono ?_; rintro e w10 ⟨rfl, hb⟩; replace HC := Lib.hid (HC.out.trans (hb.mono HC.out.size)); clear hb))
      go_ret
      exact ⟨rfl, HA.out.trans (HC.out.mono HA.out.size)⟩
end Go.Proofs.Ytmndkbfjmamnfaa
