/- Contracts of the program's frames and gather: the frames that stand, told one by one by an iterator, each handed to a function. -/
import Derived.RangeFuncNested
import Derived.RangeFuncBound
import Derived.RangeFuncCalls
import Derived.RangeFuncLeaves
import Derived.Shelf.Abstract
import Derived.Shelf.RegionOpen
import Derived.OwnWalkIn
import Derived.TacticsInMore
import Derived.LoopNIn
import Derived.LoopIn
import Derived.Test.YtbaajabiimckoaaFrNext
import Derived.Test.YtbaajabiimckoaaFrScan
namespace Go.Proofs.Ytbaajabiimckoaa
open Go.RowKit Go.Shelf Base
attribute [local go_sem] Oper.semAt_some

/-- What is handed over of a frame: its row, and how many bytes it has. -/
def encP (x : ByteArray × Nat) : Array Value := #[.string x.1, .int .i64 (x.2 : Int)]

set_option maxRecDepth 100000 in
set_option maxHeartbeats 2000000 in
theorem frames46 (n : Nat) (hn : 1 ≤ n) (l Bn : Nat) (S : ByteArray) (hs : S.size ≤ 1000000) (J Jx : List (ByteArray × Nat) → World → Prop)
    (hJ : ∀ pre W W', J pre W → Below W.heap.size W W' → J pre W')
    (hY : ∀ pre x W, J pre W → pre.length < (scanS S).length → YieldAt Fence.wide (n - 1) Try.prog l (encP x) W fun e W' =>
      (e = .returned (.bool true) ∧ J (pre ++ [x]) W' ∧ True) ∨ (e = .returned (.bool false) ∧ Jx (pre ++ [x]) W'))
    (W : World) (hBn : W.cell? ⟨Bn, 0, none⟩ = some (.string S)) (h0 : J [] W) :
    CallsIn Fence.wide n Try.prog 46 #[.func (.yield l) #[] #[], .pointer (some ⟨Bn, 0, none⟩)] W fun e W' => (∃ v, e = .returned v) ∧
      ((∃ ys, ys = scanS S ∧ J ys W') ∨ (∃ pre, True ∧ Jx pre W')) := by
  obtain ⟨RES, hRES⟩ : ∃ R, scanS S = R := ⟨_, rfl⟩
  rw [hRES] at hY ⊢
  have HY := Lib.hid hY
  have HJ := Lib.hid hJ
  have H0 := Lib.hid h0
  have HR := Lib.hid hRES
  clear hY hJ h0 hRES
  refine callsIn_of_wp Try.func46 rfl trivial ?_ rfl
  simp only [Try.ntmps46, List.size_toArray, List.length_cons, List.length_nil, Nat.reduceAdd, Nat.reduceSub, Array.replicate_succ, Array.replicate_zero, List.push_toArray, List.append_toArray, List.nil_append, List.cons_append]
  gi_wp2
  gi_loopw [3] (fun c W => ∃ cur pre, c = .string cur ∧ RES = pre ++ scanS cur ∧ cur.size ≤ S.size ∧ J pre W) (fun c _ => strLen c)
  case atStart => exact ⟨S, [], rfl, HR.out.symm, Nat.le_refl _, H0.out⟩
  case round =>
    clear H0 hBn
    obtain ⟨cur, pre, rfl, hall, hle, hj⟩ := hrel
    have hsz : cur.size ≤ 1000000 := by omega
    have HN := Lib.hid (next8 cur wr hsz)
    have hnx := scanS_next cur
    have hok := nextS_ok cur
    obtain ⟨⟨row, k, er⟩, hq⟩ : ∃ q, nextS cur = q := ⟨_, rfl⟩
    rw [hq] at HN hnx hok
    simp only at hnx hok
    have HN2 : Hid (Calls Try.prog 8 #[.string cur] wr fun e w' => e = .returned (.tuple #[.string row, .int .i64 (k : Int), .int .i64 er]) ∧ Below wr.heap.size wr w') := HN.out
    have HJ0 := Lib.hid hj
    by_cases he : er = 0
    · obtain ⟨k1, k2⟩ := hok he
      rw [if_pos he] at hnx
      rw [hnx] at hall
      have hx : (cur.extract k cur.size).size = cur.size - k := by simp [ByteArray.size_extract]
      have HA : Hid (RES = (pre ++ [(row, k)]) ++ scanS (cur.extract k cur.size)) := by show _ = _; rw [hall]; simp
      have HLn : Hid (pre.length < RES.length) := by show _ < _; rw [hall]; simp
      have HM : Hid ((cur.extract k cur.size).size < cur.size) := by show _ < _; omega
      have HM2 : Hid ((cur.extract k cur.size).size ≤ S.size) := by show _ ≤ _; omega
      have hb : (er != 0) = false := by simpa using he
      have hkz : (k : Int) ≤ (cur.size : Int) := by omega
      clear hnx hok hall hx he hq HN hj HR
      gi_wp2_with (refine ⟨trivial, ?_⟩; gi_at_call 8; refine (callsIn_wide.2 HN2.out).mono ?_; rintro e w1 ⟨rfl, hb1⟩; have HJ1 := Lib.hid (HJ.out _ _ _ HJ0.out hb1); obtain ⟨fn, tmps, assign, body, hy, hR⟩ := HY.out _ (row, k) _ HJ1.out HLn.out; dsimp only [encP] at hy; clear hb1)
      refine hR.mono ?_
      rintro e W3 (⟨rfl, hJ3, _⟩ | ⟨rfl, hJx3⟩)
      · have HJ3 := Lib.hid hJ3
        clear hJ3 hR hy
        gi_wp2
        go_roundw
        case rel => exact ⟨_, pre ++ [(row, k)], rfl, HA.out, HM2.out, HJ3.out⟩
        case measure => exact HM.out
      · clear hR hy
        gi_wp2
        refine bodyPost_ret (results_none rfl _ _ _) rfl ?_
        exact ⟨⟨_, rfl⟩, .inr ⟨_, trivial, hJx3⟩⟩
    · rw [if_neg he] at hnx
      rw [hnx, List.append_nil] at hall
      have hb : (er != 0) = true := by simpa using he
      have HA := Lib.hid hall
      clear hnx hok hall he hq HN hj HR HY
      gi_wp2_with (refine ⟨trivial, ?_⟩; gi_at_call 8; refine (callsIn_wide.2 HN2.out).mono ?_; rintro e w1 ⟨rfl, hb1⟩; have HJ1 := Lib.hid (HJ.out _ _ _ HJ0.out hb1); clear hb1)
      refine ⟨fun _ h => (by cases h), ?_⟩
      gi_wp2
      refine bodyPost_ret (results_none rfl _ _ _) rfl ?_
      exact ⟨⟨_, rfl⟩, .inl ⟨pre, HA.out.symm, HJ1.out⟩⟩

theorem frames41 (S : ByteArray) (w : World) : CallsIn Fence.wide 9 Try.prog 41 #[.string S] w fun e w' => e = .returned (.func (.func 46) #[] #[.pointer (some ⟨w.heap.size, 0, none⟩)]) ∧ w' = w.alloc (.cells #[.string S] 9) := by
  refine callsIn_of_wp Try.func41 rfl trivial ?_ rfl
  simp only [Try.ntmps41, List.size_toArray, List.length_cons, List.length_nil, Nat.reduceAdd, Nat.reduceSub, Array.replicate_succ, Array.replicate_zero, List.push_toArray, List.append_toArray, List.nil_append, List.cons_append]
  gi_wp2
  go_ret
  exact ⟨rfl, rfl⟩

theorem frames_stops (n : Nat) (hn : 1 ≤ n) (Bn : Nat) (S : ByteArray) (hs : S.size ≤ 1000000) (w : World) (hBn : Bn < w.heap.size) (hc : w.cell? ⟨Bn, 0, none⟩ = some (.string S)) :
    SeqStopsK Fence.wide n Try.prog 46 #[.pointer (some ⟨Bn, 0, none⟩)] encP (fun _ _ => True) (fun ys => ys = scanS S) (fun _ => True) (scanS S).length w := fun l J Jx W hW hJ _ hY h0 =>
  frames46 n hn l Bn S hs J Jx (fun pre A B ha hb => hJ pre A B none ha (below_grown hb none) (fun _ e => by cases e)) hY W ((hW.cell (p := ⟨Bn, 0, none⟩) hBn).trans hc) h0

theorem below_own_from {β : Type} {B B' : Nat} {I : β → World → Prop} (h : OwnFrom B I) (hB : B ≤ B') : OwnFrom B' I := fun s W W' row hs hg hr => h s W W' row hs hg (fun r e => ⟨Nat.le_trans hB (hr r e).1, (hr r e).2⟩)

theorem keepsFrom_le {B B' : Nat} {W W' : World} (h : KeepsFrom B W W') (hB : B ≤ B') : KeepsFrom B' W W' := ⟨h.size, fun k o hk => h.same k o (Nat.le_trans hB hk)⟩

set_option maxRecDepth 100000 in
set_option maxHeartbeats 2000000 in
theorem gather27 (fn : Nat) (caps : Array Value) (S : ByteArray) (w : World) (I : List (ByteArray × Nat) → World → Prop) (hs : S.size ≤ 1000000)
    (HE : ∀ args w, (callFunc fn args).run Try.prog w = .ok (.enter fn args) w)
    (hI : OwnFrom w.heap.size I) (h0 : I [] w)
    (hK : ∀ pre x W, I pre W → pre.length < (scanS S).length → Calls Try.prog fn (encP x ++ caps) W fun e W' => e = .returned (.tuple #[]) ∧ KeepsFrom w.heap.size W W' ∧ I (pre ++ [x]) W' ∧ (∀ g v, Boxed W g 57 v → Boxed W' g 57 v)) :
    Calls Try.prog 27 #[.string S, .func (.func fn) #[] caps] w fun e w' => e = .returned (.tuple #[]) ∧ I (scanS S) w' := by
  refine (callsIn_wide (n := 10)).1 ?_
  have HK := Lib.hid hK
  have HI := Lib.hid hI
  have H0 := Lib.hid h0
  clear hK hI h0
  refine callsIn_of_wp_marks Try.func27 rfl trivial ?_ rfl
  simp only [Try.ntmps27, List.size_toArray, List.length_cons, List.length_nil, Nat.reduceAdd, Nat.reduceSub, Array.replicate_succ, Array.replicate_zero, List.push_toArray, List.append_toArray, List.nil_append, List.cons_append]
  gi_wp2_with (refine ⟨trivial, ?_⟩; gi_at_call 41; refine (frames41 S _).mono ?_; rintro e w' ⟨rfl, rfl⟩)
  have bK := Boxed.new w 57 (.func (.func fn) #[] caps)
  have bS := Boxed.new (w.alloc (.cells #[.func (.func fn) #[] caps] 57)) 9 (.string S)
  rw [World.size_alloc] at bS
  refine wpIn_rangeFunc_ownG rfl (by omega) (gf := 46) (lb := #[.pointer (some ⟨w.heap.size + 1, 0, none⟩)]) rfl trivial (enters_of Try.func46 (by kernel_rfl) rfl)
    (frames_stops _ (by omega) (w.heap.size + 1) S hs _ (by simp) bS.cell) (fun _ _ => trivial) (fun _ _ _ _ _ _ _ _ => trivial) (Below.refl _ _) (fun _ => rfl)
    (fun pre W => I pre W ∧ Boxed W w.heap.size 57 (.func (.func fn) #[] caps))
    (fun _ _ _ => False)
    (OwnFrom.and (below_own_from HI.out (by simp; omega)) (Own.from (boxed_own _ _ (fun _ => .func (.func fn) #[] caps)) _))
    (fun _ _ _ _ _ hs _ _ => hs)
    ⟨HI.out.alloc _ (HI.out.alloc _ H0.out), bK.alloc _⟩
    (fun x => { tmps := #[.string S, .func (.func fn) #[] caps, undef, .pointer (some ⟨w.heap.size, 0, none⟩), .string x.1, .int .i64 (x.2 : Int), .string S, .func (.func 46) #[] #[.pointer (some ⟨w.heap.size + 1, 0, none⟩)], .string x.1, .int .i64 (x.2 : Int), undef, undef, undef, undef], defers := [] }) ?assign ?body ?done ?stop
  case assign =>
    intro l x W K hK
    dsimp only [encP]
    gi_wp2
    exact hK
  case body =>
    rintro l pre x W ⟨hi, hb⟩ hlt
    have hc := hb.cell
    have HC := Lib.hid (HK.out pre x W hi hlt)
    dsimp only [encP] at HC
    gi_wp2
    refine ⟨trivial, ?_⟩
    refine (CallsIn.inRound l (callsIn_wide.2 HC.out)).mono ?_
    rintro e w' ⟨rfl, hk, hi2, hb2⟩
    gi_wp2
    exact ⟨keepsFrom_le hk (by simp; omega), trivial, hi2, hb2 _ _ hb⟩
  case done =>
    rintro D ys W hD rfl ⟨hi, hb⟩ hK
    gi_wp2
    refine ⟨by simp, .inl ⟨_, _, rfl, run_takeDeferred hK, ?_⟩⟩
    exact ⟨_, results_none rfl _ _ _, rfl, HI.out.putObj _ hi (by simp at hD; omega) hK rfl⟩
  case stop =>
    rintro D c pre W _ _ h _
    exact h.elim
end Go.Proofs.Ytbaajabiimckoaa
