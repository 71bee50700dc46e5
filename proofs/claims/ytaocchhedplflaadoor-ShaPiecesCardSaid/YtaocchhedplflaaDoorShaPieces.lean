/- ShaPieces holds: however bytes come in pieces: behind each the digest is that of all that came, and so many came. No condition but that the program's table of constants is as its text lays it, which the card ties. -/
import Derived.Test.YtaocchhedplflaaDoorShaLaid
import Derived.Deep.Strs
namespace Go.Proofs.YtaocchhedplflaaDoor.shaPieces
open Go.ChangeShapes Go.WideShapes Go.ChangeAt Go.RowKit Go.Lib

/-- A row of texts. -/
def StrRow (W : World) (a : Option Addr) (n : Nat) (Sx : Nat → ByteArray) : Prop := n = 0 ∨ ∃ b off, a = some ⟨b, off, none⟩ ∧ b < W.heap.size ∧ ∀ i, i < n → W.cell? ⟨b, off + i, none⟩ = some (.string (Sx i))
/-- The first texts, one behind the other. -/
def cat (Sx : Nat → ByteArray) : Nat → List UInt8
  | 0 => []
  | i + 1 => cat Sx i ++ (Sx i).data.toList
theorem cat_len (Sx : Nat → ByteArray) (i : Nat) (h : ∀ j, j < i → (Sx j).size ≤ 200) : (cat Sx i).length ≤ 200 * i := by
  induction i with
  | zero => simp [cat]
  | succ i ih =>
    have h1 := ih fun j hj => h j (by omega)
    have h2 := h i (by omega)
    rw [cat, List.length_append]
    have : (Sx i).data.toList.length = (Sx i).size := by simp
    omega
theorem hash_below {W W' : World} {g : Nat} {l : List UInt8} (h : HashAt W g l) (hb : Below W.heap.size W W') : HashAt W' g l := by
  obtain ⟨b, ht, hc⟩ := h
  exact ⟨b, ht, (hb.block g (lt_of_block hc)).trans hc⟩
/-- What stands while pieces come. -/
def PcS (w : World) (g : Nat) (l : List UInt8) (W : World) : Prop := HashAt W g l ∧ Below w.heap.size w W ∧ KHeld W
theorem PcS.below {w W W' : World} {g : Nat} {l : List UInt8} (h : PcS w g l W) (hw : w.heap.size ≤ W.heap.size) (hb : Below W.heap.size W W') : PcS w g l W' :=
  ⟨hash_below h.1 hb, h.2.1.trans (hb.mono hw), KHeld_of h.2.2 hb⟩

set_option maxRecDepth 100000 in
set_option maxHeartbeats 1000000 in
theorem walk4 (a : Option Addr) (n cap : Nat) (Sx : Nat → ByteArray) (w : World) (hr : StrRow w a n Sx) (_hn : n ≤ maxLen) (hK : KHeld w) (_hcap : n ≤ cap) :
    Calls Tryd.prog 4 #[.slice a n cap] w fun e w' => e = .returned (.bool true) ∧ Below w.heap.size w w' := by
  have HAL := Lib.hid (alive6 w hK)
  have HK := Lib.hid hK
  clear hK
  by_cases hbig : 30 < n
  · have h1 : (30 : Int) < (n : Int) := by omega
    clear hr
    go_enter Tryd.func4, Tryd.ntmps4
    go_wp2_with (go_at_call 6; refine HAL.out.mono ?_; rintro e w1 ⟨rfl, hb1⟩; have HB1 := Lib.hid hb1; clear hb1)
    go_ret
    exact ⟨rfl, HB1.out⟩
  · have h30 : ¬ (30 : Int) < (n : Int) := by omega
    have hn30 : n ≤ 30 := by omega
    have HR := Lib.hid hr
    clear hr hbig
    go_enter Tryd.func4, Tryd.ntmps4
    go_upto_region 6 with (go_at_call 6; refine HAL.out.mono ?_; rintro e w1 ⟨rfl, hb1⟩; have HB1 := Lib.hid hb1; clear hb1)
    go_loop [3] (fun v => ∃ i : Nat, i ≤ n ∧ v = .int .i64 (i : Int) ∧ ∀ j, j < i → (Sx j).size ≤ 200) (fun v => n - (intOf v).toNat)
    case atStart => exact ⟨0, by omega, rfl, fun j hj => absurd hj (by omega)⟩
    case round =>
      obtain ⟨i, hi, rfl, hsz⟩ := hrel
      have HSZ := Lib.hid hsz
      clear hsz
      by_cases hlt : i < n
      · have hlt2 : (i : Int) < (n : Int) := by omega
        obtain ⟨b, off, rfl, hbw, hcell⟩ : ∃ b off, a = some ⟨b, off, none⟩ ∧ b < w.heap.size ∧ ∀ i, i < n → w.cell? ⟨b, off + i, none⟩ = some (.string (Sx i)) := by
          rcases HR.out with h0 | h0
          · omega
          · exact h0
        have c1 : w1.cell? ⟨b, off + i, none⟩ = some (.string (Sx i)) := (HB1.out.cell (p := ⟨b, off + i, none⟩) hbw).trans (hcell i hlt)
        clear hcell
        obtain ⟨t, ht⟩ : ∃ t, Sx i = t := ⟨_, rfl⟩
        rw [ht] at c1
        have HT := Lib.hid ht
        clear ht
        by_cases h200 : 200 < t.size
        · have h2001 : (200 : Int) < (t.size : Int) := by omega
          go_wp2
          go_ret
          exact ⟨rfl, HB1.out⟩
        · have h2001 : ¬ (200 : Int) < (t.size : Int) := by omega
          go_wp2
          go_round
          case rel =>
            refine ⟨i + 1, by omega, by go_num, fun j hj => ?_⟩
            by_cases hji : j = i
            · subst hji; rw [HT.out]; omega
            · exact HSZ.out j (by omega)
          case measure => simp [intOf]; omega
      · have hin : i = n := by omega
        have ei : (i : Int) = (n : Int) := by omega
        rw [ei]
        have HSN := Lib.hid (show ∀ j, j < n → (Sx j).size ≤ 200 by rw [← hin]; exact HSZ.out)
        clear hin ei hlt hi HSZ
        go_upto_region 13 with (go_at_call 12; refine (new12 w1).mono ?_; rintro e w2 ⟨rfl, hh2, hb2, hs2⟩; have HH2 := Lib.hid hh2; have HB2 := Lib.hid hb2; have HS2' := Lib.hid hs2; clear hh2 hb2 hs2)
        obtain ⟨g, hg⟩ : ∃ g, w1.heap.size = g := ⟨_, rfl⟩
        have hwg : w.heap.size ≤ g := by rw [← hg]; exact HB1.out.size
        have hg0 : g ≠ 0 := by have := KHeld_pos HK.out; omega
        have HP := Lib.hid (show PcS w g [] w2 from ⟨by rw [← hg]; exact HH2.out, bt HB1.out HB2.out, KHeld_of HK.out (bt HB1.out HB2.out)⟩)
        rw [hg]
        clear hg
        go_loopw [5, 6] (fun va vi W' => ∃ (i : Nat) (A : ByteArray), i ≤ n ∧ vi = .int .i64 (i : Int) ∧ va = .string A ∧ A.data.toList = cat Sx i ∧ PcS w g (cat Sx i) W') (fun _ vi _ => n - (intOf vi).toNat)
        case atStart => exact ⟨0, _, by omega, rfl, rfl, rfl, HP.out⟩
        case round =>
          clear HP
          obtain ⟨i, A, hi, rfl, rfl, hA, hp⟩ := hrel
          have hcl := cat_len Sx i fun j hj => HSN.out j (by omega)
          have hlA : A.size = (cat Sx i).length := by rw [← hA]; simp
          have hA6 : A.size ≤ 6000 := by omega
          have HA := Lib.hid hA; have HP := Lib.hid hp; have HCL := Lib.hid hcl; have HLA := Lib.hid hlA
          have HD := Lib.hid (show (⟨(digB (cat Sx i)).toArray⟩ : ByteArray) = digS A by rw [← hA]; rfl)
          clear hA hp hcl hlA
          have HC13 := Lib.hid (show ∀ W, PcS w g (cat Sx i) W → Calls Tryd.prog 13 #[.pointer (some ⟨g, 0, none⟩)] W fun e w' => e = .returned (.string (digS A)) ∧ Below W.heap.size W w' from fun W h => by
            have := sum13 g (cat Sx i) W (by have := HCL.out; omega) h.1 h.2.2
            rw [HD.out] at this
            exact this)
          have HC9 := Lib.hid (fun W (h : KHeld W) => sum9d A W (by omega) h)
          have HC14 := Lib.hid (show ∀ W, PcS w g (cat Sx i) W → Calls Tryd.prog 14 #[.pointer (some ⟨g, 0, none⟩)] W fun e w' => e = .returned (.int .u64 (A.size : Int)) ∧ W = w' from fun W h => by
            have := len14 g (cat Sx i) W (by have := HCL.out; omega) h.1
            rw [← HLA.out] at this
            exact this)
          by_cases hlt : i < n
          · have hlt2 : (i : Int) < (n : Int) := by omega
            obtain ⟨b, off, rfl, hbw, hcell⟩ : ∃ b off, a = some ⟨b, off, none⟩ ∧ b < w.heap.size ∧ ∀ i, i < n → w.cell? ⟨b, off + i, none⟩ = some (.string (Sx i)) := by
              rcases HR.out with h0 | h0
              · omega
              · exact h0
            have HCELL := Lib.hid (show ∀ W, Below w.heap.size w W → W.cell? ⟨b, off + i, none⟩ = some (.string (Sx i)) from fun W h => (h.cell (p := ⟨b, off + i, none⟩) hbw).trans (hcell i hlt))
            have h200 := HSN.out i hlt
            have HCT := Lib.hid (show cat Sx (i + 1) = cat Sx i ++ (Sx i).data.toList from rfl)
            obtain ⟨t, ht⟩ : ∃ t, Sx i = t := ⟨_, rfl⟩
            rw [ht] at HCELL h200 HCT
            clear ht hcell
            generalize digS A = D at *
            go_upto_region 17 with (first
              | (go_at_call 13; refine (HC13.out _ HP.out).mono ?_; rintro e w3 ⟨rfl, hb3⟩; have HP3 := Lib.hid (HP.out.below HP.out.2.1.size hb3); clear hb3)
              | (go_at_call 9; refine (HC9.out _ HP3.out.2.2).mono ?_; rintro e w4 ⟨rfl, hb4⟩; have HP4 := Lib.hid (HP3.out.below HP3.out.2.1.size hb4); clear hb4)
              | (go_at_call 14; refine (HC14.out _ HP4.out).mono ?_; rintro e w5 ⟨rfl, rfl⟩))
            have c1 := HCELL.out _ HP4.out.2.1
            go_wp2_with (go_at_call 15; refine (write15 g (cat Sx i) t _ (by have := HCL.out; omega) HP4.out.1 HP4.out.2.2 hg0).mono ?_; rintro e w6 ⟨rfl, hh6, hg6⟩; have HB6 := Lib.hid (HP4.out.2.1.grown hg6 HP4.out.2.1.size (by intro k hk; simp at hk; omega)); have HH6 := Lib.hid hh6; have c2 := HCELL.out _ HB6.out; clear hh6 hg6 c1)
            go_roundw
            case rel => exact ⟨i + 1, _, by omega, by go_num, rfl, by rw [HCT.out, ← HA.out]; simp, by rw [HCT.out]; exact HH6.out, HB6.out, KHeld_of HK.out HB6.out⟩
            case measure => simp [intOf]; omega
          · have hin : ¬ (i : Int) < (n : Int) := by omega
            have HC7 := Lib.hid (fun W => refsum7 A W (by omega))
            generalize digS A = D at *
            go_wp2_with (first
              | (go_at_call 15; refine (write_nil _ _).mono ?_; rintro e w3 ⟨rfl, rfl⟩)
              | (go_at_call_of 13 (Value.pointer none); refine (sum_nil _).mono ?_; rintro e w8 ⟨rfl, rfl⟩)
              | (go_at_call 14; refine (len_nil _).mono ?_; rintro e w9 ⟨rfl, rfl⟩)
              | (go_at_call 7; refine (HC7.out _).mono ?_; rintro e w5 ⟨rfl, hb5⟩; have HP5 := Lib.hid (HP4.out.below HP4.out.2.1.size hb5); clear hb5)
              | (go_at_call 9; refine (HC9.out _ HP6.out.2.2).mono ?_; rintro e w7 ⟨rfl, hb7⟩; have HP7 := Lib.hid (HP6.out.below HP6.out.2.1.size hb7); clear hb7)
              | (go_at_call 13; refine (HC13.out _ HP5.out).mono ?_; rintro e w6 ⟨rfl, hb6⟩; have HP6 := Lib.hid (HP5.out.below HP5.out.2.1.size hb6); clear hb6)
              | (go_at_call 13; refine (HC13.out _ HP.out).mono ?_; rintro e w4 ⟨rfl, hb4⟩; have HP4 := Lib.hid (HP.out.below HP.out.2.1.size hb4); clear hb4))
            go_ret
            exact ⟨rfl, HP7.out.2.1⟩
theorem laidOut : laidOutB Tryd.prog = true := by kernel_rfl
theorem cells9 : Tryd.prog.cellsOf 9 = 1 := by kernel_rfl
theorem witness_row (os : Os) {H : Type} (enc : TypeId × Value → H) :
    (OpenSpec.ofChange Rows.shaPiecesSpec).preRow enc Tryd.prog Tryd.f4 Rows.shaPiecesRow.domain false Rows.shaPiecesRow.laid ((laidWorld os).forCall (fun _ _ => 0) ⟨#[], #[.slice none 0 0], []⟩).memory #[.slice none 0 0] := by
  have hw : (DataW.whole enc Tryd.prog ((laidWorld os).forCall (fun _ _ => 0) ⟨#[], #[.slice none 0 0], []⟩).memory Tryd.f4.params.toList (OpenSpec.ofChange Rows.shaPiecesSpec).vars false #[Value.slice none 0 0].toList 8).map (fun x => (x.1, x.2.1)) =
      some ([.nil], []) := by kernel_rfl
  obtain ⟨⟨x1, x2, x3⟩, hx, hx1⟩ := Option.map_eq_some_iff.1 hw
  simp only [Prod.mk.injEq] at hx1
  obtain ⟨rfl, rfl⟩ := hx1
  exact OpenSpec.preRow_of_cond 8 hx (by kernel_rfl) (fun k hk => by cases hk) (by kernel_rfl) (laid_met os _)

set_option maxRecDepth 100000 in
set_option maxHeartbeats 2000000 in
theorem lifted (os : Os) (started : os.Started) (H : Type) (enc : TypeId × Value → H) (F : Stop.Interp) :
    ReturnsInHanded {} Tryd.checked os 4 .any ((OpenSpec.ofChange Rows.shaPiecesSpec).preRow enc Tryd.prog Tryd.f4 Rows.shaPiecesRow.domain false Rows.shaPiecesRow.laid) (((OpenSpec.ofChange Rows.shaPiecesSpec).at F).post enc Tryd.prog Tryd.f4 false true false false) := by
  refine returnsInHanded_of_row (C := Tryd.checked) (s := OpenSpec.ofChange Rows.shaPiecesSpec) ownK started (by kernel_rfl) Tryd.func4
    (witness_row_atRef (enc := enc) (C := Tryd.checked) false (laidWorld os) #[.slice none 0 0] rfl (by kernel_rfl) (by kernel_rfl) (by kernel_rfl) (witness_row os enc)) ?_
  intro W base args ds gs before hval0 hW hcnd0 _ _ hL _ _
  have hval : ∀ (j : Nat) t v, Tryd.f4.params[j]? = some t → args[j]? = some v → Value.okWide Tryd.prog W .any base t v := hval0
  have hW' := hW
  obtain ⟨p, q, hA0, hV0, rfl, _, _⟩ := hW
  have hA : DataW.TrodAll enc Tryd.prog W 0 (fun _ => true) true Tryd.f4.params.toList args.toList ds p := hA0
  rw [Tryd.params4] at hA hval
  obtain ⟨v0, vs0, d0, ds0, p0, q0, hargs, rfl, rfl, h0, r0⟩ := trodAll_cons hA
  obtain ⟨rfl, rfl, rfl⟩ := trodAll_nil r0
  obtain rfl : args = #[v0] := by cases args; simp_all
  obtain ⟨rfl, rfl⟩ := trodVars_none hV0
  obtain ⟨a1, len1, cap1, rfl⟩ := okWide_slice Tryd.underlying28 (hval 0 28 v0 rfl rfl)
  have k1 := h0
  have lt1 : ∀ x ∈ p0, x.block < W.heap.size := by obtain ⟨m, hm⟩ := k1; exact DataW.trod_lt m _ _ _ hm
  have w1 : ∃ Sx, StrRow W a1 len1 Sx ∧ len1 ≤ maxLen ∧ len1 ≤ cap1 := by
    obtain ⟨fuel, hf⟩ := h0
    rcases Go.Deep.open_strs Tryd.underlying28 Tryd.underlying9 cells9 hf with ⟨hcs, _⟩ | ⟨x, l, c, m, Sx, hcs, _, hl, hm, hmm, _, hcells⟩
    · simp [Value.cells] at hcs
      obtain ⟨rfl, rfl, rfl⟩ := hcs
      exact ⟨fun _ => ⟨#[]⟩, .inl rfl, by unfold maxLen; omega, Nat.le_refl _⟩
    · simp [Value.cells] at hcs
      obtain ⟨rfl, rfl, rfl⟩ := hcs
      refine ⟨Sx, ?_, by omega, hl⟩
      by_cases h00 : len1 = 0
      · exact .inl h00
      · have hlm : len1 ≤ m := by rw [hmm]; split <;> omega
        obtain ⟨b, off, spot⟩ := x
        have hspot : spot = none := by
          have h := World.cell?_spot (hcells 0 (by omega)).1
          simpa [Addr.add] using h
        subst hspot
        refine .inr ⟨b, off, rfl, ?_, fun i hi => ?_⟩
        · have h := (hcells 0 (by omega)).1
          rw [Addr.add_mid] at h
          exact World.block_lt_of_cell? W _ h
        · have h := (hcells i (by omega)).1
          rw [Addr.add_mid] at h
          exact h
  obtain ⟨Sx, w1, w2, w3⟩ := w1
  clear hA0 hV0 hval0
  simp only [List.append_nil] at hW'
  refine (walk4 a1 len1 cap1 Sx W w1 w2 (held_of_laid hL) w3).mono ?_
  rintro e W' ⟨rfl, hg⟩
  exact ⟨_, rfl, _, _, _, [], _, [], hW', trodAll_cons_mk (shut_bool Tryd.underlying4 _) trodAll_mk0, (trodAll_cons_mk (Below.trod laidOut (by kernel_rfl) (of_decide_eq_true (by kernel_rfl)) k1 hg lt1) trodAll_mk0), rfl, hg.frame _, fun h => by cases h⟩

theorem holds : Rows.ShaPiecesSaid :=
  OpenClaim.holds_of_cond 4 Tryd.f4 rfl rfl rfl rfl rfl rfl rfl ⟨rfl, rfl, rfl, rfl, rfl⟩ rfl rfl rfl rfl rfl (by kernel_rfl) Tryd.func4 (by kernel_rfl)
    (of_decide_eq_true (by kernel_rfl)) (by unfold Func.isWrapper; first | (rw [if_pos (by decide +kernel)]; kernel_rfl) | (rw [if_neg (of_decide_eq_false (by kernel_rfl))]; exact ⟨rfl, rfl⟩))
    (fun os started H enc _ F0 => by rw [OpenClaim.pre_eq_preRow]; exact lifted os started H enc F0)

/-- The card: the table tied to the program's text. -/
theorem card_holds : Rows.ShaPiecesCardSaid :=
  Claim7.holds_tied_plain_at .later [] [.data] true (true, "79a68dcad377e88d0c63e955265bd1dff131f86c08b17e5d719a2bdb590eb835") false
    holds (fun _ h => by cases h) (by kernel_rfl) (fun _ h => by cases h) shaPieces_row_tie rfl ⟨rfl, rfl⟩ (by kernel_rfl) rfl
    (fun f fn hf hfn => by
      obtain rfl : f = 4 := Option.some.inj ((show Tryd.prog.funcNamed "engross/engrosslaw02.ShaPieces" = some 4 by kernel_rfl).symm.trans hf) |>.symm
      obtain rfl : fn = Tryd.f4 := (Option.some.inj (Tryd.func4.symm.trans hfn)).symm
      exact ⟨by kernel_rfl, fun j t ht => by
        rw [Tryd.params4] at ht
        have h3 : t = 28 := by
          rcases j with _ | j
          · simpa using ht.symm
          · simp at ht
        subst h3
        exact (show Tryd.prog.wantsStandIn 28 = false by kernel_rfl)⟩)
    (by kernel_rfl)
#print axioms card_holds
end Go.Proofs.YtaocchhedplflaaDoor.shaPieces
