/- What is hashed for a row of leaves, as the program tells it: the contracts of digest, ofRows and its closure. -/
import Derived.Test.YtalgailclcefdaaDoorClashMem
import Derived.Test.YtalgailclcefdaaDoorClashMath
import Derived.Test.YtalgailclcefdaaDoorTreeCalls
import Derived.Test.YtalgailclcefdaaDoorTreeAlive
namespace Go.Proofs.YtalgailclcefdaaDoor
open Go.RowKit

theorem hashedS_nil (h : ByteArray → ByteArray) {l : List ByteArray} (hl : l.length = 0) : hashedS h l = ⟨#[]⟩ := by unfold hashedS; rw [if_pos hl]
theorem hashedS_one (h : ByteArray → ByteArray) {l : List ByteArray} (hl : l.length = 1) : hashedS h l = (⟨#[0]⟩ : ByteArray) ++ l.getD 0 ⟨#[]⟩ := by unfold hashedS; rw [if_neg (by omega), if_pos hl]
theorem hashedS_two (h : ByteArray → ByteArray) {l : List ByteArray} (hl : 2 ≤ l.length) : hashedS h l = ((⟨#[1]⟩ : ByteArray) ++ rootS h (l.take (spl l.length))) ++ rootS h (l.drop (spl l.length)) := by
  unfold hashedS; rw [if_neg (by omega), if_neg (by omega)]
theorem hashedS_size (h : ByteArray → ByteArray) (n : Nat) (hn : ∀ s, (h s).size = n) (l : List ByteArray) (z : Nat) (hz : ∀ t ∈ l, t.size ≤ z) : (hashedS h l).size ≤ 1 + z + 2 * n := by
  by_cases e0 : l.length = 0
  · rw [hashedS_nil h e0]; show 0 ≤ _; omega
  · by_cases e1 : l.length = 1
    · rw [hashedS_one h e1, ByteArray.size_append]
      obtain ⟨t, rfl⟩ := List.length_eq_one_iff.1 e1
      have := hz t (by simp)
      show 1 + t.size ≤ _
      omega
    · rw [hashedS_two h (by omega), ByteArray.size_append, ByteArray.size_append, rootS_size h n hn, rootS_size h n hn]
      show 1 + n + n ≤ _
      omega

theorem digest30 (s : ByteArray) (n : Nat) (w : World) (h0 : 1 ≤ n) (h1 : n ≤ 32) (hs : s.size ≤ 800000) (hK : KHeld w) :
    Calls Tryd.prog 30 #[.string s, .int .i64 (n : Int)] w fun e w' => e = .returned (.string (cutH n s)) ∧ Below w.heap.size w w' := by
  have HC := Lib.hid (cut_yes s n w h0 h1 hs hK)
  rw [show (digS s).extract 0 n = cutH n s from rfl] at HC
  generalize cutH n s = D at *
  clear hK
  go_enter Tryd.func30, Tryd.ntmps30
  go_wp2_with (go_at_call 45; refine HC.out.mono ?_; rintro e w1 ⟨rfl, hb1⟩; have HB1 := Lib.hid hb1; clear hb1)
  go_ret
  exact ⟨rfl, HB1.out⟩

theorem cell_alloc1 (W : World) (v : Value) (T : TypeId) : (W.alloc (.cells #[v] T)).cell? ⟨W.heap.size, 0, none⟩ = some v := by
  rw [cell_of_row _ _ _ _ T (0, 0) (heap_alloc_new W _)]; rfl
theorem ofRows18 (a : Value) (n : Int) (w : World) :
    Calls Tryd.prog 18 #[a, .int .i64 n] w fun e w' => e = .returned (.func (.func 33) #[] #[.pointer (some ⟨w.heap.size, 0, none⟩)]) ∧ w'.cell? ⟨w.heap.size, 0, none⟩ = some (.int .i64 n) ∧ w.heap.size < w'.heap.size ∧ Below w.heap.size w w' := by
  go_enter Tryd.func18, Tryd.ntmps18
  go_wp2
  go_ret
  exact ⟨rfl, cell_alloc1 w _ _, by simp, (Below.refl _ w).alloc (Nat.le_refl _) _⟩

theorem own_made {W : World} {g : Nat} {x : Value} {B : Nat} (h : W.heap[g]? = some (.cells #[x] 9 (0, 0))) (hB : B ≤ g) : W.ownsRow B 9 1 (.slice (some ⟨g, 0, none⟩) 1 1) 1 [x] :=
  ⟨rfl, .inr ⟨g, 1, #[x], rfl, hB, h, Nat.le_refl _, by unfold maxLen; omega, rfl, rfl⟩⟩
theorem own_ne {W : World} {B n k : Nat} {v : Value} {xs : List Value} {cs : Array Value} {T : TypeId} (h : W.ownsRow B 9 1 v n xs) (hk : W.heap[k]? = some (.cells cs T (0, 0))) (hT : T ≠ 9) : some k ≠ v.ownBlock := by
  rcases h.2 with ⟨rfl, _⟩ | ⟨g, cap, cur, rfl, _, hg, _⟩
  · simp [Value.ownBlock]
  · rintro e
    simp [Value.ownBlock] at e
    subst e
    rw [hg] at hk
    simp only [Option.some.injEq, Obj.cells.injEq] at hk
    exact hT hk.2.1.symm

set_option maxRecDepth 100000 in
set_option maxHeartbeats 1000000 in
theorem hashed33 (n : Nat) (h0 : 1 ≤ n) (h1 : n ≤ 32) (m : Nat) (l : List ByteArray) (a : Option Addr) (cap g : Nat) (w : World) (hl : l.length = m) (hm : m ≤ 4096) (hz : ∀ t ∈ l, t.size ≤ 700000) (hr : StrsAt w a l) (hcap : m ≤ cap) (hK : KHeld w)
    (hg : w.cell? ⟨g, 0, none⟩ = some (.int .i64 (n : Int))) :
    Calls Tryd.prog 33 #[.slice a m cap, .pointer (some ⟨g, 0, none⟩)] w fun e w' => e = .returned (.string (hashedS (cutH n) l)) ∧ Below w.heap.size w w' := by
  by_cases e0 : m = 0
  · subst e0
    rw [hashedS_nil _ hl]
    clear hr hK hg hz
    go_enter Tryd.func33, Tryd.ntmps33
    go_wp2
    go_ret
    exact ⟨rfl, Below.refl _ _⟩
  · by_cases e1 : m = 1
    · subst e1
      rw [hashedS_one _ hl]
      obtain ⟨t, ht⟩ : ∃ t, l = [t] := List.length_eq_one_iff.1 hl
      subst ht
      have hts := hz t (by simp)
      obtain ⟨b, off, rfl, hbw, hcell⟩ := hr.some (by simp)
      have c1 := hcell 0 t rfl
      rw [Nat.add_zero] at c1
      rw [show [t].getD 0 ⟨#[]⟩ = t from rfl]
      have HJ := Lib.hid (fun (W : World) (hs : StrsAt W (some ⟨w.heap.size, 0, none⟩) [⟨#[0]⟩, t]) => joined34 w.heap.size 0 [⟨#[0]⟩, t] 2 2 W rfl (by omega) (by omega) hs (by rw [catS_two, ByteArray.size_append]; show 1 + t.size ≤ _; omega) (by omega))
      rw [catS_two] at HJ
      generalize (⟨#[0]⟩ : ByteArray) ++ t = D at *
      have HN := Lib.hid (show StrsAt (w.alloc (.cells #[.string ⟨#[0]⟩, .string t] 9)) (some ⟨w.heap.size, 0, none⟩) [⟨#[0]⟩, t] from strs_new w [⟨#[0]⟩, t])
      have HB := Lib.hid ((Below.refl w.heap.size w).alloc (Nat.le_refl _) (.cells #[.string ⟨#[0]⟩, .string t] 9))
      clear hr hK hcell hg
      go_enter Tryd.func33, Tryd.ntmps33
      go_wp2_with (go_at_call 34; refine (HJ.out _ HN.out).mono ?_; rintro e w1 ⟨rfl, hb1⟩; have HB1 := Lib.hid (bt2 HB.out hb1); clear hb1)
      go_ret
      exact ⟨rfl, HB1.out⟩
    · have h2 : 2 ≤ m := by omega
      rw [hashedS_two _ (by omega), hl]
      obtain ⟨b, off, rfl, hbw, hcell⟩ := hr.some (by omega)
      clear hcell
      have p1 := spl_pos h2
      have p2 := spl_lt h2
      obtain ⟨i0, hi, hz0, hz1, hz2⟩ := info_parts info9
      have HS := Lib.hid (fun W => sides19 b off m cap W h2 (by omega) hcap)
      have HI1 := Lib.hid (fun (W : World) (hb : Below w.heap.size w W) => root8 (some ⟨b, off, none⟩) (l.take (spl m)) (spl m) cap n W (by simp; omega) (by omega) h0 h1 (mem_take' hz) ((hr.take (spl m)).below hb) (by omega) (KHeld_of hK hb))
      have HI2 := Lib.hid (fun (W : World) (hb : Below w.heap.size w W) => root8 (some ⟨b, off + spl m, none⟩) (l.drop (spl m)) (m - spl m) (cap - spl m) n W (by simp; omega) (by omega) h0 h1 (mem_drop' hz) ((hr.drop (spl m)).below hb) (by omega) (KHeld_of hK hb))
      have s1 := rootS_size (cutH n) n (cutH_size n h1) (l.take (spl m))
      have s2 := rootS_size (cutH n) n (cutH_size n h1) (l.drop (spl m))
      generalize rootS (cutH n) (l.take (spl m)) = R1 at *
      generalize rootS (cutH n) (l.drop (spl m)) = R2 at *
      have HZ := Lib.hid (show (catS [⟨#[1]⟩, R1, R2]).size ≤ 100000000 by rw [catS_three, ByteArray.size_append, ByteArray.size_append, s1, s2]; show 1 + n + n ≤ _; omega)
      rw [← catS_three]
      generalize hD : catS [⟨#[1]⟩, R1, R2] = D at *
      have HD := Lib.hid hD
      clear hD
      generalize spl m = s at *
      have HG := Lib.hid hg
      have b0 : ((m : Int) == 0) = false := by simpa using e0
      have b1 : ((m : Int) == 1) = false := by simp; omega
      have HGL := Lib.hid (World.block_lt_of_cell? w _ hg)
      obtain ⟨B, hB⟩ : ∃ B, B = w.heap.size := ⟨_, rfl⟩
      have HO0 := Lib.hid (own_made (B := B) (heap_alloc_new w (.cells #[.string ⟨#[1]⟩] 9)) (by omega))
      have HB0 := Lib.hid ((Below.refl w.heap.size w).alloc (Nat.le_refl _) (.cells #[.string ⟨#[1]⟩] 9))
      clear hr hK hz hl s1 s2 hg
      go_enter Tryd.func33, Tryd.ntmps33
      go_upto_region 8 with (go_at_call 19; refine (HS.out _).mono ?_; rintro e w1 ⟨k, rfl, hk, hck, hb1⟩; have HK := Lib.hid hk; have HCK := Lib.hid hck; have HB1 := Lib.hid (bt2 HB0.out hb1); have HO1 := Lib.hid (own_below HO0.out hb1); clear hk hck hb1)
      go_loopw [4, 24] (fun vp vi W => ∃ (i : Nat), i ≤ 2 ∧ vi = .int .i64 (i : Int) ∧ W.ownsRow B 9 1 vp (i + 1) (([⟨#[1]⟩, R1, R2].take (i + 1)).map Value.string) ∧
          W.heap[k]? = some (.cells #[.slice (some ⟨b, off, none⟩) s cap, .slice (some ⟨b, off + s, none⟩) (m - s) (cap - s)] 22 (0, 0)) ∧ Below w.heap.size w W) (fun _ vi _ => 2 - (intOf vi).toNat)
      case atStart => exact ⟨0, by omega, rfl, by rw [hB] at *; exact HO1.out, HCK.out, HB1.out⟩
      case round =>
        obtain ⟨i, hi2, rfl, ho, hkc, hb⟩ := hrel
        have HO := Lib.hid ho; have HKC := Lib.hid hkc; have HBR := Lib.hid hb
        have ckc := fun i => cell_of_row _ k i _ 22 (0, 0) hkc
        have c0 : wr.cell? ⟨k, 0, none⟩ = some (.slice (some ⟨b, off, none⟩) s cap) := ckc 0
        have c1 : wr.cell? ⟨k, 1, none⟩ = some (.slice (some ⟨b, off + s, none⟩) (m - s) (cap - s)) := ckc 1
        clear ho hkc hb ckc
        by_cases i0e : i = 0
        · subst i0e
          have cg := (HBR.out.cell (p := ⟨g, 0, none⟩) HGL.out).trans HG.out
          clear c1
          go_wp2_with (first
            | (go_at_call 35; refine (HI1.out _ HBR.out).mono ?_; rintro e w2 ⟨rfl, hb2⟩; have HB2 := Lib.hid (bt2 HBR.out hb2); have HO2 := Lib.hid (own_below HO.out hb2); have HK2 := Lib.hid ((hb2.block k (lt_of_block HKC.out)).trans HKC.out); clear hb2)
            | (at_builtin; refine wpList_append_own _ rfl _ _ 22 rfl B 9 i0 (.string ⟨#[]⟩) 1 16 Tryd.underlying22 hi hz0 hz1 hz2 rfl (by decide) _ _ _ rfl (HO2.out.alloc _) ⟨w2.heap.size, 0, none⟩ 1 1 [.string R1] rfl rfl (new_one _ _ _) (one_cell_str _) (by unfold maxLen; omega) (by omega) (by have := HB2.out.size; simp; omega) ?_; intro v' w3 hown' hgrow _; have HO3 := Lib.hid hown'; have HG3 := Lib.hid hgrow; clear hown' hgrow))
          go_roundw
          case rel => exact ⟨1, by omega, rfl, HO3.out, (HG3.out.block k (by have := lt_of_block HK2.out; simp; omega) (own_ne HO2.out HK2.out (by decide))).trans ((Below.heap_alloc _ _ _ (lt_of_block HK2.out)).trans HK2.out), HB2.out.grown (World_grown_alloc HG3.out) HB2.out.size (fun k hk => by have := own_block_ge HO2.out k hk; omega)⟩
          case measure => simp [intOf]
        · by_cases i1e : i = 1
          · subst i1e
            have cg := (HBR.out.cell (p := ⟨g, 0, none⟩) HGL.out).trans HG.out
            clear c0
            go_wp2_with (first
              | (go_at_call 35; refine (HI2.out _ HBR.out).mono ?_; rintro e w2 ⟨rfl, hb2⟩; have HB2 := Lib.hid (bt2 HBR.out hb2); have HO2 := Lib.hid (own_below HO.out hb2); have HK2 := Lib.hid ((hb2.block k (lt_of_block HKC.out)).trans HKC.out); clear hb2)
              | (at_builtin; refine wpList_append_own _ rfl _ _ 22 rfl B 9 i0 (.string ⟨#[]⟩) 1 16 Tryd.underlying22 hi hz0 hz1 hz2 rfl (by decide) _ _ _ rfl (HO2.out.alloc _) ⟨w2.heap.size, 0, none⟩ 1 1 [.string R2] rfl rfl (new_one _ _ _) (one_cell_str _) (by unfold maxLen; omega) (by omega) (by have := HB2.out.size; simp; omega) ?_; intro v' w3 hown' hgrow _; have HO3 := Lib.hid hown'; have HG3 := Lib.hid hgrow; clear hown' hgrow))
            go_roundw
            case rel => exact ⟨2, by omega, rfl, HO3.out, (HG3.out.block k (by have := lt_of_block HK2.out; simp; omega) (own_ne HO2.out HK2.out (by decide))).trans ((Below.heap_alloc _ _ _ (lt_of_block HK2.out)).trans HK2.out), HB2.out.grown (World_grown_alloc HG3.out) HB2.out.size (fun k hk => by have := own_block_ge HO2.out k hk; omega)⟩
            case measure => simp [intOf]
          · have : i = 2 := by omega
            subst this
            clear c0 c1
            have ho3 : wr.ownsRow B 9 1 u4 [⟨#[1]⟩, R1, R2].length (([⟨#[1]⟩, R1, R2] : List ByteArray).map Value.string) := HO.out
            obtain ⟨a3, c3, hv3, hc3, _, hs3⟩ := strs_of_own ho3
            obtain ⟨b3, o3, rfl, _, _⟩ := hs3.some (by simp)
            subst hv3
            have HJ := Lib.hid (joined34 b3 o3 [⟨#[1]⟩, R1, R2] 3 c3 wr rfl (by omega) hc3 hs3 (by rw [HD.out]; exact HZ.out) (by omega))
            rw [HD.out] at HJ
            clear ho3 hc3 hs3
            go_wp2_with (go_at_call 34; refine HJ.out.mono ?_; rintro e w4 ⟨rfl, hb4⟩; have HB4 := Lib.hid (bt2 HBR.out hb4); clear hb4)
            go_ret
            exact ⟨rfl, HB4.out⟩
end Go.Proofs.YtalgailclcefdaaDoor
