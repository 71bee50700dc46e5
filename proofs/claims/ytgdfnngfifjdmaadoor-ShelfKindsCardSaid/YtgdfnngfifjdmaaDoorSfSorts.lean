/- The walk of ShelfSorts, given a contract for each call of the program. -/
import Derived.Test.YtgdfnngfifjdmaaDoorSfLaw
import Derived.BigQuiet
namespace Go.Proofs.YtgdfnngfifjdmaaDoor
open Go.RowKit Base Base2

/-- A row of numbers. -/
def IntsS (W : World) (a : Option Addr) (l : List Int) : Prop := l = [] ∨ ∃ b off, a = some ⟨b, off, none⟩ ∧ b < W.heap.size ∧ ∀ (i : Nat) (z : Int), l[i]? = some z → W.cell? ⟨b, off + i, none⟩ = some (.int .i64 z)
theorem IntsS.below {W W' : World} {a : Option Addr} {l : List Int} (h : IntsS W a l) (hb : Below W.heap.size W W') : IntsS W' a l := by
  rcases h with h | ⟨b, off, rfl, h1, h2⟩
  · exact .inl h
  · exact .inr ⟨b, off, rfl, Nat.lt_of_lt_of_le h1 hb.size, fun i z hi => (hb.cell (p := ⟨b, off + i, none⟩) h1).trans (h2 i z hi)⟩
theorem ints_own {W : World} {base : Nat} {v : Value} {l : List Int} (h : W.ownsRow base 3 1 v l.length (l.map (Value.int .i64))) : ∃ a c, v = .slice a l.length c ∧ IntsS W a l := by
  obtain ⟨h1, h2⟩ := h
  rcases h2 with ⟨rfl, h0⟩ | ⟨g, cap, cur, rfl, a1, a2, a3, a4, a5, a6⟩
  · exact ⟨none, 0, by rw [h0], .inl (List.eq_nil_of_length_eq_zero h0)⟩
  · refine ⟨_, _, rfl, .inr ⟨g, 0, rfl, (Array.getElem?_eq_some_iff.1 a2).1, fun i z hi => ?_⟩⟩
    rw [Nat.zero_add, cell_of_row W g i cur 3 (0, 0) a2, ← Array.getElem?_toList]
    have hil := (List.getElem?_eq_some_iff.1 hi).1
    have h3 : (cur.toList.take (l.length * 1))[i]? = some (.int .i64 z) := by rw [a6, List.getElem?_map, hi]; rfl
    rw [List.getElem?_take, if_pos (by omega)] at h3
    exact h3
/-- How many of the first kinds have files. -/
def cntK (l : List ByteArray) : Nat → Nat
  | 0 => 0
  | k + 1 => cntK l k + (if numsS (k : Int) l = [] then 0 else 1)
theorem cntK_le (l : List ByteArray) : ∀ k, cntK l k ≤ k
  | 0 => Nat.le_refl _
  | k + 1 => by
    have := cntK_le l k
    show cntK l k + _ ≤ _
    split <;> omega
/-- What a map of numbers by kinds answers, in whatever is done behind it. -/
structure SortedAt (W : World) (mv : Value) (l : List ByteArray) : Prop where
  len : ∀ W', Below W.heap.size W W' → ∀ ty, (Builtin.len_ #[32] ty #[mv]).run Tryd.prog W' = .ok (.int .i64 (cntK l 4 : Int)) W'
  look : ∀ k : Nat, k < 4 → ∃ a c, (∀ W', Below W.heap.size W W' → (Instr.lookup 32 mv (.int .i64 (k : Int)) true).run Tryd.prog W' = .ok (.tuple #[.slice a (numsS (k : Int) l).length c, .bool (decide (numsS (k : Int) l ≠ []))]) W') ∧ IntsS W a (numsS (k : Int) l)
/-- A row of files that have names alone. -/
def NameRows (W : World) (a : Option Addr) (l : List ByteArray) : Prop := l = [] ∨ ∃ b off, a = some ⟨b, off, none⟩ ∧ b < W.heap.size ∧ ∀ (i : Nat) (s : ByteArray), l[i]? = some s → W.rangeAt b (off + i * 2) [.string s, .string ⟨#[]⟩]
theorem NameRows.names {W : World} {a : Option Addr} {l : List ByteArray} (h : NameRows W a l) : NamesAt W a l := by
  rcases h with h | ⟨b, off, rfl, h1, h2⟩
  · exact .inl h
  · exact .inr ⟨b, off, rfl, h1, fun i s hi => h2 i s hi 0 _ rfl⟩
/-- What ShelfSorts asks of the program's Sorted. -/
def SortC : Prop := ∀ (a : Option Addr) (c : Nat) (l : List ByteArray) (W : World), NameRows W a l → l.length ≤ 60 → (∀ s ∈ l, s.size ≤ 100) → Calls Tryd.prog 13 #[.slice a l.length c] W fun e w' => ∃ mv, e = .returned mv ∧ SortedAt w' mv l ∧ Below W.heap.size W w'
/-- A row of texts. -/
def TextsAt (W : World) (a : Option Addr) (l : List ByteArray) : Prop := l = [] ∨ ∃ b off, a = some ⟨b, off, none⟩ ∧ b < W.heap.size ∧ ∀ (i : Nat) (s : ByteArray), l[i]? = some s → W.cell? ⟨b, off + i, none⟩ = some (.string s)
def flatN (l : List ByteArray) : List Value := l.flatMap fun s => [Value.string s, Value.string ⟨#[]⟩]
theorem flatN_snoc (l : List ByteArray) (s : ByteArray) : flatN (l ++ [s]) = flatN l ++ [Value.string s, Value.string ⟨#[]⟩] := by simp [flatN]
theorem flatN_at : ∀ (l : List ByteArray) (i : Nat) (s : ByteArray), l[i]? = some s → (flatN l)[i * 2]? = some (.string s)
  | [], i, s, h => by simp at h
  | x :: l, 0, s, h => by simp at h; subst h; rfl
  | x :: l, i + 1, s, h => by
    have ih := flatN_at l i s (by simpa using h)
    rw [show (i + 1) * 2 = i * 2 + 1 + 1 by omega]
    exact ih
theorem flatN_at1 : ∀ (l : List ByteArray) (i : Nat) (s : ByteArray), l[i]? = some s → (flatN l)[i * 2 + 1]? = some (.string ⟨#[]⟩)
  | [], i, s, h => by simp at h
  | x :: l, 0, s, h => by simp at h; subst h; rfl
  | x :: l, i + 1, s, h => by
    have ih := flatN_at1 l i s (by simpa using h)
    rw [show (i + 1) * 2 + 1 = i * 2 + 1 + 1 + 1 by omega]
    exact ih
theorem infoFileS : (Tryd.prog.info? 31).map (fun i => (i.zero, i.size, i.bytes)) = some (some (.agg #[.string ⟨#[]⟩, .string ⟨#[]⟩]), 2, 32) := by kernel_rfl
theorem one_twoS (a b : ByteArray) : ∀ u ∈ [Value.string a, Value.string b], u.oneCell' = true := by
  intro u hu
  rcases List.mem_cons.1 hu with rfl | hu
  · rfl
  · rcases List.mem_cons.1 hu with rfl | hu
    · rfl
    · cases hu
theorem new_twoS (W : World) (a b : Value) (T : TypeId) : ∀ (j : Nat) (u : Value), [a, b][j]? = some u → (W.alloc (.cells #[a, b] T)).cell? ((⟨W.heap.size, 0, none⟩ : Addr).add j) = some u := by
  intro j u hu
  have h := heap_alloc_new W (.cells #[a, b] T)
  rw [Addr.add_mid, cell_of_row _ _ _ _ T (0, 0) h]
  rcases j with _ | _ | j
  · simpa using hu
  · simpa using hu
  · simp at hu
structure FlR (w : World) (out : List ByteArray) (v : Value) (W : World) : Prop where
  own : W.ownsRow w.heap.size 31 2 v out.length (flatN out)
  lo : Below w.heap.size w W
theorem FlR.nil (w W : World) (h : Below w.heap.size w W) : FlR w [] (.slice none 0 0) W := ⟨⟨rfl, .inl ⟨rfl, rfl⟩⟩, h⟩
theorem FlR.app {w W w2 : World} {out : List ByteArray} {v v' : Value} {n : ByteArray} {o : Obj} (h : FlR w out v W) (ho : w2.ownsRow w.heap.size 31 2 v' (out.length + 1) (flatN out ++ [.string n, .string ⟨#[]⟩])) (hg : (W.alloc o).grownBy w2 v.ownBlock) : FlR w (out ++ [n]) v' w2 :=
  ⟨by rw [flatN_snoc, List.length_append]; exact ho, h.lo.grown (World_grown_alloc hg) h.lo.size (own_block_ge h.own)⟩
theorem names_own {W : World} {base : Nat} {v : Value} {l : List ByteArray} (h : W.ownsRow base 31 2 v l.length (flatN l)) : ∃ a c, v = .slice a l.length c ∧ NameRows W a l := by
  obtain ⟨h1, h2⟩ := h
  rcases h2 with ⟨rfl, h0⟩ | ⟨g, cap, cur, rfl, a1, a2, a3, a4, a5, a6⟩
  · exact ⟨none, 0, by rw [h0], .inl (List.eq_nil_of_length_eq_zero h0)⟩
  · refine ⟨_, _, rfl, .inr ⟨g, 0, rfl, (Array.getElem?_eq_some_iff.1 a2).1, fun i s hi j u hu => ?_⟩⟩
    have hil := (List.getElem?_eq_some_iff.1 hi).1
    rw [Nat.zero_add, cell_of_row W g _ cur 31 (0, 0) a2, ← Array.getElem?_toList]
    have h3 : ∀ j, j < 2 → cur.toList[i * 2 + j]? = (flatN l)[i * 2 + j]? := fun j hj => by
      rw [← a6, List.getElem?_take, if_pos (by omega)]
    rcases j with _ | _ | j
    · rw [h3 0 (by omega)]; simp at hu; subst hu; exact flatN_at l i s hi
    · rw [h3 1 (by omega)]; simp at hu; subst hu; exact flatN_at1 l i s hi
    · simp at hu

set_option maxRecDepth 100000 in
set_option maxHeartbeats 8000000 in
theorem sorts5S {K : World → Prop} (C : ShelfC K) (SC : SortC) (a : Option Addr) (n c : Nat) (l : List ByteArray) (w : World) (hK : K w) (hn : l.length = n) (hr : TextsAt w a l) (hl : n ≤ maxLen) : Calls Tryd.prog 5 #[.slice a n c] w fun e w' => e = .returned (.bool true) ∧ Below w.heap.size w w' := by
  subst hn
  obtain ⟨i0, hi0, hz0, hz1, hz2⟩ := info_parts infoFileS
  have HA := Lib.hid (alive6S C w hK)
  unfold maxLen at hl
  by_cases h6 : (60 : Int) < (l.length : Int)
  · clear C SC
    go_enter Tryd.func5, Tryd.ntmps5
    go_wp2_with (go_at_call 6; refine HA.out.mono ?_; rintro e w1 ⟨rfl, hb⟩; have L1 := Lib.hid hb; clear hb)
    go_ret
    exact ⟨rfl, L1.out⟩
  have h6b : l.length ≤ 60 := by omega
  have HSC := Lib.hid SC
  have HR := Lib.hid hr
  clear C SC hr
  go_enter Tryd.func5, Tryd.ntmps5
  go_wp2_with (go_at_call 6; refine HA.out.mono ?_; rintro e w1 ⟨rfl, hb⟩; have L1 := Lib.hid hb; clear hb)
  go_loopw [3, 4] (fun v vi W => ∃ i : Nat, i ≤ l.length ∧ vi = .int .i64 (i : Int) ∧ FlR w (l.take i) v W ∧ ∀ s ∈ l.take i, s.size ≤ 100) (fun _ vi _ => l.length - (intOf vi).toNat)
  case atStart => exact ⟨0, by omega, rfl, FlR.nil w _ L1.out, fun s hs => by simp at hs⟩
  case round =>
    obtain ⟨i, hi, rfl, hfl, hsm⟩ := hrel
    have HF := Lib.hid hfl
    have HSM := Lib.hid hsm
    by_cases hlt : i < l.length
    · obtain ⟨s, hs⟩ : ∃ s, l[i]? = Option.some s := ⟨l[i], by simp [hlt]⟩
      have hrr := HR.out
      rcases hrr with hrr | ⟨b, off, rfl, hbw, hcs⟩
      · rw [hrr] at hlt; simp at hlt
      have c0 := (hfl.lo.cell (p := ⟨b, off + i, none⟩) hbw).trans (hcs i s hs)
      have htk : l.take (i + 1) = l.take i ++ [s] := by rw [List.take_add_one, hs]; rfl
      have HTK := Lib.hid htk
      have hlen : (l.take i).length = i := by rw [List.length_take]; omega
      have b1 : (l.take i).length + 1 ≤ maxLen := by unfold maxLen; omega
      have b2 : ((l.take i).length + 1) * 32 ≤ 140737488355328 := by omega
      clear hcs hfl hsm hs htk hlen
      by_cases h1 : (100 : Int) < (s.size : Int)
      · go_wp2
        go_ret
        exact ⟨rfl, HF.out.lo⟩
      · have hs1 : s.size ≤ 100 := by omega
        go_wp2_with (at_builtin; refine wpList_append_own _ rfl _ _ 29 rfl w.heap.size 31 i0 (.agg #[.string ⟨#[]⟩, .string ⟨#[]⟩]) 2 32 Tryd.underlying29 hi0 hz0 hz1 hz2 rfl (by decide) _ _ _ rfl (HF.out.own.alloc _) ⟨wr.heap.size, 0, none⟩ 1 1 [.string s, .string ⟨#[]⟩] rfl rfl (new_twoS _ _ _ _) (one_twoS _ _) b1 b2 (by have := HF.out.lo.size; simp; omega) ?_; intro v2 w2 hown hgrow _; have HA2 := Lib.hid (HF.out.app hown hgrow); clear hown hgrow)
        go_roundw
        case rel => exact ⟨i + 1, by omega, by go_num, by rw [HTK.out]; exact HA2.out, fun x hx => by rw [HTK.out] at hx; rcases List.mem_append.1 hx with hx | hx; exact HSM.out x hx; simp at hx; subst hx; exact hs1⟩
        case measure => simp [intOf]; omega
    · have hie : i = l.length := by omega
      subst hie
      rw [List.take_length] at HF HSM
      obtain ⟨al, cl, hv, hnr⟩ := names_own HF.out.own
      have hna := hnr.names
      subst hv
      have HNA := Lib.hid hna
      have HS := Lib.hid (HSC.out al cl l wr hnr h6b HSM.out)
      clear hfl hsm hna hnr hlt hi
      go_wp2_with (go_at_call 13; refine HS.out.mono ?_; rintro e w3 ⟨mv, rfl, hso, hb3⟩; have HSO := Lib.hid hso; have HB3 := Lib.hid hb3; clear hso hb3)
      have HLO : Hid (Below w.heap.size w w3) := HF.out.lo.trans (HB3.out.mono HF.out.lo.size)
      have HSM2 := HSM
      clear HF HS HSM
      go_loopw [6, 7] (fun vn vi W => ∃ k : Nat, k ≤ 4 ∧ vi = .int .i64 (k : Int) ∧ vn = .int .i64 (cntK l k : Int) ∧ Below w3.heap.size w3 W) (fun _ vi _ => 4 - (intOf vi).toNat)
      case atStart => exact ⟨0, by omega, rfl, rfl, Below.refl _ _⟩
      case round =>
        obtain ⟨k, hk, rfl, rfl, hbw⟩ := hrel
        have HBW := Lib.hid hbw
        clear hbw
        by_cases hk4 : k < 4
        · have hk4i : (k : Int) < 4 := by omega
          obtain ⟨ag, cg, hlk, hig⟩ := HSO.out.look k hk4
          have hrn := fun W hf => rnums14 al l cl (k : Int) W hf (by omega) (fun s hs => by have := HSM2.out s hs; unfold maxLen; omega)
          have hck : cntK l (k + 1) = cntK l k + (if numsS (k : Int) l = [] then 0 else 1) := rfl
          have hcb : cntK l k ≤ 4 := Nat.le_trans (cntK_le l k) (by omega)
          obtain ⟨NS, hNS⟩ : ∃ x, numsS (k : Int) l = x := ⟨_, rfl⟩
          have hnb := numsS_len (k : Int) l
          rw [hNS] at hlk hig hrn hck hnb
          obtain ⟨CK, hCK⟩ : ∃ x, cntK l k = x := ⟨_, rfl⟩
          rw [hCK] at hck hcb ⊢
          have HRN := Lib.hid hrn
          have HIG := Lib.hid hig
          have HCK := Lib.hid hck
          clear hrn hig hck hNS hCK
          by_cases hns : NS = []
          · subst hns
            have HC1 : Hid (cntK l (k + 1) = CK) := by show _ = _; rw [HCK.out]; simp
            have HLK : Hid (∀ W', Below w3.heap.size w3 W' → (Instr.lookup 32 mv (.int .i64 (k : Int)) true).run Tryd.prog W' = .ok (.tuple #[.slice ag 0 cg, .bool false]) W') := fun W' h => by have := hlk W' h; simpa using this
            clear hlk HCK
            go_wp2_with (go_at_call 14; refine (HRN.out _ (HNA.out.below (bt2 HB3.out HBW.out))).mono ?_; rintro e w4 ⟨⟨v4, rfl, hown⟩, hb4⟩; obtain ⟨aw, cw, hv, hiw⟩ := ints_own hown; subst hv; have HB4 : Hid (Below w3.heap.size w3 w4) := HBW.out.trans (hb4.mono HBW.out.size); have hq4 := HLK.out w4 HB4.out; have HIW := Lib.hid hiw; clear hown hb4 hiw)
            go_loopw [11] (fun vi W => vi = .int .i64 0 ∧ W = w4) (fun _ _ => 0)
            case atStart => exact ⟨rfl, rfl⟩
            case round =>
              obtain ⟨rfl, rfl⟩ := hrel
              go_wp2
              go_roundw
              case rel => exact ⟨k + 1, by omega, by go_num, by rw [HC1.out], HB4.out⟩
              case measure => simp [intOf]; omega
          · have hnl : 0 < NS.length := List.length_pos_iff.2 hns
            have HC1 : Hid (cntK l (k + 1) = CK + 1) := by show _ = _; rw [HCK.out, if_neg hns]
            have HLK : Hid (∀ W', Below w3.heap.size w3 W' → (Instr.lookup 32 mv (.int .i64 (k : Int)) true).run Tryd.prog W' = .ok (.tuple #[.slice ag NS.length cg, .bool true]) W') := fun W' h => by have := hlk W' h; rwa [decide_eq_true hns] at this
            clear hlk HCK hns
            have hni : (0 : Int) < (NS.length : Int) := by omega
            go_wp2_with (go_at_call 14; refine (HRN.out _ (HNA.out.below (bt2 HB3.out HBW.out))).mono ?_; rintro e w4 ⟨⟨v4, rfl, hown⟩, hb4⟩; obtain ⟨aw, cw, hv, hiw⟩ := ints_own hown; subst hv; have HB4 : Hid (Below w3.heap.size w3 w4) := HBW.out.trans (hb4.mono HBW.out.size); have hq4 := HLK.out w4 HB4.out; have HIW := Lib.hid hiw; clear hown hb4 hiw)
            go_loopw [11] (fun vi W => ∃ i : Nat, i ≤ NS.length ∧ vi = .int .i64 (i : Int) ∧ ∃ m, W = w4.drewN m) (fun vi _ => NS.length - (intOf vi).toNat)
            case atStart => exact ⟨0, by omega, rfl, 0, rfl⟩
            case round =>
              obtain ⟨i, hi, rfl, m, hW⟩ := hrel
              have hBW : Below w4.heap.size w4 wr := by rw [hW]; exact below_drews m
              have HW := Lib.hid hW
              have HBN := Lib.hid hBW
              by_cases hlt : i < NS.length
              · obtain ⟨z, hz⟩ : ∃ z, NS[i]? = Option.some z := ⟨NS[i], by simp [hlt]⟩
                have h1 := (HIG.out.below HB4.out).below hBW
                have h2 := HIW.out.below hBW
                rcases h1 with h1 | ⟨b1, o1, rfl, hb1, hc1⟩
                · rw [h1] at hlt; simp at hlt
                rcases h2 with h2 | ⟨b2, o2, rfl, hb2, hc2⟩
                · rw [h2] at hlt; simp at hlt
                have d1 := hc1 i z hz
                have d2 := hc2 i z hz
                clear hc1 hc2 hz hW hBW
                go_upto_region 24 with (fail)
                go_quiet (fail)
                go_wp2
                go_roundw
                case rel => exact ⟨i + 1, by omega, by go_num, m + nq, by rw [HW.out, World.drewN_drewN]⟩
                case measure => simp [intOf]; omega
              · have hie : i = NS.length := by omega
                subst hie
                clear hW hBW hlt hi
                go_wp2
                go_roundw
                case rel => exact ⟨k + 1, by omega, by go_num, by rw [HC1.out]; go_num, HB4.out.trans (HBN.out.mono HB4.out.size)⟩
                case measure => simp [intOf]; omega
        · have hke : k = 4 := by omega
          subst hke
          have hlen := HSO.out.len wr HBW.out
          obtain ⟨CK, hCK⟩ : ∃ x, cntK l 4 = x := ⟨_, rfl⟩
          rw [hCK] at hlen ⊢
          clear hCK hk hk4
          go_wp2
          go_ret
          exact ⟨rfl, HLO.out.trans (HBW.out.mono HLO.out.size)⟩
end Go.Proofs.YtgdfnngfifjdmaaDoor
