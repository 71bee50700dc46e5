/- The walk of the law TreeRoots. -/
import Derived.Test.YtgpebamadhabnaaDoorTreeAlive
namespace Go.Proofs.YtgpebamadhabnaaDoor
open Go.RowKit

/-- The key lies in a variable. -/
def KeyG (w : World) (g : Nat) (kc : Array Value) (W : World) : Prop := W.heap[g]? = some (.cells kc 34 (0, 0)) ∧ Below w.heap.size w W ∧ w.heap.size ≤ g ∧ g < W.heap.size
theorem KeyG.below {w W W' : World} {g : Nat} {kc : Array Value} (h : KeyG w g kc W) (hb : Below W.heap.size W W') : KeyG w g kc W' :=
  ⟨(hb.block _ h.2.2.2).trans h.1, bt2 h.2.1 hb, h.2.2.1, Nat.lt_of_lt_of_le h.2.2.2 hb.size⟩
theorem KeyG.drews {w W : World} {g : Nat} {kc : Array Value} (h : KeyG w g kc W) (m : Nat) : KeyG w g kc (W.drewN m) := h.below (below_drews m)
theorem key_made {w w1 : World} {Z kc : Array Value} (hb : Below w.heap.size w w1) : KeyG w w1.heap.size kc ((w1.alloc (.cells Z 34)).setRow w1.heap.size kc) :=
  ⟨setRow_heap _ _ _ _ 34 (0, 0) (heap_alloc_new w1 _), below_row1 (hb.alloc hb.size _) hb.size, hb.size, by simp⟩

theorem wpList_load_rowG {P : Program} {ops : Array Oper} {rest : List Oper} {o : Oper} {a : Act} {w : World} {Q : Exit → Act → World → Prop} (hw : Region.wanted o (yielded ops a.tmps) = true) (ty : TypeId) (x : Operand) (ho : o.op = .load ty x)
    (g : Nat) (hx : a.eval x = .pointer (some ⟨g, 0, none⟩)) (t : TypeId) (cs : Array Value) (fr : Nat × Nat) (d : TypeDesc) (hg : w.heap[g]? = some (.cells cs t fr))
    (hu : P.underlying ty = some d) (hd : (match d with | .struct _ | .array _ _ => true | _ => false) = true) (hi : (P.info? ty).map (·.size) = some cs.size)
    (h : wpList P ops Q rest (a.put o.dst (.agg cs)) w) : wpList P ops Q (o :: rest) a w :=
  BigFrame.wpList_want hw fun _ hK => wp_load_row ty x ho g hx t cs fr d hg hu hd hi (hK _ _ h)

set_option maxRecDepth 100000 in
set_option maxHeartbeats 2000000 in
theorem walk3 (a : Option Addr) (m cap : Nat) (l : List ByteArray) (k n : Int) (w : World) (hl : l.length = m) (hr : StrsAt w a l) (_hm : m ≤ maxLen) (hcap : m ≤ cap) (hK : KHeld w) :
    Calls Tryd.prog 3 #[.slice a m cap, .int .i64 k, .int .i64 n] w fun e w' => e = .returned (.bool true) ∧ Below w.heap.size w w' := by
  have HAL := Lib.hid (alive6t w hK)
  have HGR := Lib.hid (show ∀ W, Below w.heap.size w W → Calls Tryd.prog 7 #[.slice a m cap] W fun e w' => e = .returned (.bool (greatS l)) ∧ W = w' from fun W hb => by
    have := great7 a l cap W (hr.below hb) (by omega)
    rwa [hl] at this)
  by_cases hfar : 4096 < m
  · have hg : greatS l = true := greatS_far (by omega)
    rw [hg] at HGR
    have f1 : ¬ (m : Int) ≤ 4096 := by omega
    have f2 : (m : Int) > 4096 := by omega
    by_cases hn : 1 ≤ n ∧ n ≤ 32
    · have he := refS_many (len := m) hn hfar
      have HR := Lib.hid (fun W => root8_no a m cap n 4 W he (by omega))
      have HP := Lib.hid (fun W => proof9_no a m cap k n 4 W he (by omega))
      obtain ⟨n1, n2⟩ := hn
      have n3 : ¬ n < 1 := by omega
      have n4 : ¬ n > 32 := by omega
      clear hr hK he hg hl
      go_enter Tryd.func3, Tryd.ntmps3
      go_wp2_with (first
        | (go_at_call 6; refine HAL.out.mono ?_; rintro e w1 ⟨rfl, hb1⟩; have HB1 := Lib.hid hb1; clear hb1)
        | (go_at_call 7; refine (HGR.out _ HB1.out).mono ?_; rintro e w' ⟨rfl, rfl⟩)
        | (go_at_call 8; refine (HR.out _).mono ?_; rintro e w' ⟨rfl, rfl⟩)
        | (go_at_call 9; refine (HP.out _).mono ?_; rintro e w' ⟨rfl, rfl⟩))
      go_ret
      exact ⟨rfl, HB1.out⟩
    · have he := refS_arg (len := m) hn
      have HR := Lib.hid (fun W => root8_no a m cap n 1 W he (by omega))
      have HP := Lib.hid (fun W => proof9_no a m cap k n 1 W he (by omega))
      clear hr hK he hg hl
      by_cases n1 : n < 1
      · clear hn
        go_enter Tryd.func3, Tryd.ntmps3
        go_wp2_with (first
          | (go_at_call 6; refine HAL.out.mono ?_; rintro e w1 ⟨rfl, hb1⟩; have HB1 := Lib.hid hb1; clear hb1)
          | (go_at_call 7; refine (HGR.out _ HB1.out).mono ?_; rintro e w' ⟨rfl, rfl⟩)
          | (go_at_call 8; refine (HR.out _).mono ?_; rintro e w' ⟨rfl, rfl⟩)
          | (go_at_call 9; refine (HP.out _).mono ?_; rintro e w' ⟨rfl, rfl⟩))
        go_ret
        exact ⟨rfl, HB1.out⟩
      · have n2 : n > 32 := by omega
        clear hn
        go_enter Tryd.func3, Tryd.ntmps3
        go_wp2_with (first
          | (go_at_call 6; refine HAL.out.mono ?_; rintro e w1 ⟨rfl, hb1⟩; have HB1 := Lib.hid hb1; clear hb1)
          | (go_at_call 7; refine (HGR.out _ HB1.out).mono ?_; rintro e w' ⟨rfl, rfl⟩)
          | (go_at_call 8; refine (HR.out _).mono ?_; rintro e w' ⟨rfl, rfl⟩)
          | (go_at_call 9; refine (HP.out _).mono ?_; rintro e w' ⟨rfl, rfl⟩))
        go_ret
        exact ⟨rfl, HB1.out⟩
  · cases hg : greatS l
    · rw [hg] at HGR
      obtain ⟨g40, g200⟩ := greatS_no hg
      have f1 : (m : Int) ≤ 4096 := by omega
      have f2 : ¬ (m : Int) > 4096 := by omega
      by_cases hn : 1 ≤ n ∧ n ≤ 32
      · obtain ⟨n1, n2⟩ := hn
        obtain ⟨N, rfl⟩ : ∃ N : Nat, n = (N : Int) := ⟨n.toNat, by omega⟩
        have n3 : ¬ (N : Int) < 1 := by omega
        have n4 : ¬ (N : Int) > 32 := by omega
        have HR := Lib.hid (fun (W : World) (hb : Below w.heap.size w W) => root8 a l m cap N W hl (by omega) (by omega) (by omega) (fun t ht => by have := g200 t ht; omega) (hr.below hb) hcap (KHeld_of hK hb))
        have HRR := Lib.hid (fun (W : World) (hb : Below w.heap.size w W) => root11 N (by omega) m l a cap W hl (by omega) (fun t ht => by have := g200 t ht; omega) (hr.below hb) hcap)
        obtain ⟨R, hR⟩ : ∃ R, rootS (cutH N) l = R := ⟨_, rfl⟩
        rw [hR] at HR HRR
        have hz : ∃ Z : Array Value, Z.size = 72 ∧ ∀ W, (zeroValue 34).run Tryd.prog W = .ok (.agg Z) W := ⟨_, by rw [Array.size_replicate], zero33⟩
        obtain ⟨Z, hZs, hZ⟩ := hz
        have HI := Lib.hid (show (Tryd.prog.info? 34).map (·.size) = some keyCells.size by rw [key_size]; exact info33)
        have HZS := Lib.hid (show keyCells.size = Z.size by rw [key_size, hZs])
        have h1c := key_one
        have HMK := Lib.hid (fun W => makeKey11 W)
        by_cases hk : k < 0 ∨ (m : Int) ≤ k
        · have HP := Lib.hid (fun W => proof9_range a m cap k N W (refS_ok (by omega) (by omega)) hk)
          generalize keyCells = kc at *
          clear hr hK hg hl hR hZs
          by_cases k1 : k < 0
          · clear hk
            go_enter Tryd.func3, Tryd.ntmps3
            go_upto_region 12 with (first
              | (go_at_call 6; refine HAL.out.mono ?_; rintro e w1 ⟨rfl, hb1⟩; have HB1 := Lib.hid hb1; clear hb1)
              | (go_at_call 7; refine (HGR.out _ HB1.out).mono ?_; rintro e w' ⟨rfl, rfl⟩)
              | (go_at_call 8; refine (HR.out _ HB1.out).mono ?_; rintro e w2 ⟨rfl, hb2⟩; have HB2 := Lib.hid (bt2 HB1.out hb2); clear hb2)
              | (go_at_call 9; refine (HP.out _).mono ?_; rintro e w' ⟨rfl, rfl⟩)
              | (go_at_call 10; refine (HMK.out _).mono ?_; rintro e w3 ⟨rfl, hb3⟩; have HB3 := Lib.hid (bt2 HB2.out hb3); clear hb3)
              | (refine wpList_store_row rfl 34 (.tmp 11) (.tmp 73) rfl w3.heap.size kc rfl rfl 34 Z (heap_alloc_new w3 _) HI.out HZS.out.symm h1c ?_))
            refine at_world (Φ := KeyG w w3.heap.size kc) (key_made HB3.out) ?_
            rintro W hW
            have HW := Lib.hid hW
            clear hW
            go_wp2_with (first
              | (refine wpList_load_rowG (by rfl) 34 (.tmp 11) rfl w3.heap.size rfl 34 kc (0, 0) _ HW.out.1 Tryd.underlying34 rfl HI.out ?_)
              | (go_at_call 11; refine (HRR.out _ HW.out.2.1).mono ?_; rintro e w4 ⟨rfl, hb4⟩; have HB4 := Lib.hid (bt2 HW.out.2.1 hb4); clear hb4))
            go_ret
            exact ⟨rfl, HB4.out⟩
          · have k2 : (m : Int) ≤ k := by omega
            clear hk
            go_enter Tryd.func3, Tryd.ntmps3
            go_upto_region 12 with (first
              | (go_at_call 6; refine HAL.out.mono ?_; rintro e w1 ⟨rfl, hb1⟩; have HB1 := Lib.hid hb1; clear hb1)
              | (go_at_call 7; refine (HGR.out _ HB1.out).mono ?_; rintro e w' ⟨rfl, rfl⟩)
              | (go_at_call 8; refine (HR.out _ HB1.out).mono ?_; rintro e w2 ⟨rfl, hb2⟩; have HB2 := Lib.hid (bt2 HB1.out hb2); clear hb2)
              | (go_at_call 9; refine (HP.out _).mono ?_; rintro e w' ⟨rfl, rfl⟩)
              | (go_at_call 10; refine (HMK.out _).mono ?_; rintro e w3 ⟨rfl, hb3⟩; have HB3 := Lib.hid (bt2 HB2.out hb3); clear hb3)
              | (refine wpList_store_row rfl 34 (.tmp 11) (.tmp 73) rfl w3.heap.size kc rfl rfl 34 Z (heap_alloc_new w3 _) HI.out HZS.out.symm h1c ?_))
            refine at_world (Φ := KeyG w w3.heap.size kc) (key_made HB3.out) ?_
            rintro W hW
            have HW := Lib.hid hW
            clear hW
            go_wp2_with (first
              | (refine wpList_load_rowG (by rfl) 34 (.tmp 11) rfl w3.heap.size rfl 34 kc (0, 0) _ HW.out.1 Tryd.underlying34 rfl HI.out ?_)
              | (go_at_call 11; refine (HRR.out _ HW.out.2.1).mono ?_; rintro e w4 ⟨rfl, hb4⟩; have HB4 := Lib.hid (bt2 HW.out.2.1 hb4); clear hb4))
            go_ret
            exact ⟨rfl, HB4.out⟩
        · obtain ⟨q, rfl⟩ : ∃ q : Nat, k = (q : Int) := ⟨k.toNat, by omega⟩
          have hq : q < m := by omega
          have k1 : ¬ (q : Int) < 0 := by omega
          have k2 : ¬ (m : Int) ≤ (q : Int) := by omega
          have HP := Lib.hid (fun (W : World) (hb : Below w.heap.size w W) => proof9 a l m cap q N W hl (by omega) hq (by omega) (by omega) (fun t ht => by have := g200 t ht; omega) (hr.below hb) hcap (KHeld_of hK hb))
          have HPR := Lib.hid (fun (W : World) (hb : Below w.heap.size w W) => proof13 N (by omega) m l a cap q W hl (by omega) hq (fun t ht => by have := g200 t ht; omega) (hr.below hb) hcap)
          have hQl := proofS_len_le (cutH N) N (cutH_size N (by omega)) l q (by omega)
          obtain ⟨Q, hQ⟩ : ∃ Q, proofS (cutH N) l q = Q := ⟨_, rfl⟩
          rw [hQ] at HP HPR hQl
          have HQL := Lib.hid (show Q.length ≤ 60000 by omega)
          generalize keyCells = kc at *
          clear hr hK hg hl hR hZs hk hQ hQl
          go_enter Tryd.func3, Tryd.ntmps3
          go_upto_region 12 with (first
            | (go_at_call 6; refine HAL.out.mono ?_; rintro e w1 ⟨rfl, hb1⟩; have HB1 := Lib.hid hb1; clear hb1)
            | (go_at_call 7; refine (HGR.out _ HB1.out).mono ?_; rintro e w' ⟨rfl, rfl⟩)
            | (go_at_call 8; refine (HR.out _ HB1.out).mono ?_; rintro e w2 ⟨rfl, hb2⟩; have HB2 := Lib.hid (bt2 HB1.out hb2); clear hb2)
            | (go_at_call 9; refine (HP.out _ HB2.out).mono ?_; rintro e w5 ⟨v, rfl, ho5, hb5⟩; have HO5 := Lib.hid ho5; have HB5 := Lib.hid (bt2 HB2.out hb5); clear hb5 ho5)
            | (go_at_call 10; refine (HMK.out _).mono ?_; rintro e w3 ⟨rfl, hb3⟩; have HO3 := Lib.hid (own_below HO5.out hb3); have HB3 := Lib.hid (bt2 HB5.out hb3); clear hb3)
            | (refine wpList_store_row rfl 34 (.tmp 11) (.tmp 73) rfl w3.heap.size kc rfl rfl 34 Z (heap_alloc_new w3 _) HI.out HZS.out.symm h1c ?_))
          refine at_world (Φ := fun W => KeyG w w3.heap.size kc W ∧ W.ownsRow w2.heap.size 9 1 v Q.length (Q.map Value.string)) ⟨key_made HB3.out, ?_⟩ ?_
          · refine own_below HO3.out ?_
            exact below_row1 ((Below.refl _ w3).alloc (Nat.le_refl _) _) (Nat.le_refl _)
          rintro W ⟨hW, hO⟩
          obtain ⟨ap, cp, hv, hcp, _, hsp⟩ := strs_of_own hO
          subst hv
          have HW := Lib.hid hW; have HSP := Lib.hid hsp; have HCP := Lib.hid hcp
          clear hW hO hsp hcp
          go_wp2_with (first
            | (refine wpList_load_rowG (by rfl) 34 (.tmp 11) rfl w3.heap.size rfl 34 kc (0, 0) _ HW.out.1 Tryd.underlying34 rfl HI.out ?_)
            | (refine wpList_load_rowG (by rfl) 34 (.tmp 11) rfl w3.heap.size rfl 34 kc (0, 0) _ HW4.out.1 Tryd.underlying34 rfl HI.out ?_)
            | (go_at_call 11; refine (HRR.out _ HW.out.2.1).mono ?_; rintro e w4 ⟨rfl, hb4⟩; have HW4 := Lib.hid (HW.out.below hb4); have HSP4 := Lib.hid (HSP.out.below hb4); clear hb4)
            | (go_at_call 13; refine (HPR.out _ HW4.out.2.1).mono ?_; rintro e w6 ⟨v6, rfl, ho6, hb6⟩; obtain ⟨a6, c6, hv6, hc6, _, hs6⟩ := strs_of_own ho6; subst hv6; have HW6 := Lib.hid (HW4.out.below hb6); have HSP6 := Lib.hid (HSP4.out.below hb6); have HS6 := Lib.hid hs6; clear hb6 ho6 hs6)
            | (go_at_call 12; refine (same12 _ _ Q _ _ _ HSP6.out HS6.out HQL.out).mono ?_; rintro e w7 ⟨rfl, d7, rfl⟩))
          go_ret
          exact ⟨rfl, below_drewN' HW6.out.2.1 _⟩
      · have he := refS_arg (len := m) hn
        have HR := Lib.hid (fun W => root8_no a m cap n 1 W he (by omega))
        have HP := Lib.hid (fun W => proof9_no a m cap k n 1 W he (by omega))
        clear hr hK he hg hl
        by_cases n1 : n < 1
        · clear hn
          go_enter Tryd.func3, Tryd.ntmps3
          go_wp2_with (first
            | (go_at_call 6; refine HAL.out.mono ?_; rintro e w1 ⟨rfl, hb1⟩; have HB1 := Lib.hid hb1; clear hb1)
            | (go_at_call 7; refine (HGR.out _ HB1.out).mono ?_; rintro e w' ⟨rfl, rfl⟩)
            | (go_at_call 8; refine (HR.out _).mono ?_; rintro e w' ⟨rfl, rfl⟩)
            | (go_at_call 9; refine (HP.out _).mono ?_; rintro e w' ⟨rfl, rfl⟩))
          go_ret
          exact ⟨rfl, HB1.out⟩
        · have n2 : n > 32 := by omega
          clear hn
          go_enter Tryd.func3, Tryd.ntmps3
          go_wp2_with (first
            | (go_at_call 6; refine HAL.out.mono ?_; rintro e w1 ⟨rfl, hb1⟩; have HB1 := Lib.hid hb1; clear hb1)
            | (go_at_call 7; refine (HGR.out _ HB1.out).mono ?_; rintro e w' ⟨rfl, rfl⟩)
            | (go_at_call 8; refine (HR.out _).mono ?_; rintro e w' ⟨rfl, rfl⟩)
            | (go_at_call 9; refine (HP.out _).mono ?_; rintro e w' ⟨rfl, rfl⟩))
          go_ret
          exact ⟨rfl, HB1.out⟩
    · rw [hg] at HGR
      have f1 : (m : Int) ≤ 4096 := by omega
      clear hr hK hg hl
      go_enter Tryd.func3, Tryd.ntmps3
      go_wp2_with (first
        | (go_at_call 6; refine HAL.out.mono ?_; rintro e w1 ⟨rfl, hb1⟩; have HB1 := Lib.hid hb1; clear hb1)
        | (go_at_call 7; refine (HGR.out _ HB1.out).mono ?_; rintro e w' ⟨rfl, rfl⟩))
      go_ret
      exact ⟨rfl, HB1.out⟩
end Go.Proofs.YtgpebamadhabnaaDoor
