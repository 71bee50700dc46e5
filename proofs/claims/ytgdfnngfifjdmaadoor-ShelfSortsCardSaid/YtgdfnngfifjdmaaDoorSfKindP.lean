/- The program's Kind: a range over a name's letters. -/
import Derived.Test.YtgdfnngfifjdmaaDoorSfScan
import Derived.Laws.RangeString
import Derived.Laws.RangeAny
import Derived.LoopTactic
import Derived.Lib.Strings
namespace Go.Proofs.YtgdfnngfifjdmaaDoor
open Go.RowKit Base Base2

theorem below_iter (w : World) (s : ByteArray) (p : Nat) : Below w.heap.size w (w.iter s p) := (Below.refl _ w).alloc (Nat.le_refl _) _

set_option maxRecDepth 100000 in
set_option maxHeartbeats 4000000 in
theorem kind11 (s : ByteArray) (w : World) (hs : s.size ≤ maxLen) : Calls Tryd.prog 11 #[.string s] w fun e w' => e = .returned (kindV (kindS s)) ∧ Below w.heap.size w w' := by
  unfold maxLen at hs
  by_cases h0 : s = headsB
  · subst h0
    rw [kindS_heads]
    unfold headsB
    go_enter Tryd.func11, Tryd.ntmps11
    go_wp2
    go_ret3
    exact ⟨rfl, Below.refl _ _⟩
  have g0 : (s.toList == [104, 101, 97, 100, 115]) = false := by
    have h := str_neS h0
    rwa [show headsB.toList = [104, 101, 97, 100, 115] by rw [ByteArray.toList_eq]; rfl] at h
  obtain ⟨RES, hR⟩ : ∃ r, kindS s = r := ⟨_, rfl⟩
  have HR := Lib.hid hR
  have H0 := Lib.hid h0
  rw [hR]
  clear hR h0
  go_enter Tryd.func11, Tryd.ntmps11
  go_wp2
  clear g0
  go_loopw [5, 6] (fun vk vn W => ∃ (i : Nat) (k n : Int), i ≤ s.size ∧ W = w.iter s i ∧ vk = .int .i64 k ∧ vn = .int .i64 n ∧ ScanAt s i k n) (fun _ _ W => s.size - W.iterPos w.heap.size)
  case atStart => exact ⟨0, 0, -1, by omega, rfl, rfl, rfl, .inl ⟨rfl, rfl, rfl⟩⟩
  case round =>
    obtain ⟨i, k, n, hi, rfl, rfl, rfl, hat⟩ := hrel
    by_cases hp : i < s.size
    · by_cases ha : (s[i]'hp).toNat < 128
      · have hnx : ∀ ty, (Instr.next (.pointer (some ⟨w.heap.size, 0, none⟩)) true ty).run Tryd.prog (w.iter s i) = _ := fun ty => run_next_ascii w s i ty hp ha
        obtain ⟨b, hb2⟩ : ∃ b, s[i]'hp = b := ⟨_, rfl⟩
        rw [hb2] at hnx ha
        obtain ⟨r, hr⟩ : ∃ r : Int, (b.toNat : Int) = r := ⟨_, rfl⟩
        rw [hr] at hnx
        rcases hat with ⟨rfl, rfl, rfl⟩ | ⟨c, hk, hcase⟩
        · by_cases c1 : r = 115
          · have HS : Hid (ScanAt s 1 1 (-1)) := ScanAt.first hp (c := 115) (by rw [hb2]; apply UInt8.toNat.inj; show b.toNat = 115; omega) (.inl ⟨rfl, rfl⟩)
            subst c1
            clear hb2 hr ha
            go_wp2
            go_roundw
            case rel => exact ⟨1, 1, -1, by omega, rfl, rfl, rfl, HS.out⟩
            case measure => simp; omega
          · by_cases c2 : r = 99
            · have HS : Hid (ScanAt s 1 2 (-1)) := ScanAt.first hp (c := 99) (by rw [hb2]; apply UInt8.toNat.inj; show b.toNat = 99; omega) (.inr ⟨rfl, rfl⟩)
              subst c2
              clear hb2 hr ha c1
              go_wp2
              go_roundw
              case rel => exact ⟨1, 2, -1, by omega, rfl, rfl, rfl, HS.out⟩
              case measure => simp; omega
            · have hz : RES = (0, 0, false) := HR.out.symm.trans (kind_first H0.out hp (by rw [hb2]; intro e; subst e; exact c1 (by rw [← hr]; rfl)) (by rw [hb2]; intro e; subst e; exact c2 (by rw [← hr]; rfl)))
              subst hz
              have g1 : (r == 115) = false := by rw [beq_eq_false_iff_ne]; exact c1
              have g2 : (r == 99) = false := by rw [beq_eq_false_iff_ne]; exact c2
              clear hb2 hr ha c1 c2
              go_wp2
              go_ret3
              exact ⟨rfl, below_iter _ _ _⟩
        · have hi1 : 1 ≤ i := by rcases hcase with ⟨h, _⟩ | ⟨_, _, _, h, _⟩ <;> omega
          have gi : ((i : Int) == 0) = false := by rw [beq_eq_false_iff_ne]; omega
          have gk : (k == 0) = false := by rw [beq_eq_false_iff_ne]; rcases hk with ⟨_, h⟩ | ⟨_, h⟩ <;> omega
          by_cases c1 : r < 48
          · have hz : RES = (0, 0, false) := HR.out.symm.trans (kind_digit H0.out hi1 hp (by rw [hb2]; left; omega))
            subst hz
            clear hb2 hr ha hk hcase
            go_wp2
            go_ret3
            exact ⟨rfl, below_iter _ _ _⟩
          by_cases c2 : 57 < r
          · have hz : RES = (0, 0, false) := HR.out.symm.trans (kind_digit H0.out hi1 hp (by rw [hb2]; right; omega))
            subst hz
            clear hb2 hr ha hk hcase
            go_wp2
            go_ret3
            exact ⟨rfl, below_iter _ _ _⟩
          obtain ⟨d, hd⟩ : ∃ d : Nat, b.toNat = 48 + d := ⟨b.toNat - 48, by omega⟩
          have hd2 : d < 10 := by omega
          obtain ⟨e, he⟩ : ∃ e : Int, r - 48 = e := ⟨_, rfl⟩
          have hde : e = (d : Int) := by omega
          rcases hcase with ⟨hi2, hn, ht⟩ | ⟨m, hm, hn, hi2, ht⟩
          · have HS : Hid (ScanAt s (i + 1) k e) := by show ScanAt _ _ _ _; rw [hde]; exact ScanAt.dig hk hp hi2 ht (by rw [hb2]; exact hd) hd2
            subst hn
            have he0 : 0 ≤ e := by omega
            have he9 : e ≤ 9 := by omega
            clear hb2 hr ha hk ht hd hde hi2
            go_wp2
            go_roundw
            case rel => exact ⟨i + 1, k, e, by omega, rfl, rfl, by go_num, HS.out⟩
            case measure => simp; omega
          · by_cases hm0 : m = 0
            · subst hm0
              have hz : RES = (0, 0, false) := HR.out.symm.trans (kind_zero H0.out hp ht)
              subst hz
              subst hn
              clear hb2 hr ha hk ht hd hde hi2
              go_wp2
              go_ret3
              exact ⟨rfl, below_iter _ _ _⟩
            · have gn : (n == 0) = false := by rw [beq_eq_false_iff_ne]; omega
              have hmx : max n 0 = n := by omega
              by_cases hbig : 1099511627776 < 10 * n + e
              · have hz : RES = (0, 0, false) := HR.out.symm.trans (kind_big H0.out (take_more hp ht (by omega) (by rw [hb2]; exact hd) hd2) (by omega))
                subst hz
                have he0 : 0 ≤ e := by omega
                have he9 : e ≤ 9 := by omega
                have hn0 : 0 ≤ n := by omega
                have hn1 : n ≤ 1099511627776 := by omega
                clear hb2 hr ha hk ht hd hde hi2 hn hm0 hm
                go_wp2
                go_ret3
                exact ⟨rfl, below_iter _ _ _⟩
              · have HS : Hid (ScanAt s (i + 1) k (10 * n + e)) := by
                  show ScanAt _ _ _ _
                  have h := ScanAt.more hk hp hi2 ht (by omega) (by rw [hb2]; exact hd) hd2 (by omega)
                  rwa [show ((10 * m + d : Nat) : Int) = 10 * n + e by omega] at h
                have he0 : 0 ≤ e := by omega
                have he9 : e ≤ 9 := by omega
                have hn0 : 0 ≤ n := by omega
                have hn1 : n ≤ 1099511627776 := by omega
                clear hb2 hr ha hk ht hd hde hi2 hn hm0 hm
                go_wp2
                go_roundw
                case rel => exact ⟨i + 1, k, 10 * n + e, by omega, rfl, rfl, by go_num, HS.out⟩
                case measure => simp; omega
      · have hnx : ∀ ty, (Instr.next (.pointer (some ⟨w.heap.size, 0, none⟩)) true ty).run Tryd.prog (w.iter s i) = _ := fun ty => run_next_any w s i ty hp
        have hdh := (decode_high s i hp (by omega)).1
        have hdl := decode_le s i
        obtain ⟨q, hq⟩ : ∃ q, (Utf8.decode s i).2 = q := ⟨_, rfl⟩
        obtain ⟨r0, hr0⟩ : ∃ r, (Utf8.decode s i).1 = r := ⟨_, rfl⟩
        rw [hq, hr0] at hnx
        rw [hr0] at hdh hdl
        obtain ⟨r, hr⟩ : ∃ r : Int, (r0 : Int) = r := ⟨_, rfl⟩
        rw [hr] at hnx
        have c0 : ¬ r < 48 := by omega
        have c1 : 57 < r := by omega
        have g1 : (r == 115) = false := by rw [beq_eq_false_iff_ne]; omega
        have g2 : (r == 99) = false := by rw [beq_eq_false_iff_ne]; omega
        rcases hat with ⟨rfl, rfl, rfl⟩ | ⟨c, hk, hcase⟩
        · have hz : RES = (0, 0, false) := HR.out.symm.trans (kind_first H0.out hp (by intro e; rw [e] at ha; exact ha (by decide)) (by intro e; rw [e] at ha; exact ha (by decide)))
          subst hz
          clear ha hq hr0 hr hdh hdl
          go_wp2
          go_ret3
          exact ⟨rfl, below_iter _ _ _⟩
        · have hi1 : 1 ≤ i := by rcases hcase with ⟨h, _⟩ | ⟨_, _, _, h, _⟩ <;> omega
          have gi : ((i : Int) == 0) = false := by rw [beq_eq_false_iff_ne]; omega
          have gk : (k == 0) = false := by rw [beq_eq_false_iff_ne]; rcases hk with ⟨_, h⟩ | ⟨_, h⟩ <;> omega
          have hz : RES = (0, 0, false) := HR.out.symm.trans (kind_digit H0.out hi1 hp (by right; omega))
          subst hz
          clear ha hq hr0 hr hdh hdl hk hcase
          go_wp2
          go_ret3
          exact ⟨rfl, below_iter _ _ _⟩
    · have hie : i = s.size := by omega
      subst hie
      have hnx : ∀ ty, (Instr.next (.pointer (some ⟨w.heap.size, 0, none⟩)) true ty).run Tryd.prog (w.iter s s.size) = _ := fun ty => run_next_end w s s.size ty (by omega)
      by_cases hn : n = -1
      · have hz : RES = (0, 0, false) := HR.out.symm.trans (kind_short H0.out (by rcases hat with ⟨h, _⟩ | ⟨_, _, ⟨h, _⟩ | ⟨m, _, h, _⟩⟩ <;> omega))
        subst hz
        subst hn
        clear hat
        go_wp2
        go_ret3
        exact ⟨rfl, below_iter _ _ _⟩
      · have gn : (n == -1) = false := by rw [beq_eq_false_iff_ne]; exact hn
        have hz : RES = (k, n, true) := HR.out.symm.trans (by
          rcases hat with ⟨_, _, h⟩ | ⟨c, hk, ⟨_, h, _⟩ | ⟨m, hm, h, _, ht⟩⟩
          · exact absurd h hn
          · exact absurd h hn
          · rw [take_all] at ht
            have h2 := kind_end hm ht
            rcases hk with ⟨hc, hk⟩ | ⟨hc, hk⟩
            · rw [h2.1 hc, hk, h]
            · rw [h2.2 hc, hk, h])
        subst hz
        clear hat hn
        go_wp2
        go_ret3
        exact ⟨rfl, below_iter _ _ _⟩
end Go.Proofs.YtgdfnngfifjdmaaDoor
