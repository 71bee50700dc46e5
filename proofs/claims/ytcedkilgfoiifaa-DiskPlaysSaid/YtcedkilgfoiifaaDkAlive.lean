/- The example of the disk's laws, given a contract for each call of the program. -/
import Derived.Test.YtcedkilgfoiifaaDkNone
namespace Go.Proofs.Ytcedkilgfoiifaa
open Go.RowKit Base Base2

def nA : ByteArray := ⟨#[97]⟩
def sXyz : ByteArray := ⟨#[120, 121, 122]⟩
def sPq : ByteArray := ⟨#[112, 113]⟩
def al1 : DkT := ⟨[(nA, sXyz)], [], [(nA, 0, sXyz)], 9⟩
def al2 : DkT := ⟨[(nA, ⟨#[120, 121, 122, 112, 113]⟩)], [], [(nA, 0, sXyz), (nA, 3, sPq)], 9⟩
theorem al_w1 : writesF ⟨[], [], [], 9⟩ nA 0 sXyz = (al1, 0) := by kernel_rfl
theorem al_w2 : writesF al1 nA 3 sPq = (al2, 0) := by kernel_rfl
theorem al_r : readF (crashF al2 [0, 1]).stands nA = ⟨#[0, 0, 0, 112]⟩ := by kernel_rfl
theorem alive31 (i : Nat) (w : World) : Calls Try.prog 31 #[.int .i64 (i : Int)] w fun e w' => e = .returned (.int .i64 (i : Int)) ∧ w' = w := by
  go_enter Try.func31, Try.ntmps31
  go_wp2
  go_ret
  exact ⟨rfl, rfl⟩
set_option maxRecDepth 100000 in
set_option maxHeartbeats 4000000 in
theorem alive6D {PD : World → Nat → (Nat → Prop) → DkT → Prop} (C : ProgC PD) (w : World) : Calls Try.prog 6 #[] w fun e w' => e = .returned (.bool true) ∧ Below w.heap.size w w' := by
  have HN := Lib.hid (C.new 9 w (by omega) (by omega))
  have ok0 : PlayOk 60 ⟨[], [], [], 9⟩ := play_start (files := []) (room := 9) (m := 60) (by decide) (by decide) (by omega) (by decide)
  have ok1 := play_write ok0 nA sXyz 0
  rw [al_w1] at ok1
  have ok2 := play_write ok1 nA sPq 3
  rw [al_w2] at ok2
  have ok3 := play_crash ok2 [0, 1]
  have H1 := Lib.hid (fun (W : World) (b : Nat) (F : Nat → Prop) (h : PD W b F ⟨[], [], [], 9⟩) => C.write nA sXyz 0 h (ok0.le (by omega)) (by decide) (by decide) ⟨by omega, by omega⟩)
  rw [al_w1] at H1
  have H2 := Lib.hid (fun (W : World) (b : Nat) (F : Nat → Prop) (h : PD W b F al1) => C.write nA sPq 3 h (ok1.le (by omega)) (by decide) (by decide) ⟨by omega, by omega⟩)
  rw [al_w2] at H2
  have H3 := Lib.hid (fun (W : World) (b : Nat) (F : Nat → Prop) (h : PD W b F al2) => C.crash 31 #[] [0, 1] h (ok2.le (by omega)) enters31 (by decide) (fun z hz => by simp at hz; rcases hz with rfl | rfl <;> exact ⟨by omega, by omega⟩) (fun i W' hi _ => by
    have h2 : i < 2 := hi
    have : chooseK [0, 1] i = (i : Int) := by match i, h2 with | 0, _ => rfl | 1, _ => rfl
    rw [this]
    exact alive31 i W'))
  have H4 := Lib.hid (fun (W : World) (b : Nat) (F : Nat → Prop) (h : PD W b F (crashF al2 [0, 1])) => C.read nA h (ok3.le (by omega)) (by decide))
  rw [al_r] at H4
  unfold nA sXyz sPq at *
  generalize crashF al2 [0, 1] = d3 at *
  clear ok0 ok1 ok2 ok3
  go_enter Try.func6, Try.ntmps6
  go_wp2_with (first
    | (go_at_call 30; refine HN.out.mono ?_; rintro e w1 ⟨⟨b, F, rfl, hp, hF⟩, hb⟩; have P1 := Lib.hid hp; have L1 := Lib.hid hb; have FW1 := Lib.hid hF; clear hp hb hF)
    | (go_at_call 19; refine (H1.out _ _ _ P1.out).mono ?_; rintro e w2 ⟨rfl, F1, hp, hf, hg⟩; have P2 := Lib.hid hp; have L2 := Lib.hid (L1.out.trans (hf.below FW1.out L1.out.size)); have FW2 := Lib.hid (show ∀ k, F1 k → w.heap.size ≤ k from fun k hk => (hg k hk).elim (FW1.out k) (fun h => Nat.le_trans L1.out.size h)); clear hp hf hg H1)
    | (go_at_call 19; refine (H2.out _ _ _ P2.out).mono ?_; rintro e w3 ⟨rfl, F2, hp, hf, hg⟩; have P3 := Lib.hid hp; have L3 := Lib.hid (L2.out.trans (hf.below FW2.out L2.out.size)); have FW3 := Lib.hid (show ∀ k, F2 k → w.heap.size ≤ k from fun k hk => (hg k hk).elim (FW2.out k) (fun h => Nat.le_trans L2.out.size h)); clear hp hf hg)
    | (go_at_call 16; refine (H3.out _ _ _ P3.out).mono ?_; rintro e w4 ⟨rfl, F3, hp, hf, hg⟩; have P4 := Lib.hid hp; have L4 := Lib.hid (L3.out.trans (hf.below FW3.out L3.out.size)); clear hp hf hg)
    | (go_at_call 22; refine (H4.out _ _ _ P4.out).mono ?_; rintro e w5 ⟨rfl, hb⟩; have L5 := Lib.hid (L4.out.trans (hb.mono L4.out.size)); clear hb))
  go_ret
  exact ⟨rfl, L5.out⟩
end Go.Proofs.Ytcedkilgfoiifaa
