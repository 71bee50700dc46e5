/- The contracts of the document's Put and Same. -/
import Derived.Test.YtnhljfhpfpfniaaGreatClRef1
import Derived.BigQuiet
import Derived.StillTailTactics
import Derived.Deep.RegionHeld3
namespace Go.Proofs.YtnhljfhpfpfniaaGreat
open Go.RowKit Base Base2

def encRB (r : List RunT) : ByteArray := ⟨(encR r).toArray⟩
theorem encRB_snoc (r : List RunT) (d : Int) (k : Nat) : encRB (r ++ [(d, k)]) = encRB r ++ M.encB (M.zig d).toNat ++ M.encB k := by
  unfold encRB
  rw [encR_app]
  apply ByteArray.ext
  simp [encR, M.encB]
theorem encRB_len (r : List RunT) : (encRB r).size ≤ 20 * r.length := by
  have := encR_len r
  simpa [encRB, ByteArray.size] using this
theorem putB_app (l : List Int) : putB l = M.encB l.length ++ encRB (runsS l) := by
  unfold putB putL encRB M.encB
  apply ByteArray.ext; simp

set_option maxRecDepth 100000 in
set_option maxHeartbeats 4000000 in
theorem rput10 (a : Option Addr) (l : List Int) (cap : Nat) (w : World) (hr : I64s w a l) (hl : l.length ≤ 100000) (hin : ∀ x ∈ l, in64 x) :
    Calls Tryz.prog 30 #[.slice a l.length cap] w fun e w' => e = .returned (.string (putB l)) ∧ Below w.heap.size w w' := by
  have HR := Lib.hid (rruns9 a l cap w hr hl hin)
  have HN0 := Lib.hid (fun (W : World) => ref9 (l.length : Int) W (by omega) (by omega))
  rw [Int.toNat_natCast] at HN0
  have HE := Lib.hid (putB_app l)
  have HRI := Lib.hid (runsS_in l)
  have HRN := Lib.hid (runsS_num l)
  have hrl := runsS_len l
  have hz := encB_size l.length
  obtain ⟨R, hR⟩ : ∃ R, runsS l = R := ⟨_, rfl⟩
  obtain ⟨Z, hZ⟩ : ∃ Z, M.encB l.length = Z := ⟨_, rfl⟩
  rw [hR] at HR HE HRI HRN hrl
  rw [hZ] at HN0 HE hz
  rw [HE.out]
  clear HE hR hZ hr hin
  go_enter Tryz.func30, Tryz.ntmps30
  go_wp2_with (first
    | (go_at_call 75; refine HR.out.mono ?_; rintro e w1 ⟨⟨v, rfl, ho⟩, hb⟩; have HO := Lib.hid ho; have HB := Lib.hid hb; clear ho hb)
    | (go_at_call 28; refine (HN0.out _).mono ?_; rintro e w2 ⟨rfl, hb⟩; have HB2 := Lib.hid hb; clear hb))
  obtain ⟨av, cv, hv⟩ : ∃ av cv, v = .slice av R.length cv := by
    rcases HO.out.2 with ⟨rfl, h⟩ | ⟨g, cap2, cur, rfl, _⟩
    · exact ⟨_, _, by rw [h]⟩
    · exact ⟨_, _, rfl⟩
  subst hv
  have HO2 : Hid (∀ W, Below w2.heap.size w2 W → W.ownsRow w.heap.size 151 2 (.slice av R.length cv) R.length (flatR R)) := fun W hb => HO.out.kept (row := none) ⟨hb.os.trans HB2.out.os, hb.tape.trans HB2.out.tape, hb.output.trans HB2.out.output, Nat.le_trans HB2.out.size hb.size, fun k hk _ => (hb.block k (Nat.lt_of_lt_of_le hk HB2.out.size)).trans (HB2.out.block k hk)⟩ (by cases av <;> simp [Value.ownBlock])
  have HB3 : Hid (Below w.heap.size w w2) := HB.out.trans (HB2.out.mono HB.out.size)
  clear HO HB HB2 HR HN0
  go_loopw [4, 5] (fun vs vi W => ∃ (i : Nat) (A : ByteArray), i ≤ R.length ∧ vi = .int .i64 (i : Int) ∧ vs = .string A ∧ A = Z ++ encRB (R.take i) ∧ Below w2.heap.size w2 W) (fun _ vi _ => R.length - (intOf vi).toNat)
  case atStart => exact ⟨0, Z, by omega, rfl, rfl, by simp [encRB, encR]; apply ByteArray.ext; simp, Below.refl _ _⟩
  case round =>
    obtain ⟨i, A, hi, rfl, rfl, hA, hbw⟩ := hrel
    by_cases hlt : i < R.length
    · obtain ⟨⟨pd, pk⟩, hp⟩ : ∃ p, R[i]? = Option.some p := ⟨R[i], by simp [hlt]⟩
      have hown := HO2.out wr hbw
      obtain ⟨g, hg⟩ : ∃ g, av = some ⟨g, 0, none⟩ := by
        rcases hown.2 with ⟨h, h2⟩ | ⟨g, cap2, cur, h, _⟩
        · omega
        · simp at h; exact ⟨g, h.1⟩
      subst hg
      have hat := flatR_at R i (pd, pk) hp
      have k0 := (hown.cellAt (i * 2) (by omega)).trans hat.1
      have k1 := (hown.cellAt (i * 2 + 1) (by omega)).trans hat.2
      have hgl := (hown.lt g rfl).2
      have hpi := HRI.out _ (List.mem_of_getElem? hp)
      have hpn := HRN.out _ (List.mem_of_getElem? hp)
      dsimp only at hpi hpn
      have HI := Lib.hid (fun (W : World) => int11 pd W hpi.1 hpi.2)
      have HN := Lib.hid (fun (W : World) => ref9 (pk : Int) W (by omega) (by omega))
      rw [Int.toNat_natCast] at HN
      have htk : R.take (i + 1) = R.take i ++ [(pd, pk)] := by rw [List.take_add_one, hp]; rfl
      have HA : Hid (A ++ M.encB (M.zig pd).toNat ++ M.encB pk = Z ++ encRB (R.take (i + 1))) := by
        show _ = _
        rw [htk, encRB_snoc, hA]; simp only [ByteArray.append_assoc]
      have z1 := encB_size (M.zig pd).toNat
      have z2 := encB_size pk
      have z3 : A.size ≤ 10 + 20 * R.length := by
        have h1 := encRB_len (R.take i)
        rw [List.length_take] at h1
        rw [hA, ByteArray.size_append]; omega
      have HBW := Lib.hid hbw
      have hwr : IntKind.u64.wrap (pk : Int) = (pk : Int) := by rw [IntKind.wrap_u64]; omega
      obtain ⟨X1, hX1⟩ : ∃ X, M.encB (M.zig pd).toNat = X := ⟨_, rfl⟩
      obtain ⟨X2, hX2⟩ : ∃ X, M.encB pk = X := ⟨_, rfl⟩
      rw [hX1] at HI HA z1
      rw [hX2] at HN HA z2
      clear hX1 hX2 hown hat htk hA hp hbw
      go_wp2
      refine wp_region_held_drew (S := fun W => Below wr.heap.size wr W) (by kernel_rfl) ((Below.refl _ _).drew) (fun hS => ?_)
      refine wpAnyH_take (i := 0) (v := .string A) rfl (by kernel_rfl) (by kernel_rfl) (by kernel_rfl) (fun _ _ _ h => h) (Or.inl ⟨by simp [Region.wanted], fun W _ => by go_simp⟩) hS ?_
      simp only [List.getElem_toArray, List.getElem_cons_zero, Act.put, List.setIfInBounds_toArray, List.set_cons_zero, List.set_cons_succ]
      refine wpAnyH_take (i := 1) (v := .slice (some ⟨g, 0, none⟩) R.length cv) rfl (by kernel_rfl) (by kernel_rfl) (by kernel_rfl) (fun _ _ _ h => h) (Or.inl ⟨by simp [Region.wanted], fun W _ => by go_simp⟩) hS ?_
      simp only [List.getElem_toArray, List.getElem_cons_zero, List.getElem_cons_succ, Act.put, List.setIfInBounds_toArray, List.set_cons_zero, List.set_cons_succ]
      refine wpAnyH_take (i := 2) (v := .int .i64 (i : Int)) rfl (by kernel_rfl) (by kernel_rfl) (by kernel_rfl) (fun _ _ _ h => h) (Or.inl ⟨by simp [Region.wanted], fun W _ => by go_simp⟩) hS ?_
      simp only [List.getElem_toArray, List.getElem_cons_zero, List.getElem_cons_succ, Act.put, List.setIfInBounds_toArray, List.set_cons_zero, List.set_cons_succ]
      refine wpAnyH_take (i := 3) (v := .pointer (some ⟨g, i * 2, none⟩)) rfl (by kernel_rfl) (by kernel_rfl) (by kernel_rfl) (fun _ _ _ h => h) (Or.inl ⟨by simp [Region.wanted], fun W _ => by go_simp⟩) hS ?_
      simp only [List.getElem_toArray, List.getElem_cons_zero, List.getElem_cons_succ, Act.put, List.setIfInBounds_toArray, List.set_cons_zero, List.set_cons_succ]
      refine wpAnyH_take (i := 4) (v := .pointer (some ⟨g, i * 2, none⟩)) rfl (by kernel_rfl) (by kernel_rfl) (by kernel_rfl) (fun _ _ _ h => h) (Or.inl ⟨by simp [Region.wanted], fun W _ => by go_simp⟩) hS ?_
      simp only [List.getElem_toArray, List.getElem_cons_zero, List.getElem_cons_succ, Act.put, List.setIfInBounds_toArray, List.set_cons_zero, List.set_cons_succ]
      refine wpAnyH_take (i := 5) (v := .int .i64 pd) rfl (by kernel_rfl) (by kernel_rfl) (by kernel_rfl) (fun _ _ _ h => h) (Or.inl ⟨by simp [Region.wanted], fun W hW => by have c := (Below.cell (p := ⟨g, i * 2, none⟩) hW hgl).trans k0; go_simp⟩) hS ?_
      simp only [List.getElem_toArray, List.getElem_cons_zero, List.getElem_cons_succ, Act.put, List.setIfInBounds_toArray, List.set_cons_zero, List.set_cons_succ]
      refine wpAnyH_take (i := 8) (v := .slice (some ⟨g, 0, none⟩) R.length cv) rfl (by kernel_rfl) (by kernel_rfl) (by kernel_rfl) (fun _ _ _ h => h) (Or.inl ⟨by simp [Region.wanted], fun W _ => by go_simp⟩) hS ?_
      simp only [List.getElem_toArray, List.getElem_cons_zero, List.getElem_cons_succ, Act.put, List.setIfInBounds_toArray, List.set_cons_zero, List.set_cons_succ]
      refine wpAnyH_take (i := 9) (v := .int .i64 (i : Int)) rfl (by kernel_rfl) (by kernel_rfl) (by kernel_rfl) (fun _ _ _ h => h) (Or.inl ⟨by simp [Region.wanted], fun W _ => by go_simp⟩) hS ?_
      simp only [List.getElem_toArray, List.getElem_cons_zero, List.getElem_cons_succ, Act.put, List.setIfInBounds_toArray, List.set_cons_zero, List.set_cons_succ]
      refine wpAnyH_take (i := 10) (v := .pointer (some ⟨g, i * 2, none⟩)) rfl (by kernel_rfl) (by kernel_rfl) (by kernel_rfl) (fun _ _ _ h => h) (Or.inl ⟨by simp [Region.wanted], fun W _ => by go_simp⟩) hS ?_
      simp only [List.getElem_toArray, List.getElem_cons_zero, List.getElem_cons_succ, Act.put, List.setIfInBounds_toArray, List.set_cons_zero, List.set_cons_succ]
      refine wpAnyH_take (i := 11) (v := .pointer (some ⟨g, i * 2 + 1, none⟩)) rfl (by kernel_rfl) (by kernel_rfl) (by kernel_rfl) (fun _ _ _ h => h) (Or.inl ⟨by simp [Region.wanted], fun W _ => by go_simp⟩) hS ?_
      simp only [List.getElem_toArray, List.getElem_cons_zero, List.getElem_cons_succ, Act.put, List.setIfInBounds_toArray, List.set_cons_zero, List.set_cons_succ]
      refine wpAnyH_take (i := 12) (v := .int .i64 (pk : Int)) rfl (by kernel_rfl) (by kernel_rfl) (by kernel_rfl) (fun _ _ _ h => h) (Or.inl ⟨by simp [Region.wanted], fun W hW => by have c := (Below.cell (p := ⟨g, i * 2 + 1, none⟩) hW hgl).trans k1; go_simp⟩) hS ?_
      simp only [List.getElem_toArray, List.getElem_cons_zero, List.getElem_cons_succ, Act.put, List.setIfInBounds_toArray, List.set_cons_zero, List.set_cons_succ]
      refine wpAnyH_take (i := 13) (v := .int .u64 (pk : Int)) rfl (by kernel_rfl) (by kernel_rfl) (by kernel_rfl) (fun _ _ _ h => h) (Or.inl ⟨by simp [Region.wanted], fun W _ => by go_simp⟩) hS ?_
      simp only [List.getElem_toArray, List.getElem_cons_zero, List.getElem_cons_succ, Act.put, List.setIfInBounds_toArray, List.set_cons_zero, List.set_cons_succ]
      refine wpAnyH_ready (rs := [6]) (by kernel_rfl) (by simp) ?_
      refine AllReadyH.cons rfl (fun K1 hK1 => ?_) AllReadyH.nil
      refine wanted_go rfl ?_
      simp only [List.getElem_toArray, List.getElem_cons_zero, List.getElem_cons_succ]
      go_wp2_with (go_at_call 76; refine (HI.out _).mono ?_; rintro e W1 ⟨rfl, hb⟩; have HB1 := Lib.hid hb; clear hb)
      refine hK1.out _ _ ((hS).trans (HB1.out.mono (hS).size)) (fun hS1 => ?_)
      refine wpAnyH_take (i := 7) (v := .string (A ++ X1)) rfl (by kernel_rfl) (by kernel_rfl) (by kernel_rfl) (fun _ _ _ h => h) (Or.inl ⟨by simp [Region.wanted], fun W _ => by go_simp; omega⟩) hS1 ?_
      simp only [List.getElem_toArray, List.getElem_cons_zero, List.getElem_cons_succ, Act.put, List.setIfInBounds_toArray, List.set_cons_zero, List.set_cons_succ]
      refine wpAnyH_ready (rs := [14]) (by kernel_rfl) (by simp) ?_
      refine AllReadyH.cons rfl (fun K2 hK2 => ?_) AllReadyH.nil
      refine wanted_go rfl ?_
      simp only [List.getElem_toArray, List.getElem_cons_zero, List.getElem_cons_succ]
      go_wp2_with (go_at_call 28; refine (HN.out _).mono ?_; rintro e W2 ⟨rfl, hb⟩; have HB2 := Lib.hid hb; clear hb)
      refine hK2.out _ _ ((hS1).trans (HB2.out.mono (hS1).size)) (fun hS2 => ?_)
      refine wpAnyH_take (i := 15) (v := .string (A ++ X1 ++ X2)) rfl (by kernel_rfl) (by kernel_rfl) (by kernel_rfl) (fun _ _ _ h => h) (Or.inl ⟨by simp [Region.wanted], fun W _ => by go_simp; omega⟩) hS2 ?_
      simp only [List.getElem_toArray, List.getElem_cons_zero, List.getElem_cons_succ, Act.put, List.setIfInBounds_toArray, List.set_cons_zero, List.set_cons_succ]
      refine wpAnyH_take (i := 16) (v := .string (A ++ X1 ++ X2)) rfl (by kernel_rfl) (by kernel_rfl) (by kernel_rfl) (fun _ _ _ h => h) (Or.inl ⟨by simp [Region.wanted], fun W _ => by go_simp⟩) hS2 ?_
      simp only [List.getElem_toArray, List.getElem_cons_zero, List.getElem_cons_succ, Act.put, List.setIfInBounds_toArray, List.set_cons_zero, List.set_cons_succ]
      refine wpAnyH_done (by kernel_rfl) ?_ _
      go_wp2
      go_roundw
      case rel => exact ⟨i + 1, _, by omega, by go_num, rfl, HA.out, HBW.out.trans (hS2.mono HBW.out.size)⟩
      case measure => simp [intOf]; omega
    · have hie : i = R.length := by omega
      subst hie
      rw [List.take_length] at hA
      have HA := Lib.hid hA
      have HBW := Lib.hid hbw
      clear hA hbw hlt hi
      go_wp2
      go_ret
      exact ⟨by rw [HA.out]; rfl, HB3.out.trans (HBW.out.mono HB3.out.size)⟩
end Go.Proofs.YtnhljfhpfpfniaaGreat
