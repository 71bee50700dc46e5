/- The contract of the document's Crash of a disk. -/
import Derived.Test.YtcedkilgfoiifaaDkCut
namespace Go.Proofs.Ytcedkilgfoiifaa
open Go.RowKit Base Base2

/-- A row of numbers from an address on. -/
def NumsAt (W : World) (a : Option Addr) (l : List Int) : Prop := l = [] ∨ ∃ b off, a = some ⟨b, off, none⟩ ∧ b < W.heap.size ∧ ∀ (i : Nat) (k : Int), l[i]? = some k → W.cell? ⟨b, off + i, none⟩ = some (.int .i64 k)
theorem NumsAt.below {W W' : World} {a : Option Addr} {l : List Int} (h : NumsAt W a l) (hb : Below W.heap.size W W') : NumsAt W' a l := by
  rcases h with h | ⟨b, off, h1, h2, h3⟩
  · exact .inl h
  · exact .inr ⟨b, off, h1, Nat.lt_of_lt_of_le h2 hb.size, fun i k hi => (hb.cell (p := ⟨b, off + i, none⟩) h2).trans (h3 i k hi)⟩
theorem NumsAt.get {W : World} {a : Option Addr} {l : List Int} (h : NumsAt W a l) {i : Nat} {k : Int} (hi : l[i]? = some k) : ∃ b off, a = some ⟨b, off, none⟩ ∧ W.cell? ⟨b, off + i, none⟩ = some (.int .i64 k) := by
  rcases h with rfl | ⟨b, off, h1, _, h3⟩
  · simp at hi
  · exact ⟨b, off, h1, h3 i k hi⟩
theorem PendAt.get {W : World} {a : Option Addr} {l : List WriteT} (h : PendAt W a l) {i : Nat} {p : WriteT} (hi : l[i]? = some p) : ∃ b off, a = some ⟨b, off, none⟩ ∧ b < W.heap.size ∧ W.rangeAt b (off + i * 3) (wcells p) := by
  rcases h with rfl | ⟨b, off, h1, h2, h3⟩
  · simp at hi
  · exact ⟨b, off, h1, h2, h3 i p hi⟩
theorem infoW : (Try.prog.info? 49).map (·.size) = some 3 := by kernel_rfl
theorem load_w {W : World} {b o : Nat} {p : WriteT} (hr : W.rangeAt b o (wcells p)) : (Instr.loadAt 49 (.pointer (Option.some ⟨b, o, none⟩))).run Try.prog W = .ok (.agg #[.string p.1, .int .i64 (p.2.1 : Int), .string p.2.2]) W := by
  have := load_at (P := Try.prog) W b o 49 (wcells p) _ hr Try.underlying49 rfl (by rw [infoW]; rfl)
  simpa [wcells] using this
theorem wp_loadGD {P : Program} {o : Oper} {a : Act} {w : World} {K : Act → World → Prop} {Q : Exit → Act → World → Prop} (ty : TypeId) (x : Operand) (ho : o.op = .load ty x)
    (p v : Value) (hx : a.eval x = p) (hr : (Instr.loadAt ty p).run P w = .ok v w) (h : K (a.put o.dst v) w) : o.wp P a w K Q := by
  unfold Oper.wp execOp
  simp only [ho, hx, Sem.run_bind, Sem.run_pure, hr, Result.andThen_ok]
  exact h
theorem wpList_loadGD {P : Program} {ops : Array Oper} {rest : List Oper} {o : Oper} {a : Act} {w : World} {Q : Exit → Act → World → Prop} (hw : Region.wanted o (yielded ops a.tmps) = true) (ty : TypeId) (x : Operand) (ho : o.op = .load ty x)
    (p v : Value) (hx : a.eval x = p) (hr : (Instr.loadAt ty p).run P w = .ok v w) (h : wpList P ops Q rest (a.put o.dst v) w) : wpList P ops Q (o :: rest) a w :=
  BigFrame.wpList_want hw fun _ hK => wp_loadGD ty x ho p v hx hr (hK _ _ h)
theorem crashG_end (keep : List Int) (k : Nat) (l : List WriteT) (kept : List FileT) (h : l.length ≤ k) : crashG keep k (l.drop k) kept = kept := by
  rw [List.drop_of_length_le h]; rfl
theorem crashG_next (keep : List Int) (k : Nat) (l : List WriteT) (kept : List FileT) (p : WriteT) (h : l[k]? = some p) : crashG keep k (l.drop k) kept = crashG keep (k + 1) (l.drop (k + 1)) (if 0 < keepN keep k p.2.2.size then putF kept p.1 p.2.1 (p.2.2.extract 0 (keepN keep k p.2.2.size).toNat) else kept) := by
  obtain ⟨hlt, ht⟩ := List.getElem?_eq_some_iff.1 h
  rw [List.drop_eq_getElem_cons hlt, ht]; rfl
theorem cellD {w : World} {b : Nat} {cs : Array Value} {T : TypeId} (h : w.heap[b]? = some (.cells cs T (0, 0))) (k : Nat) (v : Value) (hv : cs[k]? = some v) : w.cell? ⟨b, k, none⟩ = some v := by
  rw [cell_of_row w b k cs T (0, 0) h]; exact hv
def SmallF (l : List FileT) : Prop := ∀ f ∈ l, f.2.size ≤ 2000000
theorem readF_small {l : List FileT} (h : SmallF l) (name : ByteArray) : (readF l name).size ≤ 2000000 := by
  unfold readF
  cases hf : l.find? (fun f => decide (f.1 = name)) with
  | none => show (0 : Nat) ≤ 2000000; omega
  | some f => exact h f (List.mem_of_find?_eq_some hf)
theorem setG_small {name s : ByteArray} (hs : s.size ≤ 2000000) (l : List FileT) (h : SmallF l) : ∀ d, SmallF (setG name s d l) := by
  have hi : SmallF (insF name s) := by
    unfold insF; split
    · intro f hf; simp at hf
    · intro f hf; simp at hf; subst hf; exact hs
  have happ : ∀ {a b : List FileT}, SmallF a → SmallF b → SmallF (a ++ b) := fun ha hb f hf => by
    rcases List.mem_append.1 hf with h | h
    · exact ha f h
    · exact hb f h
  induction l with
  | nil => intro d; cases d with
    | false => exact hi
    | true => intro f hf; simp [setG] at hf
  | cons x l ih =>
    have hl : SmallF l := fun f hf => h f (List.mem_cons_of_mem _ hf)
    have hx : SmallF (if x.1 = name then ([] : List FileT) else [x]) := by
      split
      · intro f hf; simp at hf
      · intro f hf; simp at hf; subst hf; exact h f (List.mem_cons_self ..)
    intro d
    cases d with
    | true => exact happ hx (ih hl true)
    | false =>
      unfold setG
      split
      · exact happ hi (happ hx (ih hl true))
      · exact happ hx (ih hl false)
theorem putF_small {l : List FileT} (h : SmallF l) (name s : ByteArray) (pl : Nat) (hp : pl + s.size ≤ 2000000) : SmallF (putF l name pl s) := by
  unfold putF setF
  refine setG_small ?_ l h false
  rw [bytesL_size, putB_len]
  have := readF_small h name
  omega
theorem putF_len (l : List FileT) (name s : ByteArray) (pl : Nat) : (putF l name pl s).length ≤ l.length + 1 := setF_len ..
theorem ext_size_le (s : ByteArray) (k : Nat) : (s.extract 0 k).size ≤ s.size := by simp [ByteArray.size_extract]; omega

def CrRel (P : Nat → Prop) (w : World) (g q : Nat) (a1 a3 : Option Addr) (c1 c3 : Nat) (st : List FileT) (pe : List WriteT) (rm : Int) (keep : List Int) (M : Nat) (RES : List FileT) (vi : Value) (W : World) : Prop :=
  ∃ (k : Nat) (a2 : Option Addr) (c2 : Nat) (kp : List FileT), k ≤ pe.length ∧ vi = .int .i64 (k : Int) ∧ DkIn w g q a1 a2 a3 c1 c2 c3 ⟨st, kp, pe, rm⟩ W ∧ crashG keep k (pe.drop k) kp = RES ∧ kp.length ≤ c2 ∧ kp.length ≤ M + k ∧ SmallF kp ∧ (kp = [] ∨ AdrP P a2)
theorem keepN_in {keep : List Int} {k n : Nat} {z : Int} (h : keep[k]? = some z) : keepN keep k n = if z < (n : Int) then z else (n : Int) := by unfold keepN; rw [h]
theorem keepN_out {keep : List Int} {k n : Nat} (h : keep.length ≤ k) : keepN keep k n = (n : Int) := by unfold keepN; rw [List.getElem?_eq_none h]

set_option maxRecDepth 100000 in
set_option maxHeartbeats 8000000 in
theorem rcrash18 (P : Nat → Prop) (cs : Array Value) (d : DkT) (ak : Option Addr) (ck : Nat) (keep : List Int) (w : World) (h : DkAt P w cs d) (hPg : ∀ k, w.heap.size ≤ k → P k) (hkp : NumsAt w ak keep) (hkl : keep.length ≤ 1000000) (hl : d.kept.length + d.pend.length ≤ 9000) (hsm : SmallF d.kept) (hpe : ∀ p ∈ d.pend, p.2.1 + p.2.2.size ≤ 2000000) (hki : ∀ z ∈ keep, -9223372036854775808 ≤ z ∧ z ≤ 9223372036854775807) :
    Calls Try.prog 18 #[.agg cs, .slice ak keep.length ck] w fun e w' => ∃ cs', e = .returned (.agg cs') ∧ DkAt P w' cs' (crashF d keep) ∧ Below w.heap.size w w' := by
  obtain ⟨a1, a2, a3, c1, c2, c3, rfl, f1, f2, f3, ⟨hk1, hk2, hk3⟩, hap⟩ := h
  have HAP := Lib.hid hap
  have HPG := Lib.hid hPg
  clear hap hPg
  obtain ⟨st, kp, pe, rm⟩ := d
  dsimp only at *
  have HST := Lib.hid (DkIn.start w (c1 := c1) (c2 := c2) (c3 := c3) (d := ⟨st, kp, pe, rm⟩) f1 f2 f3)
  obtain ⟨RES, hRES⟩ : ∃ R, crashG keep 0 pe kp = R := ⟨_, rfl⟩
  have hcr : crashF ⟨st, kp, pe, rm⟩ keep = ⟨RES, RES, [], rm⟩ := by unfold crashF; dsimp only; rw [hRES]
  rw [hcr]
  have HR0 : Hid (crashG keep 0 (pe.drop 0) kp = RES) := Lib.hid (by rw [List.drop_zero]; exact hRES)
  have HNK := Lib.hid (fun (W : World) (hb : Below w.heap.size w W) => hkp.below hb)
  have HPE := Lib.hid hpe
  have HKI := Lib.hid hki
  have HSM := Lib.hid hsm
  clear f1 f2 f3 hcr hRES hkp hpe hki hsm
  go_enter Try.func18, Try.ntmps18
  go_upto_region 1 with (fail)
  refine at_world (Φ := DkIn w w.heap.size (w.heap.size + 1) a1 a2 a3 c1 c2 c3 ⟨st, kp, pe, rm⟩) HST.out ?_
  rintro W hW
  have H := Lib.hid hW
  clear hW HST
  go_wp2
  go_loopw [5] (fun vi W => CrRel P w w.heap.size (w.heap.size + 1) a1 a3 c1 c3 st pe rm keep kp.length RES vi W) (fun vi _ => pe.length - (intOf vi).toNat)
  case atStart => exact ⟨0, a2, c2, kp, by omega, rfl, H.out, HR0.out, hk2, by omega, HSM.out, HAP.out.2.1⟩
  case round =>
    clear HR0 H HSM
    obtain ⟨k, b2, e2, kq, hk, rfl, hD, hres, hl2, hl3, hsq, hab⟩ := hrel
    have HAB := Lib.hid hab
    clear hab
    have d1 := hD.S.cell 1 (.slice b2 kq.length e2) rfl
    have d2 := hD.S.cell 2 (.slice a3 pe.length c3) rfl
    by_cases hlt : k < pe.length
    · obtain ⟨p, hp⟩ : ∃ p, pe[k]? = some p := ⟨pe[k], by simp [hlt]⟩
      have hnx := crashG_next keep k pe kq p hp
      rw [hnx] at hres
      obtain ⟨bp, op, rfl, hbp, hrp⟩ := hD.f3.at.get hp
      have hLD := load_w hrp
      have hpp := HPE.out p (List.mem_of_getElem? hp)
      obtain ⟨nm, pl, s⟩ := p
      dsimp only at *
      have hp2 := putF_len kq nm
      have HX := Lib.hid (hD.below ((Below.refl _ wr).alloc (Nat.le_refl _) (.cells #[.string nm, .int .i64 (pl : Int), .string s] 49)))
      have hbx := heap_alloc_new wr (.cells #[.string nm, .int .i64 (pl : Int), .string s] 49)
      have hgx : w.heap.size < wr.heap.size := lt_of_blkD hD.S.box
      have hgq : w.heap.size + 1 < wr.heap.size := lt_of_blkD hD.S.res
      have HLD := Lib.hid hLD
      have HD := Lib.hid hD
      clear hnx hrp hLD hp hD HPE
      have HPUT : Hid (∀ (t : ByteArray), t.size ≤ s.size → ∀ (W : World), FilesAt W b2 kq → Calls Try.prog 41 #[.slice b2 kq.length e2, .string nm, .int .i64 (pl : Int), .string t] W fun e w' => (∃ v, e = .returned v ∧ w'.ownsRow W.heap.size 58 2 v (putF kq nm pl t).length (flatF (putF kq nm pl t))) ∧ Below W.heap.size W w') := Lib.hid (fun t ht W hf => rput40 b2 kq e2 nm t pl W hf (by omega) (by omega) (by omega) (readF_small hsq nm))
      have HSMP : Hid (∀ (t : ByteArray), t.size ≤ s.size → SmallF (putF kq nm pl t)) := Lib.hid (fun t ht => putF_small hsq nm t pl (by omega))
      have HSQ := Lib.hid hsq
      have HRES := Lib.hid hres
      clear hsq hres
      have hkl2 := hkl
      have hres := HRES.out
      by_cases hkk : k < keep.length
      · obtain ⟨z, hz⟩ : ∃ z, keep[k]? = some z := ⟨keep[k], by simp [hkk]⟩
        have hzi := HKI.out z (List.mem_of_getElem? hz)
        obtain ⟨bk, ok, rfl, hck⟩ := (HNK.out _ (HX.out.S.lo)).get hz
        have HCK := Lib.hid hck
        have hkn := keepN_in (n := s.size) hz
        clear HKI hz hck HNK
        have hck := HCK.out
        by_cases hzs : z < (s.size : Int)
        · rw [if_pos hzs] at hkn
          rw [hkn] at hres
          clear hkn
          by_cases hpos : 0 < z
          · obtain ⟨nn, rfl⟩ := Int.eq_ofNat_of_zero_le (show 0 ≤ z by omega)
            rw [if_pos (by omega), Int.toNat_natCast] at hres
            have hts : (s.extract 0 nn).size ≤ s.size := ext_size_le s nn
            have HP := Lib.hid (HPUT.out (s.extract 0 nn) hts)
            have HSM2 := Lib.hid (HSMP.out (s.extract 0 nn) hts)
            have hpl := hp2 (s.extract 0 nn) pl
            generalize putF kq nm pl (s.extract 0 nn) = KQ2 at *
            have HRES2 := Lib.hid hres
            clear HRES hres HPUT HSMP hts
            go_wp2_with (((with_reducible refine atLoad (ty := 49) (x := .tmp 18) rfl ?_); refine wpList_loadGD rfl 49 (.tmp 18) rfl (.pointer (Option.some ⟨bp, op + k * 3, none⟩)) (.agg #[.string nm, .int .i64 (pl : Int), .string s]) rfl HLD.out ?_))
            obtain ⟨x, hx⟩ : ∃ x, wr.heap.size = x := ⟨_, rfl⟩
            obtain ⟨WX, hWX⟩ : ∃ W, wr.alloc (.cells #[.string nm, .int .i64 (pl : Int), .string s] 49) = W := ⟨_, rfl⟩
            rw [hWX] at HX hbx
            rw [hx] at hbx hgx hgq
            rw [hWX, hx]
            have hx1 : x < WX.heap.size := lt_of_blkD hbx
            clear hWX hx d1 d2
            have d1 := HX.out.S.cell 1 (.slice b2 kq.length e2) rfl
            refine wp_region_held_drew (S := fun W2 => Below w.heap.size w W2 ∧ W2.heap[x]? = some (.cells #[.string nm, .int .i64 (pl : Int), .string s] 49 (0, 0))) (by kernel_rfl) (⟨HX.out.S.lo.drew, hbx⟩) (fun hS => ?_)
            refine wpAnyH_take (i := 0) (v := .pointer (some ⟨w.heap.size, 1, none⟩)) rfl (by kernel_rfl) (by kernel_rfl) (by kernel_rfl) (fun _ _ _ h => h) (Or.inl ⟨by simp [Region.wanted], fun W _ => by go_simp⟩) hS ?_
            simp only [List.getElem_toArray, List.getElem_cons_zero, Act.put, List.setIfInBounds_toArray, List.set_cons_zero, List.set_cons_succ]
            refine wpAnyH_take (i := 2) (v := .pointer (some ⟨x, 0, none⟩)) rfl (by kernel_rfl) (by kernel_rfl) (by kernel_rfl) (fun _ _ _ h => h) (Or.inl ⟨by simp [Region.wanted], fun W _ => by go_simp⟩) hS ?_
            simp only [List.getElem_toArray, List.getElem_cons_zero, List.getElem_cons_succ, Act.put, List.setIfInBounds_toArray, List.set_cons_zero, List.set_cons_succ]
            refine wpAnyH_take (i := 3) (v := .string nm) rfl (by kernel_rfl) (by kernel_rfl) (by kernel_rfl) (fun _ _ _ h => h) (Or.inl ⟨by simp [Region.wanted], fun W hW => by have hq := cellD hW.2 0 (.string nm) rfl; go_simp⟩) hS ?_
            simp only [List.getElem_toArray, List.getElem_cons_zero, List.getElem_cons_succ, Act.put, List.setIfInBounds_toArray, List.set_cons_zero, List.set_cons_succ]
            refine wpAnyH_take (i := 4) (v := .pointer (some ⟨x, 1, none⟩)) rfl (by kernel_rfl) (by kernel_rfl) (by kernel_rfl) (fun _ _ _ h => h) (Or.inl ⟨by simp [Region.wanted], fun W _ => by go_simp⟩) hS ?_
            simp only [List.getElem_toArray, List.getElem_cons_zero, List.getElem_cons_succ, Act.put, List.setIfInBounds_toArray, List.set_cons_zero, List.set_cons_succ]
            refine wpAnyH_take (i := 5) (v := .int .i64 (pl : Int)) rfl (by kernel_rfl) (by kernel_rfl) (by kernel_rfl) (fun _ _ _ h => h) (Or.inl ⟨by simp [Region.wanted], fun W hW => by have hq := cellD hW.2 1 (.int .i64 (pl : Int)) rfl; go_simp⟩) hS ?_
            simp only [List.getElem_toArray, List.getElem_cons_zero, List.getElem_cons_succ, Act.put, List.setIfInBounds_toArray, List.set_cons_zero, List.set_cons_succ]
            refine wpAnyH_take (i := 6) (v := .pointer (some ⟨x, 2, none⟩)) rfl (by kernel_rfl) (by kernel_rfl) (by kernel_rfl) (fun _ _ _ h => h) (Or.inl ⟨by simp [Region.wanted], fun W _ => by go_simp⟩) hS ?_
            simp only [List.getElem_toArray, List.getElem_cons_zero, List.getElem_cons_succ, Act.put, List.setIfInBounds_toArray, List.set_cons_zero, List.set_cons_succ]
            refine wpAnyH_take (i := 7) (v := .string s) rfl (by kernel_rfl) (by kernel_rfl) (by kernel_rfl) (fun _ _ _ h => h) (Or.inl ⟨by simp [Region.wanted], fun W hW => by have hq := cellD hW.2 2 (.string s) rfl; go_simp⟩) hS ?_
            simp only [List.getElem_toArray, List.getElem_cons_zero, List.getElem_cons_succ, Act.put, List.setIfInBounds_toArray, List.set_cons_zero, List.set_cons_succ]
            refine wpAnyH_take (i := 8) (v := .int .i64 (nn : Int)) rfl (by kernel_rfl) (by kernel_rfl) (by kernel_rfl) (fun _ _ _ h => h) (Or.inl ⟨by simp [Region.wanted], fun W _ => by go_simp⟩) hS ?_
            simp only [List.getElem_toArray, List.getElem_cons_zero, List.getElem_cons_succ, Act.put, List.setIfInBounds_toArray, List.set_cons_zero, List.set_cons_succ]
            refine wpAnyH_take (i := 9) (v := .string (s.extract 0 nn)) rfl (by kernel_rfl) (by kernel_rfl) (by kernel_rfl) (fun _ _ _ h => h) (Or.inl ⟨by simp [Region.wanted], fun W _ => by go_simp; try (intro hx0; omega)⟩) hS ?_
            simp only [List.getElem_toArray, List.getElem_cons_zero, List.getElem_cons_succ, Act.put, List.setIfInBounds_toArray, List.set_cons_zero, List.set_cons_succ]
            refine wpAnyH_ready (rs := [1]) (by kernel_rfl) (by simp) ?_
            refine AllReadyH.cons rfl (fun K1 hK1 => ?_) AllReadyH.nil
            refine wanted_go rfl ?_
            simp only [List.getElem_toArray, List.getElem_cons_zero, List.getElem_cons_succ]
            go_wp2
            refine hK1.out _ _ hS (fun _ => ?_)
            refine wpAnyH_ready (rs := [10]) (by kernel_rfl) (by simp) ?_
            refine AllReadyH.cons rfl (fun K2 hK2 => ?_) AllReadyH.nil
            refine wanted_go rfl ?_
            simp only [List.getElem_toArray, List.getElem_cons_zero, List.getElem_cons_succ]
            have HF := Lib.hid (HX.out.f2.at.below (Below.refl _ WX).drew)
            go_wp2_with (go_at_call 41; refine (HP.out _ HF.out).mono ?_; rintro e w2 ⟨⟨v, rfl, ho⟩, hb⟩; obtain ⟨a4, c4, rfl, hc4, hf4, hb4⟩ := files_own ho; have HBW := Lib.hid hb; have HF4 := Lib.hid (files_off hf4 hb4 (lt_of_blkD HX.out.S.box) (lt_of_blkD HX.out.S.res)); have HA4 := Lib.hid (show AdrP P a4 from fun b hb => HPG.out b (Nat.le_trans HX.out.S.lo.size (hb4 b hb))); clear ho hb hf4 hb4)
            refine hK2.out _ _ (⟨hS.1.trans (HBW.out.mono hS.1.size), (HBW.out.block _ hx1).trans hS.2⟩) (fun hS2 => ?_)
            refine wpAnyH_take (i := 11) (v := .pointer (some ⟨w.heap.size, 1, none⟩)) rfl (by kernel_rfl) (by kernel_rfl) (by kernel_rfl) (fun _ _ _ h => h) (Or.inl ⟨by simp [Region.wanted], fun W _ => by go_simp⟩) hS2 ?_
            simp only [List.getElem_toArray, List.getElem_cons_zero, List.getElem_cons_succ, Act.put, List.setIfInBounds_toArray, List.set_cons_zero, List.set_cons_succ]
            refine wpAnyH_ready (rs := [12]) (by kernel_rfl) (by simp) ?_
            refine AllReadyH.cons rfl (fun K3 hK3 => ?_) AllReadyH.nil
            refine wanted_go rfl ?_
            simp only [List.getElem_toArray, List.getElem_cons_zero, List.getElem_cons_succ]
            have HQ := Lib.hid (HX.out.below ((Below.refl _ WX).drew.trans HBW.out))
            have g0 := HQ.out.S.cell 1 (.slice b2 kq.length e2) rfl
            have g1 := HQ.out.S.free 1
            have H6 := Lib.hid (show DkIn w w.heap.size (w.heap.size + 1) a1 a4 _ c1 c4 c3 ⟨st, KQ2, pe, rm⟩ _ from ⟨HQ.out.S.set 1 (.slice a4 KQ2.length c4), HQ.out.f1.set 1 _, HF4.out.set 1 _, HQ.out.f3.set 1 _⟩)
            go_wp2
            refine hK3.out _ _ (⟨H6.out.S.lo, (heap_setCell_ne _ (by omega)).trans hS2.2⟩) (fun hS3 => ?_)
            refine wpAnyH_done (by kernel_rfl) ?_ _
            go_wp2
            go_roundw
            case rel => exact ⟨k + 1, a4, c4, KQ2, by omega, by go_num, H6.out, HRES2.out, hc4, by omega, HSM2.out, .inr HA4.out⟩
            case measure => simp [intOf]; omega
          · skip
            rw [if_neg (by omega)] at hres
            have HRES2 := Lib.hid hres
            clear HRES hres HPUT HSMP
            go_wp2_with (((with_reducible refine atLoad (ty := 49) (x := .tmp 18) rfl ?_); refine wpList_loadGD rfl 49 (.tmp 18) rfl (.pointer (Option.some ⟨bp, op + k * 3, none⟩)) (.agg #[.string nm, .int .i64 (pl : Int), .string s]) rfl HLD.out ?_))
            go_roundw
            case rel => exact ⟨k + 1, b2, e2, kq, by omega, by go_num, HX.out, HRES2.out, hl2, by omega, HSQ.out, HAB.out⟩
            case measure => simp [intOf]; omega
        · rw [if_neg hzs] at hkn
          rw [hkn] at hres
          clear hkn
          by_cases hpos : 0 < s.size
          · skip
            rw [if_pos (by omega), Int.toNat_natCast, ByteArray.extract_zero_size] at hres
            have hts : s.size ≤ s.size := Nat.le_refl _
            have HP := Lib.hid (HPUT.out s hts)
            have HSM2 := Lib.hid (HSMP.out s hts)
            have hpl := hp2 s pl
            generalize putF kq nm pl s = KQ2 at *
            have HRES2 := Lib.hid hres
            clear HRES hres HPUT HSMP hts
            go_wp2_with (((with_reducible refine atLoad (ty := 49) (x := .tmp 18) rfl ?_); refine wpList_loadGD rfl 49 (.tmp 18) rfl (.pointer (Option.some ⟨bp, op + k * 3, none⟩)) (.agg #[.string nm, .int .i64 (pl : Int), .string s]) rfl HLD.out ?_))
            obtain ⟨x, hx⟩ : ∃ x, wr.heap.size = x := ⟨_, rfl⟩
            obtain ⟨WX, hWX⟩ : ∃ W, wr.alloc (.cells #[.string nm, .int .i64 (pl : Int), .string s] 49) = W := ⟨_, rfl⟩
            rw [hWX] at HX hbx
            rw [hx] at hbx hgx hgq
            rw [hWX, hx]
            have hx1 : x < WX.heap.size := lt_of_blkD hbx
            clear hWX hx d1 d2
            have d1 := HX.out.S.cell 1 (.slice b2 kq.length e2) rfl
            refine wp_region_held_drew (S := fun W2 => Below w.heap.size w W2 ∧ W2.heap[x]? = some (.cells #[.string nm, .int .i64 (pl : Int), .string s] 49 (0, 0))) (by kernel_rfl) (⟨HX.out.S.lo.drew, hbx⟩) (fun hS => ?_)
            refine wpAnyH_take (i := 0) (v := .pointer (some ⟨w.heap.size, 1, none⟩)) rfl (by kernel_rfl) (by kernel_rfl) (by kernel_rfl) (fun _ _ _ h => h) (Or.inl ⟨by simp [Region.wanted], fun W _ => by go_simp⟩) hS ?_
            simp only [List.getElem_toArray, List.getElem_cons_zero, Act.put, List.setIfInBounds_toArray, List.set_cons_zero, List.set_cons_succ]
            refine wpAnyH_take (i := 2) (v := .pointer (some ⟨x, 0, none⟩)) rfl (by kernel_rfl) (by kernel_rfl) (by kernel_rfl) (fun _ _ _ h => h) (Or.inl ⟨by simp [Region.wanted], fun W _ => by go_simp⟩) hS ?_
            simp only [List.getElem_toArray, List.getElem_cons_zero, List.getElem_cons_succ, Act.put, List.setIfInBounds_toArray, List.set_cons_zero, List.set_cons_succ]
            refine wpAnyH_take (i := 3) (v := .string nm) rfl (by kernel_rfl) (by kernel_rfl) (by kernel_rfl) (fun _ _ _ h => h) (Or.inl ⟨by simp [Region.wanted], fun W hW => by have hq := cellD hW.2 0 (.string nm) rfl; go_simp⟩) hS ?_
            simp only [List.getElem_toArray, List.getElem_cons_zero, List.getElem_cons_succ, Act.put, List.setIfInBounds_toArray, List.set_cons_zero, List.set_cons_succ]
            refine wpAnyH_take (i := 4) (v := .pointer (some ⟨x, 1, none⟩)) rfl (by kernel_rfl) (by kernel_rfl) (by kernel_rfl) (fun _ _ _ h => h) (Or.inl ⟨by simp [Region.wanted], fun W _ => by go_simp⟩) hS ?_
            simp only [List.getElem_toArray, List.getElem_cons_zero, List.getElem_cons_succ, Act.put, List.setIfInBounds_toArray, List.set_cons_zero, List.set_cons_succ]
            refine wpAnyH_take (i := 5) (v := .int .i64 (pl : Int)) rfl (by kernel_rfl) (by kernel_rfl) (by kernel_rfl) (fun _ _ _ h => h) (Or.inl ⟨by simp [Region.wanted], fun W hW => by have hq := cellD hW.2 1 (.int .i64 (pl : Int)) rfl; go_simp⟩) hS ?_
            simp only [List.getElem_toArray, List.getElem_cons_zero, List.getElem_cons_succ, Act.put, List.setIfInBounds_toArray, List.set_cons_zero, List.set_cons_succ]
            refine wpAnyH_take (i := 6) (v := .pointer (some ⟨x, 2, none⟩)) rfl (by kernel_rfl) (by kernel_rfl) (by kernel_rfl) (fun _ _ _ h => h) (Or.inl ⟨by simp [Region.wanted], fun W _ => by go_simp⟩) hS ?_
            simp only [List.getElem_toArray, List.getElem_cons_zero, List.getElem_cons_succ, Act.put, List.setIfInBounds_toArray, List.set_cons_zero, List.set_cons_succ]
            refine wpAnyH_take (i := 7) (v := .string s) rfl (by kernel_rfl) (by kernel_rfl) (by kernel_rfl) (fun _ _ _ h => h) (Or.inl ⟨by simp [Region.wanted], fun W hW => by have hq := cellD hW.2 2 (.string s) rfl; go_simp⟩) hS ?_
            simp only [List.getElem_toArray, List.getElem_cons_zero, List.getElem_cons_succ, Act.put, List.setIfInBounds_toArray, List.set_cons_zero, List.set_cons_succ]
            refine wpAnyH_take (i := 8) (v := .int .i64 (s.size : Int)) rfl (by kernel_rfl) (by kernel_rfl) (by kernel_rfl) (fun _ _ _ h => h) (Or.inl ⟨by simp [Region.wanted], fun W _ => by go_simp⟩) hS ?_
            simp only [List.getElem_toArray, List.getElem_cons_zero, List.getElem_cons_succ, Act.put, List.setIfInBounds_toArray, List.set_cons_zero, List.set_cons_succ]
            refine wpAnyH_take (i := 9) (v := .string s) rfl (by kernel_rfl) (by kernel_rfl) (by kernel_rfl) (fun _ _ _ h => h) (Or.inl ⟨by simp [Region.wanted], fun W _ => by go_simp; try (intro hx0; omega)⟩) hS ?_
            simp only [List.getElem_toArray, List.getElem_cons_zero, List.getElem_cons_succ, Act.put, List.setIfInBounds_toArray, List.set_cons_zero, List.set_cons_succ]
            refine wpAnyH_ready (rs := [1]) (by kernel_rfl) (by simp) ?_
            refine AllReadyH.cons rfl (fun K1 hK1 => ?_) AllReadyH.nil
            refine wanted_go rfl ?_
            simp only [List.getElem_toArray, List.getElem_cons_zero, List.getElem_cons_succ]
            go_wp2
            refine hK1.out _ _ hS (fun _ => ?_)
            refine wpAnyH_ready (rs := [10]) (by kernel_rfl) (by simp) ?_
            refine AllReadyH.cons rfl (fun K2 hK2 => ?_) AllReadyH.nil
            refine wanted_go rfl ?_
            simp only [List.getElem_toArray, List.getElem_cons_zero, List.getElem_cons_succ]
            have HF := Lib.hid (HX.out.f2.at.below (Below.refl _ WX).drew)
            go_wp2_with (go_at_call 41; refine (HP.out _ HF.out).mono ?_; rintro e w2 ⟨⟨v, rfl, ho⟩, hb⟩; obtain ⟨a4, c4, rfl, hc4, hf4, hb4⟩ := files_own ho; have HBW := Lib.hid hb; have HF4 := Lib.hid (files_off hf4 hb4 (lt_of_blkD HX.out.S.box) (lt_of_blkD HX.out.S.res)); have HA4 := Lib.hid (show AdrP P a4 from fun b hb => HPG.out b (Nat.le_trans HX.out.S.lo.size (hb4 b hb))); clear ho hb hf4 hb4)
            refine hK2.out _ _ (⟨hS.1.trans (HBW.out.mono hS.1.size), (HBW.out.block _ hx1).trans hS.2⟩) (fun hS2 => ?_)
            refine wpAnyH_take (i := 11) (v := .pointer (some ⟨w.heap.size, 1, none⟩)) rfl (by kernel_rfl) (by kernel_rfl) (by kernel_rfl) (fun _ _ _ h => h) (Or.inl ⟨by simp [Region.wanted], fun W _ => by go_simp⟩) hS2 ?_
            simp only [List.getElem_toArray, List.getElem_cons_zero, List.getElem_cons_succ, Act.put, List.setIfInBounds_toArray, List.set_cons_zero, List.set_cons_succ]
            refine wpAnyH_ready (rs := [12]) (by kernel_rfl) (by simp) ?_
            refine AllReadyH.cons rfl (fun K3 hK3 => ?_) AllReadyH.nil
            refine wanted_go rfl ?_
            simp only [List.getElem_toArray, List.getElem_cons_zero, List.getElem_cons_succ]
            have HQ := Lib.hid (HX.out.below ((Below.refl _ WX).drew.trans HBW.out))
            have g0 := HQ.out.S.cell 1 (.slice b2 kq.length e2) rfl
            have g1 := HQ.out.S.free 1
            have H6 := Lib.hid (show DkIn w w.heap.size (w.heap.size + 1) a1 a4 _ c1 c4 c3 ⟨st, KQ2, pe, rm⟩ _ from ⟨HQ.out.S.set 1 (.slice a4 KQ2.length c4), HQ.out.f1.set 1 _, HF4.out.set 1 _, HQ.out.f3.set 1 _⟩)
            go_wp2
            refine hK3.out _ _ (⟨H6.out.S.lo, (heap_setCell_ne _ (by omega)).trans hS2.2⟩) (fun hS3 => ?_)
            refine wpAnyH_done (by kernel_rfl) ?_ _
            go_wp2
            go_roundw
            case rel => exact ⟨k + 1, a4, c4, KQ2, by omega, by go_num, H6.out, HRES2.out, hc4, by omega, HSM2.out, .inr HA4.out⟩
            case measure => simp [intOf]; omega
          · skip
            rw [if_neg (by omega)] at hres
            have HRES2 := Lib.hid hres
            clear HRES hres HPUT HSMP
            go_wp2_with (((with_reducible refine atLoad (ty := 49) (x := .tmp 18) rfl ?_); refine wpList_loadGD rfl 49 (.tmp 18) rfl (.pointer (Option.some ⟨bp, op + k * 3, none⟩)) (.agg #[.string nm, .int .i64 (pl : Int), .string s]) rfl HLD.out ?_))
            go_roundw
            case rel => exact ⟨k + 1, b2, e2, kq, by omega, by go_num, HX.out, HRES2.out, hl2, by omega, HSQ.out, HAB.out⟩
            case measure => simp [intOf]; omega
      · have hkn := keepN_out (n := s.size) (show keep.length ≤ k by omega)
        rw [hkn] at hres
        clear hkn HKI HNK
        by_cases hpos : 0 < s.size
        · skip
          rw [if_pos (by omega), Int.toNat_natCast, ByteArray.extract_zero_size] at hres
          have hts : s.size ≤ s.size := Nat.le_refl _
          have HP := Lib.hid (HPUT.out s hts)
          have HSM2 := Lib.hid (HSMP.out s hts)
          have hpl := hp2 s pl
          generalize putF kq nm pl s = KQ2 at *
          have HRES2 := Lib.hid hres
          clear HRES hres HPUT HSMP hts
          go_wp2_with (((with_reducible refine atLoad (ty := 49) (x := .tmp 18) rfl ?_); refine wpList_loadGD rfl 49 (.tmp 18) rfl (.pointer (Option.some ⟨bp, op + k * 3, none⟩)) (.agg #[.string nm, .int .i64 (pl : Int), .string s]) rfl HLD.out ?_))
          obtain ⟨x, hx⟩ : ∃ x, wr.heap.size = x := ⟨_, rfl⟩
          obtain ⟨WX, hWX⟩ : ∃ W, wr.alloc (.cells #[.string nm, .int .i64 (pl : Int), .string s] 49) = W := ⟨_, rfl⟩
          rw [hWX] at HX hbx
          rw [hx] at hbx hgx hgq
          rw [hWX, hx]
          have hx1 : x < WX.heap.size := lt_of_blkD hbx
          clear hWX hx d1 d2
          have d1 := HX.out.S.cell 1 (.slice b2 kq.length e2) rfl
          refine wp_region_held_drew (S := fun W2 => Below w.heap.size w W2 ∧ W2.heap[x]? = some (.cells #[.string nm, .int .i64 (pl : Int), .string s] 49 (0, 0))) (by kernel_rfl) (⟨HX.out.S.lo.drew, hbx⟩) (fun hS => ?_)
          refine wpAnyH_take (i := 0) (v := .pointer (some ⟨w.heap.size, 1, none⟩)) rfl (by kernel_rfl) (by kernel_rfl) (by kernel_rfl) (fun _ _ _ h => h) (Or.inl ⟨by simp [Region.wanted], fun W _ => by go_simp⟩) hS ?_
          simp only [List.getElem_toArray, List.getElem_cons_zero, Act.put, List.setIfInBounds_toArray, List.set_cons_zero, List.set_cons_succ]
          refine wpAnyH_take (i := 2) (v := .pointer (some ⟨x, 0, none⟩)) rfl (by kernel_rfl) (by kernel_rfl) (by kernel_rfl) (fun _ _ _ h => h) (Or.inl ⟨by simp [Region.wanted], fun W _ => by go_simp⟩) hS ?_
          simp only [List.getElem_toArray, List.getElem_cons_zero, List.getElem_cons_succ, Act.put, List.setIfInBounds_toArray, List.set_cons_zero, List.set_cons_succ]
          refine wpAnyH_take (i := 3) (v := .string nm) rfl (by kernel_rfl) (by kernel_rfl) (by kernel_rfl) (fun _ _ _ h => h) (Or.inl ⟨by simp [Region.wanted], fun W hW => by have hq := cellD hW.2 0 (.string nm) rfl; go_simp⟩) hS ?_
          simp only [List.getElem_toArray, List.getElem_cons_zero, List.getElem_cons_succ, Act.put, List.setIfInBounds_toArray, List.set_cons_zero, List.set_cons_succ]
          refine wpAnyH_take (i := 4) (v := .pointer (some ⟨x, 1, none⟩)) rfl (by kernel_rfl) (by kernel_rfl) (by kernel_rfl) (fun _ _ _ h => h) (Or.inl ⟨by simp [Region.wanted], fun W _ => by go_simp⟩) hS ?_
          simp only [List.getElem_toArray, List.getElem_cons_zero, List.getElem_cons_succ, Act.put, List.setIfInBounds_toArray, List.set_cons_zero, List.set_cons_succ]
          refine wpAnyH_take (i := 5) (v := .int .i64 (pl : Int)) rfl (by kernel_rfl) (by kernel_rfl) (by kernel_rfl) (fun _ _ _ h => h) (Or.inl ⟨by simp [Region.wanted], fun W hW => by have hq := cellD hW.2 1 (.int .i64 (pl : Int)) rfl; go_simp⟩) hS ?_
          simp only [List.getElem_toArray, List.getElem_cons_zero, List.getElem_cons_succ, Act.put, List.setIfInBounds_toArray, List.set_cons_zero, List.set_cons_succ]
          refine wpAnyH_take (i := 6) (v := .pointer (some ⟨x, 2, none⟩)) rfl (by kernel_rfl) (by kernel_rfl) (by kernel_rfl) (fun _ _ _ h => h) (Or.inl ⟨by simp [Region.wanted], fun W _ => by go_simp⟩) hS ?_
          simp only [List.getElem_toArray, List.getElem_cons_zero, List.getElem_cons_succ, Act.put, List.setIfInBounds_toArray, List.set_cons_zero, List.set_cons_succ]
          refine wpAnyH_take (i := 7) (v := .string s) rfl (by kernel_rfl) (by kernel_rfl) (by kernel_rfl) (fun _ _ _ h => h) (Or.inl ⟨by simp [Region.wanted], fun W hW => by have hq := cellD hW.2 2 (.string s) rfl; go_simp⟩) hS ?_
          simp only [List.getElem_toArray, List.getElem_cons_zero, List.getElem_cons_succ, Act.put, List.setIfInBounds_toArray, List.set_cons_zero, List.set_cons_succ]
          refine wpAnyH_take (i := 8) (v := .int .i64 (s.size : Int)) rfl (by kernel_rfl) (by kernel_rfl) (by kernel_rfl) (fun _ _ _ h => h) (Or.inl ⟨by simp [Region.wanted], fun W _ => by go_simp⟩) hS ?_
          simp only [List.getElem_toArray, List.getElem_cons_zero, List.getElem_cons_succ, Act.put, List.setIfInBounds_toArray, List.set_cons_zero, List.set_cons_succ]
          refine wpAnyH_take (i := 9) (v := .string s) rfl (by kernel_rfl) (by kernel_rfl) (by kernel_rfl) (fun _ _ _ h => h) (Or.inl ⟨by simp [Region.wanted], fun W _ => by go_simp; try (intro hx0; omega)⟩) hS ?_
          simp only [List.getElem_toArray, List.getElem_cons_zero, List.getElem_cons_succ, Act.put, List.setIfInBounds_toArray, List.set_cons_zero, List.set_cons_succ]
          refine wpAnyH_ready (rs := [1]) (by kernel_rfl) (by simp) ?_
          refine AllReadyH.cons rfl (fun K1 hK1 => ?_) AllReadyH.nil
          refine wanted_go rfl ?_
          simp only [List.getElem_toArray, List.getElem_cons_zero, List.getElem_cons_succ]
          go_wp2
          refine hK1.out _ _ hS (fun _ => ?_)
          refine wpAnyH_ready (rs := [10]) (by kernel_rfl) (by simp) ?_
          refine AllReadyH.cons rfl (fun K2 hK2 => ?_) AllReadyH.nil
          refine wanted_go rfl ?_
          simp only [List.getElem_toArray, List.getElem_cons_zero, List.getElem_cons_succ]
          have HF := Lib.hid (HX.out.f2.at.below (Below.refl _ WX).drew)
          go_wp2_with (go_at_call 41; refine (HP.out _ HF.out).mono ?_; rintro e w2 ⟨⟨v, rfl, ho⟩, hb⟩; obtain ⟨a4, c4, rfl, hc4, hf4, hb4⟩ := files_own ho; have HBW := Lib.hid hb; have HF4 := Lib.hid (files_off hf4 hb4 (lt_of_blkD HX.out.S.box) (lt_of_blkD HX.out.S.res)); have HA4 := Lib.hid (show AdrP P a4 from fun b hb => HPG.out b (Nat.le_trans HX.out.S.lo.size (hb4 b hb))); clear ho hb hf4 hb4)
          refine hK2.out _ _ (⟨hS.1.trans (HBW.out.mono hS.1.size), (HBW.out.block _ hx1).trans hS.2⟩) (fun hS2 => ?_)
          refine wpAnyH_take (i := 11) (v := .pointer (some ⟨w.heap.size, 1, none⟩)) rfl (by kernel_rfl) (by kernel_rfl) (by kernel_rfl) (fun _ _ _ h => h) (Or.inl ⟨by simp [Region.wanted], fun W _ => by go_simp⟩) hS2 ?_
          simp only [List.getElem_toArray, List.getElem_cons_zero, List.getElem_cons_succ, Act.put, List.setIfInBounds_toArray, List.set_cons_zero, List.set_cons_succ]
          refine wpAnyH_ready (rs := [12]) (by kernel_rfl) (by simp) ?_
          refine AllReadyH.cons rfl (fun K3 hK3 => ?_) AllReadyH.nil
          refine wanted_go rfl ?_
          simp only [List.getElem_toArray, List.getElem_cons_zero, List.getElem_cons_succ]
          have HQ := Lib.hid (HX.out.below ((Below.refl _ WX).drew.trans HBW.out))
          have g0 := HQ.out.S.cell 1 (.slice b2 kq.length e2) rfl
          have g1 := HQ.out.S.free 1
          have H6 := Lib.hid (show DkIn w w.heap.size (w.heap.size + 1) a1 a4 _ c1 c4 c3 ⟨st, KQ2, pe, rm⟩ _ from ⟨HQ.out.S.set 1 (.slice a4 KQ2.length c4), HQ.out.f1.set 1 _, HF4.out.set 1 _, HQ.out.f3.set 1 _⟩)
          go_wp2
          refine hK3.out _ _ (⟨H6.out.S.lo, (heap_setCell_ne _ (by omega)).trans hS2.2⟩) (fun hS3 => ?_)
          refine wpAnyH_done (by kernel_rfl) ?_ _
          go_wp2
          go_roundw
          case rel => exact ⟨k + 1, a4, c4, KQ2, by omega, by go_num, H6.out, HRES2.out, hc4, by omega, HSM2.out, .inr HA4.out⟩
          case measure => simp [intOf]; omega
        · skip
          rw [if_neg (by omega)] at hres
          have HRES2 := Lib.hid hres
          clear HRES hres HPUT HSMP
          go_wp2_with (((with_reducible refine atLoad (ty := 49) (x := .tmp 18) rfl ?_); refine wpList_loadGD rfl 49 (.tmp 18) rfl (.pointer (Option.some ⟨bp, op + k * 3, none⟩)) (.agg #[.string nm, .int .i64 (pl : Int), .string s]) rfl HLD.out ?_))
          go_roundw
          case rel => exact ⟨k + 1, b2, e2, kq, by omega, by go_num, HX.out, HRES2.out, hl2, by omega, HSQ.out, HAB.out⟩
          case measure => simp [intOf]; omega
    · have hke : k = pe.length := by omega
      rw [crashG_end keep k pe kq (by omega)] at hres
      subst hres
      have HD := Lib.hid hD
      have d0 := hD.S.cell 0 (.slice a1 st.length c1) rfl
      have d3 := hD.S.free 0
      have H6 := Lib.hid (hD.S.set 0 (.slice b2 kq.length e2))
      have d4 := H6.out.cell 2 (.slice a3 pe.length c3) rfl
      have d5 := H6.out.free 2
      have H7 := Lib.hid (show DkIn w w.heap.size (w.heap.size + 1) b2 b2 none e2 e2 0 ⟨kq, kq, [], rm⟩ _ from ⟨H6.out.set 2 (.slice none 0 0), (HD.out.f2.set 0 (.slice b2 kq.length e2)).set 2 (.slice none 0 0), (HD.out.f2.set 0 (.slice b2 kq.length e2)).set 2 (.slice none 0 0), .inl rfl⟩)
      have HDD := Lib.hid (H7.out.S.done (dkC b2 b2 none e2 e2 0 ⟨kq, kq, [], rm⟩))
      have HDN := Lib.hid (H7.out.done ⟨hl2, hl2, Nat.le_refl _⟩ ⟨HAB.out, HAB.out, .inl rfl⟩)
      have HB := Lib.hid H7.out.S.box; have HR := Lib.hid H7.out.S.res
      have HO := Lib.hid (dkC_one b2 b2 none e2 e2 0 ⟨kq, kq, [], rm⟩)
      have HI := Lib.hid (dkC_info b2 b2 none e2 e2 0 ⟨kq, kq, [], rm⟩)
      have HZ := Lib.hid (show dkZ.size = (dkC b2 b2 none e2 e2 0 ⟨kq, kq, [], rm⟩).size from rfl)
      obtain ⟨CS, hCS⟩ : ∃ C, dkC b2 b2 none e2 e2 0 ⟨kq, kq, [], rm⟩ = C := ⟨_, rfl⟩
      rw [hCS] at HDD HDN HB HO HI HZ
      clear hCS H7 H6 HD hD HNK HPE HKI
      go_wp2_with (first
        | ((with_reducible refine atLoad (ty := 33) (x := .tmp 2) rfl ?_); refine wpList_load_row rfl 33 (.tmp 2) rfl w.heap.size rfl 33 CS (0, 0) _ HB.out Try.underlying33 rfl HI.out ?_)
        | ((with_reducible refine atStore (ty := 33) (x := .tmp 4) (y := .tmp 57) rfl ?_); refine wpList_store_row rfl 33 (.tmp 4) (.tmp 57) rfl (w.heap.size + 1) CS rfl rfl 33 _ HR.out HI.out HZ.out HO.out ?_))
      refine ret_cell rfl rfl rfl HDD.out.1 Try.underlying33 rfl HI.out ?_
      exact ⟨CS, rfl, HDN.out, HDD.out.2⟩
end Go.Proofs.Ytcedkilgfoiifaa
