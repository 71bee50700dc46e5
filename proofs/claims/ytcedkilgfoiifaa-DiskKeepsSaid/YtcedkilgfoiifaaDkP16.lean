/- The program's Crash. -/
import Derived.Test.YtcedkilgfoiifaaDkP15
namespace Go.Proofs.Ytcedkilgfoiifaa
open Go.RowKit Base Base2

/-- How many bytes those have that are no longer to come. -/
def sumG (L : List FileT) (left : Lit → Bool) : Nat := usedF (L.filter (fun f => !left (kS f.1)))
theorem sum_more (f : FileT) (p p' : FileT → Bool) : ∀ (L : List FileT), RiseF L → f ∈ L → p f = false → (∀ g ∈ L, p' g = (p g || decide (g.1 = f.1))) → usedF (L.filter p') = usedF (L.filter p) + f.2.size
  | [], _, h, _, _ => by cases h
  | a :: l, hr, h, hp, he => by
    have h2 := List.pairwise_cons.1 hr
    by_cases e : a.1 = f.1
    · have haf : a = f := by
        rcases List.mem_cons.1 h with h | h
        · exact h.symm
        · have := h2.1 f h; rw [e, ltB_irrefl] at this; cases this
      subst haf
      have hl : l.filter p' = l.filter p := List.filter_congr (fun g hg => by
        rw [he g (List.mem_cons_of_mem _ hg), decide_eq_false (fun e2 => by have := h2.1 g hg; rw [e2, ltB_irrefl] at this; cases this), Bool.or_false])
      rw [List.filter_cons, List.filter_cons, he a (List.mem_cons_self ..), hp, hl]
      simp [usedF_cons]; omega
    · have hfl : f ∈ l := by
        rcases List.mem_cons.1 h with h | h
        · rw [h] at e; exact absurd rfl e
        · exact h
      have ih := sum_more f p p' l h2.2 hfl hp (fun g hg => he g (List.mem_cons_of_mem _ hg))
      have ha : p' a = p a := by rw [he a (List.mem_cons_self ..), decide_eq_false e, Bool.or_false]
      rw [List.filter_cons, List.filter_cons, ha]
      by_cases hpa : p a = true
      · rw [if_pos hpa, if_pos hpa, usedF_cons, usedF_cons, ih]; omega
      · rw [if_neg hpa, if_neg hpa, ih]
theorem sumG_step {L : List FileT} (hr : RiseF L) {left : Lit → Bool} {x : ByteArray} (hx : (readF L x).size ≠ 0) (hl : left (kS x) = true) : sumG L (fun z => left z && !z.sameKey (kS x)) = sumG L left + (readF L x).size := by
  obtain ⟨f, hf, e, e2⟩ := readF_some hx
  rw [e2]
  refine sum_more f _ _ L hr hf (by rw [e, hl]; rfl) (fun g _ => ?_)
  by_cases eg : g.1 = f.1
  · have : (kS g.1).sameKey (kS x) = true := by rw [eg, e]; exact WideAt.sameKey_self (kS_key _)
    have e4 : decide (g.1 = f.1) = true := decide_eq_true eg
    simp only [this, e4]; cases left (kS g.1) <;> rfl
  · have : (kS g.1).sameKey (kS x) = false := Maps.sameKey_ne (fun e3 => eg ((kS_inj e3).trans e.symm))
    have e4 : decide (g.1 = f.1) = false := decide_eq_false eg
    simp only [this, e4]; cases left (kS g.1) <;> rfl
theorem sumG_start {L : List FileT} (hr : RiseF L) {D : DataW Value} (h : ∀ s, Maps.has D (kS s) = decide ((readF L s).size ≠ 0)) : sumG L (Maps.has D) = usedF (L.filter (fun f => decide (f.2.size = 0))) := by
  unfold sumG
  congr 1
  refine List.filter_congr (fun f hf => ?_)
  rw [h, readF_mem hr hf]
  by_cases e : f.2.size = 0
  · simp [e]
  · simp [e]
theorem used_zero : ∀ (L : List FileT), usedF (L.filter (fun f => decide (f.2.size = 0))) = 0
  | [] => rfl
  | a :: l => by
    rw [List.filter_cons]
    by_cases e : a.2.size = 0
    · rw [if_pos (by simpa using e), usedF_cons, used_zero l, e]
    · rw [if_neg (by simpa using e), used_zero l]
theorem used_filter (p : FileT → Bool) : ∀ (L : List FileT), usedF (L.filter p) ≤ usedF L
  | [] => Nat.le_refl _
  | a :: l => by
    have ih := used_filter p l
    rw [List.filter_cons, usedF_cons]
    split
    · rw [usedF_cons]; omega
    · omega
theorem sumG_le (L : List FileT) (left : Lit → Bool) : sumG L left ≤ usedF L := used_filter _ _
theorem sumG_end {L : List FileT} {left : Lit → Bool} (h : ∀ kl, left kl = false) : sumG L left = usedF L := by
  unfold sumG
  rw [List.filter_eq_self.2 (fun f _ => by rw [h]; rfl)]
/-- While a crash keeps what is chosen. -/
structure CrR (W : World) (keep : List Int) (d : DkT) (i : Nat) (cur : List FileT) (W' : World) : Prop where
  res : crashG keep 0 d.pend d.kept = crashG keep i (d.pend.drop i) cur
  rise : RiseF cur
  mx : MaxF cur
  len : cur.length ≤ d.kept.length + i
  map : MapAt W' (Rng W.heap.size W'.heap.size) W.heap.size (readF cur)
  lo : Below W.heap.size W W'
theorem drop_cons {α : Type} {l : List α} {i : Nat} {x : α} (h : l[i]? = some x) : l.drop i = x :: l.drop (i + 1) := by
  obtain ⟨hlt, e⟩ := List.getElem?_eq_some_iff.1 h
  rw [List.drop_eq_getElem_cons hlt, e]
theorem CrR.skip {W W1 : World} {keep : List Int} {d : DkT} {i : Nat} {cur : List FileT} {p : WriteT} (h : CrR W keep d i cur W1) (hi : d.pend[i]? = some p) (hk : ¬ 0 < keepN keep i p.2.2.size) : CrR W keep d (i + 1) cur W1 := by
  refine ⟨?_, h.rise, h.mx, by have := h.len; omega, h.map, h.lo⟩
  rw [h.res, drop_cons hi, crashG, if_neg hk]
theorem CrR.take {W W1 W2 : World} {keep : List Int} {d : DkT} {i k p : Nat} {cur : List FileT} {nm s : ByteArray} (h : CrR W keep d i cur W1) (hi : d.pend[i]? = some (nm, p, s)) (hk : keepN keep i s.size = (k : Int)) (hk0 : 0 < k) (hks : k ≤ s.size) (hsz : p + s.size ≤ 1048576)
    (hm : MapAt W2 (More (Rng W.heap.size W1.heap.size) W1.heap.size W2.heap.size) W.heap.size (upd (readF cur) nm (bytesL (putB (readF cur nm) p (s.extract 0 k))))) (hf : FrameM (Rng W.heap.size W1.heap.size) W1 W2) : CrR W keep d (i + 1) (putF cur nm p (s.extract 0 k)) W2 := by
  have hes : (s.extract 0 k).size = k := by rw [ext_size_k]; omega
  have hs2 := hf.size
  have hs1 := h.lo.size
  refine ⟨?_, putF_rise h.rise _ _ _, maxF_put h.mx (by rw [hes]; omega), ?_, ?_, ?_⟩
  · rw [h.res, drop_cons hi, crashG, hk, if_pos (by omega)]; rfl
  · have h1 : (putF cur nm p (s.extract 0 k)).length ≤ cur.length + 1 := setF_len _ _ _
    have := h.len; omega
  · refine (hm.same (fun x => readF_put h.rise nm (s.extract 0 k) p (by omega) x)).keepT (fun _ _ h _ _ => h) (fun j hj => ?_)
    rcases hj with hj | hj
    · exact ⟨hj.1, by have := hj.2; omega⟩
    · exact ⟨by have := hj.1; omega, hj.2⟩
  · exact h.lo.trans (hf.below (fun j hj => hj.1) hs1)
theorem keepN_choose (keep : List Int) (i : Nat) (n : Nat) (hn : n ≤ 1073741824) : min (chooseK keep i) (n : Int) = keepN keep i n := by
  unfold chooseK keepN
  cases hk : keep[i]? with
  | none => simp only; omega
  | some z => simp only; split <;> omega
theorem fun_in (f : Nat) (caps : Array Value) (n : Nat) (w : World) : (Op.equalIn (n + 1) 43 (.func (.func f) #[] caps) .nilFunc).run Try.prog w = .ok false w := by
  simp [Op.equalIn, run_underlying Try.underlying43]
theorem fun_ne (f : Nat) (caps : Array Value) (w : World) : (binOp .eql 43 (.func (.func f) #[] caps) .nilFunc).run Try.prog w = .ok (.bool false) w := by
  simp only [binOp]
  simp [Op.equal, Op.maxDepth, fun_in f caps 9999 w]
/-- Behind a crash. -/
theorem crash_done {W w2 w3 : World} {b : Nat} {F : Nat → Prop} {d : DkT} {m1 m2 : Nat} {F1 F2 : Nat → Prop} {pa : Option Addr} {pc : Nat} {fs : List Value} {L : List FileT} (h : PDh W b F d m1 m2 F1 F2 pa pc fs) (hb2 : Below W.heap.size W w2) (hm2 : MapAt w2 (Rng W.heap.size w2.heap.size) W.heap.size (readF L))
    (hm3 : MapAt w3 (Rng w2.heap.size w3.heap.size) w2.heap.size (readF L)) (hb3 : Below w2.heap.size w2 w3) (U : Int) (hU : (usedF L : Int) = U) :
    ∃ F', PDx ((((w3.setCell ⟨b, 0, none⟩ (.map (some w2.heap.size))).setCell ⟨b, 1, none⟩ (.map (some W.heap.size))).setCell ⟨b, 2, none⟩ (.slice none 0 0)).setCell ⟨b, 3, none⟩ (.int .i64 U)) b F' { d with stands := L, kept := L, pend := [] } ∧
      Frame F W ((((w3.setCell ⟨b, 0, none⟩ (.map (some w2.heap.size))).setCell ⟨b, 1, none⟩ (.map (some W.heap.size))).setCell ⟨b, 2, none⟩ (.slice none 0 0)).setCell ⟨b, 3, none⟩ (.int .i64 U)) ∧ Grows W F F' := by
  have hbW : b < W.heap.size := lt_of_blkD h.blk
  have s2 := hb2.size
  have s3 := hb3.size
  have hb3k : ∀ k, k < W.heap.size → w3.heap[k]? = W.heap[k]? := fun k hk => (hb3.block k (by omega)).trans (hb2.block k hk)
  have hblk : w3.heap[b]? = some (.cells (dC m1 m2 pa pc d) 66 (0, 0)) := (hb3k b hbW).trans h.blk
  have h4 := set_blkN (set_blkN (set_blkN (set_blkN hblk 0 (.map (some w2.heap.size))) 1 (.map (some W.heap.size))) 2 (.slice none 0 0)) 3 (.int .i64 U)
  have g2 : ∀ k, k ≠ b → ((((w3.setCell ⟨b, 0, none⟩ (.map (some w2.heap.size))).setCell ⟨b, 1, none⟩ (.map (some W.heap.size))).setCell ⟨b, 2, none⟩ (.slice none 0 0)).setCell ⟨b, 3, none⟩ (.int .i64 U)).heap[k]? = w3.heap[k]? := fun k hk => (heap_setCell_ne _ hk).trans ((heap_setCell_ne _ hk).trans ((heap_setCell_ne _ hk).trans (heap_setCell_ne _ hk)))
  have g1 : ((((w3.setCell ⟨b, 0, none⟩ (.map (some w2.heap.size))).setCell ⟨b, 1, none⟩ (.map (some W.heap.size))).setCell ⟨b, 2, none⟩ (.slice none 0 0)).setCell ⟨b, 3, none⟩ (.int .i64 U)).heap.size = w3.heap.size := by simp [World.setCell]
  have gos : ∀ x, x = ((((w3.setCell ⟨b, 0, none⟩ (.map (some w2.heap.size))).setCell ⟨b, 1, none⟩ (.map (some W.heap.size))).setCell ⟨b, 2, none⟩ (.slice none 0 0)).setCell ⟨b, 3, none⟩ (.int .i64 U)) → x.os = w3.os ∧ x.tape = w3.tape ∧ x.output = w3.output := fun x e => by subst e; exact ⟨rfl, rfl, rfl⟩
  have gos2 := gos _ rfl
  clear gos
  generalize (((w3.setCell ⟨b, 0, none⟩ (.map (some w2.heap.size))).setCell ⟨b, 1, none⟩ (.map (some W.heap.size))).setCell ⟨b, 2, none⟩ (.slice none 0 0)).setCell ⟨b, 3, none⟩ (.int .i64 U) = W' at *
  refine ⟨More F W.heap.size W'.heap.size, ⟨w2.heap.size, W.heap.size, Rng w2.heap.size w3.heap.size, Rng W.heap.size w2.heap.size, none, 0, [], ?_⟩, ⟨gos2.1.trans (hb3.os.trans hb2.os), gos2.2.1.trans (hb3.tape.trans hb2.tape), gos2.2.2.trans (hb3.output.trans hb2.output), by omega, fun k hk hn => ?_⟩, fun k hk => hk.elim .inl (fun h => .inr h.1)⟩
  · refine ⟨?_, ?_, ?_, fun k x1 x2 => by have := x1.1; have := x2.2; omega, fun k hk => .inr ⟨by have := hk.1; omega, by have := hk.2; omega⟩, fun k hk => .inr ⟨hk.1, by have := hk.2; omega⟩, .inl h.sb, ⟨⟨rfl, .inl ⟨rfl, rfl⟩⟩, fun k hk => (by cases hk), fun i p hi => (by simp at hi)⟩, rfl, fun k hk => ?_⟩
    · rw [h4]; simp [dC, hU]
    · exact hm3.keep (fun k _ hk => g2 k (by have := hk.1; omega)) (fun _ h => h)
    · exact hm2.keep (fun k hk1 hk => (g2 k (by have := hk.1; omega)).trans (hb3.block k hk1)) (fun _ h => h)
    · rcases hk with hk | hk
      · have := h.lt k hk; omega
      · exact hk.2
  · rw [g2 k (fun e => hn (by rw [e]; exact h.sb))]; exact hb3k k hk

set_option maxRecDepth 100000 in
set_option maxHeartbeats 8000000 in
theorem crash16h {W : World} {b : Nat} {F : Nat → Prop} {d : DkT} {m1 m2 : Nat} {F1 F2 : Nat → Prop} {pa : Option Addr} {pc : Nat} {fs : List Value} (f : Nat) (caps : Array Value) (keep : List Int) (h : PDh W b F d m1 m2 F1 F2 pa pc fs) (hp : PlayOk 200 d)
    (HE : ∀ (args : Array Value) (w : World), (callFunc f args).run Try.prog w = .ok (.enter f args) w) (hz : ∀ z ∈ keep, In64D z) (hch : ∀ (i : Nat) (W' : World), i < d.pend.length → Frame F W W' → Calls Try.prog f (#[.int .i64 (i : Int)] ++ caps) W' fun e w' => e = .returned (.int .i64 (chooseK keep i)) ∧ w' = W') :
    Calls Try.prog 16 #[.pointer (some ⟨b, 0, none⟩), .func (.func f) #[] caps] W fun e w' => e = .returned (.int .i64 0) ∧ ∃ F', PDx w' b F' (crashF d keep) ∧ Frame F W w' ∧ Grows W F F' := by
  have hq1 := cellP h.blk 1 (.map (some m2)) rfl
  have hne := fun_ne f caps
  have HP := Lib.hid h
  have HOK := Lib.hid hp
  have HCH := Lib.hid hch
  have HZ := Lib.hid hz
  have hlk := hp.lk
  have HA := Lib.hid (again34 m2 F2 (readF d.kept) W h.M2 (d.kept.map (fun f => f.1)) (fun s hs => readF_names hs) (by simp; omega) (fun s => by have := maxF_read hp.mkp s; omega))
  have HAG := Lib.hid (fun (L : List FileT) (m : Nat) (F : Nat → Prop) (W : World) (hm : MapAt W F m (readF L)) (hl : L.length ≤ 100000) (hx : MaxF L) => again34 m F (readF L) W hm (L.map (fun f => f.1)) (fun s hs => readF_names hs) (by simpa using hl) (fun s => by have := maxF_read hx s; omega))
  clear h hp hch hz
  go_enter Try.func16, Try.ntmps16
  go_wp2_with (first
    | (go_at_call 34; refine HA.out.mono ?_; rintro e w1 ⟨rfl, hm, hb⟩; have hp1 := HP.out.below hb; have hq2 := cellP hp1.blk 2 (.slice pa d.pend.length pc) rfl; have HST : Hid (CrR W keep d 0 d.kept w1) := ⟨rfl, HOK.out.rk, HOK.out.mkp, Nat.le_refl _, hm, hb⟩; clear hp1 hm hb))
  go_loopw [29] (fun vi W' => ∃ (i : Nat) (cur : List FileT), i ≤ d.pend.length ∧ vi = .int .i64 (i : Int) ∧ CrR W keep d i cur W') (fun vi _ => d.pend.length - (intOf vi).toNat)
  case atStart => exact ⟨0, d.kept, by omega, rfl, HST.out⟩
  case round =>
    obtain ⟨i, cur, hi, rfl, hcr⟩ := hrel
    have HCR := Lib.hid hcr
    have hp1 := HP.out.below hcr.lo
    by_cases hlt : i < d.pend.length
    · obtain ⟨p0, hpi⟩ : ∃ p, d.pend[i]? = Option.some p := ⟨d.pend[i], by simp [hlt]⟩
      have hpm := List.mem_of_getElem? hpi
      obtain ⟨q1, q2, q3, hfi, hcw, _, _, _⟩ := hp1.pe.fun_ i p0 hpi
      obtain ⟨g, c, hsl⟩ := own_shape' hp1.pe.own (by omega)
      simp only [Value.slice.injEq] at hsl
      obtain ⟨rfl, _, rfl⟩ := hsl
      have hcf := own_get1 hp1.pe.own hfi
      have hmp := HOK.out.mp p0 hpm
      obtain ⟨hnm0, hsz0⟩ := HOK.out.gp p0 hpm
      have hnm := named_size hnm0
      obtain ⟨nm, p, s⟩ := p0
      dsimp only at hcw hmp hsz0 hnm
      have HHO := Lib.hid (maxF_read hcr.mx nm)
      have HCW : Hid (CellsW wr q1 q2 q3 (nm, p, s)) := hcw
      have HPI := Lib.hid hpi
      have HLL : Hid ((cur.map (fun f => f.1)).length ≤ 100000) := by show (cur.map (fun f => f.1)).length ≤ 100000; have := hcr.len; simp; omega
      have HAS := Lib.hid (asked39 f caps i (chooseK keep i) wr HE (HCH.out i wr hlt (Below.frame hcr.lo)))
      have hkn := keepN_choose keep i s.size (by omega)
      obtain ⟨Z, hZ⟩ : ∃ z, chooseK keep i = z := ⟨_, rfl⟩
      rw [hZ] at HAS hkn
      clear hcr hp1 hpm hcw hfi hnm0 hpi hZ
      unfold funW at hcf
      by_cases hZ0 : 0 < Z
      · obtain ⟨k, hk⟩ : ∃ k : Nat, keepN keep i s.size = (k : Int) := ⟨(keepN keep i s.size).toNat, by omega⟩
        have HK := Lib.hid hk
        rw [hk] at hkn
        have HMIN := Lib.hid hkn
        have hk0 : 0 < k := by omega
        have hks : k ≤ s.size := by omega
        clear hk hkn
        go_wp2_with (first
          | (go_at_call 39; refine HAS.out.mono ?_; rintro e wx ⟨rfl, hwx⟩; have hwy := hwx.symm; subst hwy)
          | (go_at_call 47; refine (written47 W.heap.size (Rng W.heap.size wr.heap.size) (readF cur) Z q1 q2 q3 k nm s p _ HCR.out.map (cur.map (fun f => f.1)) (fun s hs => readF_names hs) HLL.out HCW.out hZ0 HMIN.out hk0 hks (by omega) HHO.out hmp).mono ?_; rintro e w1 ⟨rfl, hm1, hf1⟩; have HM1 := Lib.hid hm1; have HF1 := Lib.hid hf1; clear hm1 hf1))
        go_roundw
        case rel => exact ⟨i + 1, _, by omega, by go_num, HCR.out.take HPI.out HK.out hk0 hks hmp HM1.out HF1.out⟩
        case measure => simp [intOf]; omega
      · have HSK := Lib.hid (HCR.out.skip HPI.out (by show ¬ 0 < keepN keep i s.size; omega))
        have hZ1 : Z ≤ 0 := by omega
        have HNO := Lib.hid (fun a1 a2 a3 => written47no W.heap.size Z a1 a2 a3 wr hZ1)
        clear hkn hZ0
        go_wp2_with (first
          | (go_at_call 39; refine HAS.out.mono ?_; rintro e wx ⟨rfl, hwx⟩; have hwy := hwx.symm; subst hwy)
          | (go_at_call 47; refine (HNO.out _ _ _).mono ?_; rintro e w1 ⟨rfl, rfl⟩))
        go_roundw
        case rel => exact ⟨i + 1, _, by omega, by go_num, HSK.out⟩
        case measure => simp [intOf]; omega
    · have hie : i = d.pend.length := by omega
      subst hie
      have hres := hcr.res
      rw [List.drop_length] at hres
      have hcur : crashG keep 0 d.pend d.kept = cur := hres
      have hce : crashF d keep = { d with stands := cur, kept := cur, pend := [] } := by unfold crashF; rw [hcur]
      have HCE := Lib.hid hce
      have hln := hcr.len
      clear hres hcur hce hp1
      obtain ⟨D, G, hG⟩ := hcr.map
      have HG := Lib.hid hG
      have hgl := hG.lt
      have hub : usedF cur ≤ 209715200 := by have := maxF_used cur hcr.mx; omega
      have HRI := Lib.hid hcr.rise; have HMX := Lib.hid hcr.mx
      clear hG hcr
      go_wp2_with (first
        | (at_range; refine wpList_range_own _ rfl _ 63 rfl 9 72 keyed9 Try.underlying63 RH W.heap.size _ D rfl HG.out.own ?_; intro w0 hrg0 hg0 hs0)
        | go_in)
      go_frame
      obtain ⟨it, hit⟩ : ∃ k, k = wr.heap.size := ⟨_, rfl⟩
      rw [← hit] at hrg0 ⊢
      have HG0 := Lib.hid hg0
      have HIT := Lib.hid hit
      have hst0 := sumG_start HRI.out HG.out.has
      rw [used_zero] at hst0
      have HS0 := Lib.hid hst0
      have HSZ := Lib.hid hs0
      have HIS : Hid (W.heap.size < it ∧ it < w0.heap.size) := ⟨by omega, by omega⟩
      have HMG : Hid (∀ Wl, w0.grownBy Wl (some it) → MapG Wl (Rng W.heap.size it) W.heap.size (readF cur) D G) := fun Wl hw => HG.out.keep (fun k hk _ => (hw.block k (by omega) (by simp; omega)).trans (hg0.block k hk (by simp))) (fun k hk => ⟨hk.1, by have := hk.2; omega⟩)
      have HBL : Hid (∀ Wl, w0.grownBy Wl (some it) → Below W.heap.size W Wl) := fun Wl hw => (HCR.out.lo.grown hg0 HCR.out.lo.size (fun k hk => by cases hk)).grown hw (by have := HCR.out.lo.size; omega) (fun k hk => by cases hk; omega)
      clear hst0 hs0 hg0 hit HCR HIT HSZ HG0
      go_loopw [6] (fun vs Wl => ∃ (left : Lit → Bool) (cnt : Nat), Wl.ranges Try.prog 9 RH W.heap.size it (Maps.size D) D left cnt ∧ vs = .int .i64 (sumG cur left : Int) ∧ w0.grownBy Wl (some it))
        (fun _ Wl => Wl.rangeLeft W.heap.size it)
      case atStart => exact ⟨_, _, hrg0, by rw [HS0.out]; rfl, World.grownBy.refl _ _⟩
      case round =>
        obtain ⟨left, cnt, hrg, rfl, hgw⟩ := hrel
        have HGW := Lib.hid hgw
        clear hgw
        go_wp2_with (first
          | (at_next; refine wpList_next_ranges _ rfl _ rfl 9 keyed9 RH (fun x : List UInt8 => .string ⟨x.toArray⟩) (fun c : Option Addr × Nat × Nat => .slice c.1 c.2.1 c.2.2) (fun key kl hk => by obtain ⟨x, hx, _⟩ := Maps.keyOf_str Try.underlying9 hk; exact ⟨x, hx⟩) (fun v y hv => (RH_inv hv).2) W.heap.size it _ D _ _ rfl hrg ?_ ?_)
          | go_in)
        · intro hc0 hl0
          have HL0 := Lib.hid (sumG_end (L := cur) hl0)
          have HMW := HMG.out _ HGW.out
          have hbw := HBL.out _ HGW.out
          have HBW := Lib.hid hbw
          have hsz := HGW.out.size
          have HAL := Lib.hid (HAG.out cur W.heap.size (Rng W.heap.size it) wr ⟨D, G, HMW⟩ (by omega) HMX.out)
          have HM2 : Hid (MapAt wr (Rng W.heap.size wr.heap.size) W.heap.size (readF cur)) := MapAt.keep ⟨D, G, HMW⟩ (fun _ _ _ => rfl) (fun k hk => ⟨hk.1, by have := hk.2; have := HIS.out.2; omega⟩)
          have hbz : b < W.heap.size := lt_of_blkD HP.out.blk
          rw [HL0.out]
          clear hc0 hl0 HMW hbw hsz hrg hrg0
          go_wp2_with (first
            | (go_at_call 34; refine HAL.out.mono ?_; rintro e w3 ⟨rfl, hm3, hb3⟩; have HM3 := Lib.hid hm3; have HB3 := Lib.hid hb3; have hb3k : w3.heap[b]? = some (.cells (dC m1 m2 pa pc d) 66 (0, 0)) := (hb3.block b (by have := HBW.out.size; omega)).trans ((HBW.out.block b hbz).trans HP.out.blk); have q0 := cellP hb3k 0 (.map (some m1)) rfl; have q1 := cellP hb3k 1 (.map (some m2)) rfl; have q2 := cellP hb3k 2 (.slice pa d.pend.length pc) rfl; have q3 := cellP hb3k 3 (.int .i64 (usedF d.stands : Int)) rfl; have r0 := free_of_blkN hb3k 0; have r1 := free_of_blkN hb3k 1; have r2 := free_of_blkN hb3k 2; have r3 := free_of_blkN hb3k 3; clear hm3 hb3 hb3k))
          go_ret
          refine ⟨rfl, ?_⟩
          rw [HCE.out]
          exact crash_done HP.out HBW.out HM2.out HM3.out HB3.out _ rfl
        · intro x ca cn cc kl yd yp w2 cnt2 hkey hlk hv hat hrg2 hlt2 hg2 hs2 hen
          obtain ⟨hkl, h0, hval, hxl⟩ := HG.out.entry hkey hv hat
          subst hkl
          have HST2 := Lib.hid (sumG_step HRI.out h0 hlk)
          have hle := sumG_le cur left
          have hle2 := sumG_le cur (fun z => left z && !z.sameKey (kS ⟨x.toArray⟩))
          have HR2 := Lib.hid hrg2
          have HG2 : Hid (w0.grownBy w2 (some it)) := HGW.out.trans hg2
          have HLT : Hid (w2.rangeLeft W.heap.size it < wr.rangeLeft W.heap.size it) := by show w2.rangeLeft W.heap.size it < wr.rangeLeft W.heap.size it; rw [hrg2.left_eq, hrg.left_eq]; exact hlt2
          rw [hval] at hen ⊢
          unfold sliceB at hen ⊢
          generalize (⟨x.toArray⟩ : ByteArray) = nm at *
          generalize G nm = g at *
          generalize readF cur nm = bs at *
          have hs1 : sumG cur (fun z => left z && !z.sameKey (kS nm)) = sumG cur left + bs.size := HST2.out
          rw [hs1] at hle2
          obtain ⟨s0, hs0⟩ : ∃ s, sumG cur left = s := ⟨_, rfl⟩
          rw [hs0] at hle hle2 hs1 ⊢
          have HS1 := Lib.hid hs1
          clear hs2 hv hat hkey hlk hval h0 hxl hg2 hrg2 hlt2 hrg hrg0 hs0 HST2 hs1
          go_wp2
          go_roundw
          case rel => exact ⟨_, cnt2, HR2.out, by rw [HS1.out]; go_num, HG2.out⟩
          case measure => exact HLT.out
end Go.Proofs.Ytcedkilgfoiifaa
