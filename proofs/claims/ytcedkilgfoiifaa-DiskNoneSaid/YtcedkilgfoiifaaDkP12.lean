/- The program's Write. -/
import Derived.Test.YtcedkilgfoiifaaDkP11
import Derived.Test.YtcedkilgfoiifaaDkP10
import Derived.Maps.AppendAt
namespace Go.Proofs.Ytcedkilgfoiifaa
open Go.RowKit Base Base2

theorem PDh.below {W W' : World} {b : Nat} {F : Nat → Prop} {d : DkT} {m1 m2 : Nat} {F1 F2 : Nat → Prop} {pa : Option Addr} {pc : Nat} {fs : List Value} (h : PDh W b F d m1 m2 F1 F2 pa pc fs) (hb : Below W.heap.size W W') : PDh W' b F d m1 m2 F1 F2 pa pc fs :=
  h.keep hb.size (fun k hk _ => hb.block k hk)
theorem Grows.same (W : World) (F : Nat → Prop) : Grows W F F := fun _ h => .inl h
/-- Nothing was done. -/
theorem pd_same {W W' : World} {b : Nat} {F : Nat → Prop} {d : DkT} {m1 m2 : Nat} {F1 F2 : Nat → Prop} {pa : Option Addr} {pc : Nat} {fs : List Value} (h : PDh W b F d m1 m2 F1 F2 pa pc fs) (hb : Below W.heap.size W W') : ∃ F', PDx W' b F' d ∧ Frame F W W' ∧ Grows W F F' :=
  ⟨F, ⟨m1, m2, F1, F2, pa, pc, fs, h.below hb⟩, Below.frame hb, Grows.same W F⟩
theorem val_slice (g : Nat × Nat) (s : ByteArray) : ∃ a c, valB g s = .slice a s.size c := by
  unfold valB
  split
  · rename_i h0; exact ⟨none, 0, by rw [h0]⟩
  · exact ⟨_, _, rfl⟩
theorem look_slice {W : World} {F : Nat → Prop} {m : Nat} {r : ByteArray → ByteArray} (h : MapAt W F m r) (s : ByteArray) (hs : s.size ≤ maxLen) : ∃ a c, (Instr.lookup 63 (.map (some m)) (.string s) false).run Try.prog W = .ok (.slice a (r s).size c) W := by
  obtain ⟨D, G, h⟩ := h
  obtain ⟨a, c, e⟩ := val_slice (G s) (r s)
  exact ⟨a, c, by rw [← e]; exact h.look s hs⟩
theorem len_map {W : World} {F : Nat → Prop} {m : Nat} {r : ByteArray → ByteArray} (h : MapAt W F m r) {L : List ByteArray} (hL : ∀ s, (r s).size ≠ 0 → s ∈ L) : ∃ n : Nat, n ≤ L.length ∧ ∀ ty, (Builtin.len_ #[63] ty #[.map (some m)]).run Try.prog W = .ok (.int .i64 (n : Int)) W := by
  obtain ⟨D, G, h⟩ := h
  exact ⟨_, h.size_le hL, fun ty => h.own.len Try.underlying63 ty⟩
theorem infoFn : (Try.prog.info? 71).map (fun i => (i.zero, i.size, i.bytes)) = some (some .nilFunc, 1, 8) := by kernel_rfl
set_option maxRecDepth 100000 in
set_option maxHeartbeats 4000000 in
theorem write19n {W : World} {b : Nat} {F : Nat → Prop} {d : DkT} {m1 m2 : Nat} {F1 F2 : Nat → Prop} {pa : Option Addr} {pc : Nat} {fs : List Value} (name s : ByteArray) (pl : Int) (h : PDh W b F d m1 m2 F1 F2 pa pc fs) (hn : name.size ≤ 100) (hna : namedS name = false) :
    Calls Try.prog 19 #[.pointer (some ⟨b, 0, none⟩), .string name, .int .i64 pl, .string s] W fun e w' => e = .returned (.int .i64 1) ∧ Below W.heap.size W w' := by
  have hnm := fun W => isName35 name W (by unfold maxLen; omega)
  rw [hna] at hnm
  have HNM := Lib.hid hnm
  have HP := Lib.hid h
  clear hnm h
  clear hn
  go_enter Try.func19, Try.ntmps19
  go_wp2_with (go_at_call 35; refine (HNM.out _).mono ?_; rintro e w1 ⟨rfl, mm, hw1⟩; have hB1 : Below W.heap.size W w1 := (by rw [hw1]; exact below_drews mm); have HB1 := Lib.hid hB1; have HP1 := Lib.hid (HP.out.below hB1); clear hw1 hB1)
  go_ret
  exact ⟨rfl, HB1.out⟩
set_option maxRecDepth 100000 in
set_option maxHeartbeats 4000000 in
theorem write19e {W : World} {b : Nat} {F : Nat → Prop} {d : DkT} {m1 m2 : Nat} {F1 F2 : Nat → Prop} {pa : Option Addr} {pc : Nat} {fs : List Value} (name s : ByteArray) (pl : Int) (h : PDh W b F d m1 m2 F1 F2 pa pc fs) (hn : name.size ≤ 100) (hna : namedS name = true) (hse : s.size = 0) :
    Calls Try.prog 19 #[.pointer (some ⟨b, 0, none⟩), .string name, .int .i64 pl, .string s] W fun e w' => e = .returned (.int .i64 1) ∧ Below W.heap.size W w' := by
  have hnm := fun W => isName35 name W (by unfold maxLen; omega)
  rw [hna] at hnm
  have HNM := Lib.hid hnm
  have HP := Lib.hid h
  clear hnm h
  have z1 : (s.toList == (⟨#[]⟩ : ByteArray).toList) = true := by rw [empty_of_size hse]; simp
  have z2 : s.toList.isEmpty = true := by rw [empty_of_size hse]; simp
  clear hn hse
  go_enter Try.func19, Try.ntmps19
  go_wp2_with (go_at_call 35; refine (HNM.out _).mono ?_; rintro e w1 ⟨rfl, mm, hw1⟩; have hB1 : Below W.heap.size W w1 := (by rw [hw1]; exact below_drews mm); have HB1 := Lib.hid hB1; have HP1 := Lib.hid (HP.out.below hB1); clear hw1 hB1)
  go_ret
  exact ⟨rfl, HB1.out⟩
set_option maxRecDepth 100000 in
set_option maxHeartbeats 4000000 in
theorem write19r {W : World} {b : Nat} {F : Nat → Prop} {d : DkT} {m1 m2 : Nat} {F1 F2 : Nat → Prop} {pa : Option Addr} {pc : Nat} {fs : List Value} (name s : ByteArray) (pl : Int) (h : PDh W b F d m1 m2 F1 F2 pa pc fs) (hn : name.size ≤ 100) (hp : PlayOk 200 d) (hna : namedS name = true) (hse : s.size ≠ 0) (hr : pl < 0) :
    Calls Try.prog 19 #[.pointer (some ⟨b, 0, none⟩), .string name, .int .i64 pl, .string s] W fun e w' => e = .returned (.int .i64 11) ∧ Below W.heap.size W w' := by
  have hnm := fun W => isName35 name W (by unfold maxLen; omega)
  rw [hna] at hnm
  have HNM := Lib.hid hnm
  have HP := Lib.hid h
  clear hnm h
  have z1 : (s.toList == (⟨#[]⟩ : ByteArray).toList) = false := (not_emptyD hse).1
  have z2 : s.toList.isEmpty = false := (not_emptyD hse).2
  have hH0 := maxF_read hp.ms name
  obtain ⟨H, hH⟩ : ∃ n, (readF d.stands name).size = n := ⟨_, rfl⟩
  rw [hH] at hH0
  go_enter Try.func19, Try.ntmps19
  go_wp2_with (go_at_call 35; refine (HNM.out _).mono ?_; rintro e w1 ⟨rfl, mm, hw1⟩; have hB1 : Below W.heap.size W w1 := (by rw [hw1]; exact below_drews mm); have HB1 := Lib.hid hB1; have hp1 := HP.out.below hB1; have HP1 := Lib.hid hp1; have hq0 := cellP hp1.blk 0 (.map (some m1)) rfl; obtain ⟨ha, hc, hlk⟩ := look_slice hp1.M1 name (by unfold maxLen; omega); rw [hH] at hlk; obtain ⟨nl, hnl, hlen⟩ := len_map hp1.M1 (L := d.stands.map (fun f => f.1)) (fun s hs => readF_names hs); have hn4 : ((nl : Int) == 4096) = false := (by rw [beq_eq_false_iff_ne]; have := hp.ls; simp at hnl; omega); clear hw1 hB1 hp1 hnl)
  go_ret
  exact ⟨rfl, HB1.out⟩
set_option maxRecDepth 100000 in
set_option maxHeartbeats 4000000 in
theorem write19q {W : World} {b : Nat} {F : Nat → Prop} {d : DkT} {m1 m2 : Nat} {F1 F2 : Nat → Prop} {pa : Option Addr} {pc : Nat} {fs : List Value} (name s : ByteArray) (pl : Int) (h : PDh W b F d m1 m2 F1 F2 pa pc fs) (hn : name.size ≤ 100) (hp : PlayOk 200 d) (hna : namedS name = true) (hse : s.size ≠ 0) (hr0 : 0 ≤ pl) (hr : ((readF d.stands name).size : Int) < pl) :
    Calls Try.prog 19 #[.pointer (some ⟨b, 0, none⟩), .string name, .int .i64 pl, .string s] W fun e w' => e = .returned (.int .i64 11) ∧ Below W.heap.size W w' := by
  have hnm := fun W => isName35 name W (by unfold maxLen; omega)
  rw [hna] at hnm
  have HNM := Lib.hid hnm
  have HP := Lib.hid h
  clear hnm h
  have z1 : (s.toList == (⟨#[]⟩ : ByteArray).toList) = false := (not_emptyD hse).1
  have z2 : s.toList.isEmpty = false := (not_emptyD hse).2
  have hH0 := maxF_read hp.ms name
  obtain ⟨H, hH⟩ : ∃ n, (readF d.stands name).size = n := ⟨_, rfl⟩
  rw [hH] at hH0
  have hr1 : ¬ pl < 0 := by omega
  rw [hH] at hr
  go_enter Try.func19, Try.ntmps19
  go_wp2_with (go_at_call 35; refine (HNM.out _).mono ?_; rintro e w1 ⟨rfl, mm, hw1⟩; have hB1 : Below W.heap.size W w1 := (by rw [hw1]; exact below_drews mm); have HB1 := Lib.hid hB1; have hp1 := HP.out.below hB1; have HP1 := Lib.hid hp1; have hq0 := cellP hp1.blk 0 (.map (some m1)) rfl; obtain ⟨ha, hc, hlk⟩ := look_slice hp1.M1 name (by unfold maxLen; omega); rw [hH] at hlk; obtain ⟨nl, hnl, hlen⟩ := len_map hp1.M1 (L := d.stands.map (fun f => f.1)) (fun s hs => readF_names hs); have hn4 : ((nl : Int) == 4096) = false := (by rw [beq_eq_false_iff_ne]; have := hp.ls; simp at hnl; omega); clear hw1 hB1 hp1 hnl)
  go_ret
  exact ⟨rfl, HB1.out⟩
set_option maxRecDepth 100000 in
set_option maxHeartbeats 4000000 in
theorem write19fz {W : World} {b : Nat} {F : Nat → Prop} {d : DkT} {m1 m2 : Nat} {F1 F2 : Nat → Prop} {pa : Option Addr} {pc : Nat} {fs : List Value} (name s : ByteArray) (pl : Int) (h : PDh W b F d m1 m2 F1 F2 pa pc fs) (hn : name.size ≤ 100) (hp : PlayOk 200 d) (hs : s.size ≤ 300) (hna : namedS name = true) (hse : s.size ≠ 0) (hr0 : 0 ≤ pl) (hr : pl ≤ ((readF d.stands name).size : Int)) (hz : (readF d.stands name).size = 0) (hf : d.room < (usedF (putF d.stands name pl.toNat s) : Int)) :
    Calls Try.prog 19 #[.pointer (some ⟨b, 0, none⟩), .string name, .int .i64 pl, .string s] W fun e w' => e = .returned (.int .i64 6) ∧ Below W.heap.size W w' := by
  have hnm := fun W => isName35 name W (by unfold maxLen; omega)
  rw [hna] at hnm
  have HNM := Lib.hid hnm
  have HP := Lib.hid h
  clear hnm h
  have z1 : (s.toList == (⟨#[]⟩ : ByteArray).toList) = false := (not_emptyD hse).1
  have z2 : s.toList.isEmpty = false := (not_emptyD hse).2
  have hH0 := maxF_read hp.ms name
  obtain ⟨H, hH⟩ : ∃ n, (readF d.stands name).size = n := ⟨_, rfl⟩
  rw [hH] at hH0
  obtain ⟨p, rfl⟩ : ∃ p : Nat, pl = (p : Int) := ⟨pl.toNat, by omega⟩
  rw [hH] at hr
  have hr1 : ¬ (p : Int) < 0 := by omega
  have hr2 : ¬ (H : Int) < (p : Int) := by omega
  obtain ⟨M, hM⟩ : ∃ M : Nat, M = p + s.size - H := ⟨_, rfl⟩
  have hmax : max (0 : Int) ((p : Int) + (s.size : Int) - (H : Int)) = (M : Int) := by omega
  have hup := used_put hp.rs name s p
  rw [hH] at hup
  have hu := used_bound hp
  have hrm0 := hp.rm0; have hrm1 := hp.rm1
  obtain ⟨U, hU⟩ : ∃ U, usedF d.stands = U := ⟨_, rfl⟩
  rw [hU] at hup hu
  obtain ⟨R, hR⟩ : ∃ R, d.room = R := ⟨_, rfl⟩
  rw [hR] at hrm0 hrm1
  rw [show ((p : Int)).toNat = p from rfl] at hf
  rw [hR] at hf
  have hgt : R - (U : Int) < (M : Int) := by omega
  rw [hH] at hz
  have hz2 : ((H : Int) == 0) = true := by rw [hz]; rfl
  clear hz
  clear hup hf hM
  go_enter Try.func19, Try.ntmps19
  go_wp2_with (first
    | (go_at_call 35; refine (HNM.out _).mono ?_; rintro e w1 ⟨rfl, mm, hw1⟩; have hB1 : Below W.heap.size W w1 := (by rw [hw1]; exact below_drews mm); have HB1 := Lib.hid hB1; have hp1 := HP.out.below hB1; have HP1 := Lib.hid hp1; have hq0 := cellP hp1.blk 0 (.map (some m1)) rfl; obtain ⟨ha, hc, hlk⟩ := look_slice hp1.M1 name (by unfold maxLen; omega); rw [hH] at hlk; obtain ⟨nl, hnl, hlen⟩ := len_map hp1.M1 (L := d.stands.map (fun f => f.1)) (fun s hs => readF_names hs); have hn4 : ((nl : Int) == 4096) = false := (by rw [beq_eq_false_iff_ne]; have := hp.ls; simp at hnl; omega); clear hw1 hB1 hp1 hnl)
    | (go_at_call 29; refine (room29n ⟨m1, m2, F1, F2, pa, pc, fs, HP1.out⟩ hp).mono ?_; rintro e w2 ⟨rfl, n2, hw2⟩; have hB2 : Below W.heap.size W w2 := (by rw [hw2]; exact below_drewN' HB1.out n2); have HB2 := Lib.hid hB2; have hp2 := HP.out.below hB2; have HP2 := Lib.hid hp2; have hq2 := cellP hp2.blk 0 (.map (some m1)) rfl; rw [hU, hR]; clear hw2 hB2 hp2))
  go_ret
  exact ⟨rfl, HB2.out⟩
set_option maxRecDepth 100000 in
set_option maxHeartbeats 4000000 in
theorem write19fy {W : World} {b : Nat} {F : Nat → Prop} {d : DkT} {m1 m2 : Nat} {F1 F2 : Nat → Prop} {pa : Option Addr} {pc : Nat} {fs : List Value} (name s : ByteArray) (pl : Int) (h : PDh W b F d m1 m2 F1 F2 pa pc fs) (hn : name.size ≤ 100) (hp : PlayOk 200 d) (hs : s.size ≤ 300) (hna : namedS name = true) (hse : s.size ≠ 0) (hr0 : 0 ≤ pl) (hr : pl ≤ ((readF d.stands name).size : Int)) (hz : (readF d.stands name).size ≠ 0) (hf : d.room < (usedF (putF d.stands name pl.toNat s) : Int)) :
    Calls Try.prog 19 #[.pointer (some ⟨b, 0, none⟩), .string name, .int .i64 pl, .string s] W fun e w' => e = .returned (.int .i64 6) ∧ Below W.heap.size W w' := by
  have hnm := fun W => isName35 name W (by unfold maxLen; omega)
  rw [hna] at hnm
  have HNM := Lib.hid hnm
  have HP := Lib.hid h
  clear hnm h
  have z1 : (s.toList == (⟨#[]⟩ : ByteArray).toList) = false := (not_emptyD hse).1
  have z2 : s.toList.isEmpty = false := (not_emptyD hse).2
  have hH0 := maxF_read hp.ms name
  obtain ⟨H, hH⟩ : ∃ n, (readF d.stands name).size = n := ⟨_, rfl⟩
  rw [hH] at hH0
  obtain ⟨p, rfl⟩ : ∃ p : Nat, pl = (p : Int) := ⟨pl.toNat, by omega⟩
  rw [hH] at hr
  have hr1 : ¬ (p : Int) < 0 := by omega
  have hr2 : ¬ (H : Int) < (p : Int) := by omega
  obtain ⟨M, hM⟩ : ∃ M : Nat, M = p + s.size - H := ⟨_, rfl⟩
  have hmax : max (0 : Int) ((p : Int) + (s.size : Int) - (H : Int)) = (M : Int) := by omega
  have hup := used_put hp.rs name s p
  rw [hH] at hup
  have hu := used_bound hp
  have hrm0 := hp.rm0; have hrm1 := hp.rm1
  obtain ⟨U, hU⟩ : ∃ U, usedF d.stands = U := ⟨_, rfl⟩
  rw [hU] at hup hu
  obtain ⟨R, hR⟩ : ∃ R, d.room = R := ⟨_, rfl⟩
  rw [hR] at hrm0 hrm1
  rw [show ((p : Int)).toNat = p from rfl] at hf
  rw [hR] at hf
  have hgt : R - (U : Int) < (M : Int) := by omega
  rw [hH] at hz
  have hz2 : ((H : Int) == 0) = false := by rw [beq_eq_false_iff_ne]; omega
  clear hup hf hM
  go_enter Try.func19, Try.ntmps19
  go_wp2_with (first
    | (go_at_call 35; refine (HNM.out _).mono ?_; rintro e w1 ⟨rfl, mm, hw1⟩; have hB1 : Below W.heap.size W w1 := (by rw [hw1]; exact below_drews mm); have HB1 := Lib.hid hB1; have hp1 := HP.out.below hB1; have HP1 := Lib.hid hp1; have hq0 := cellP hp1.blk 0 (.map (some m1)) rfl; obtain ⟨ha, hc, hlk⟩ := look_slice hp1.M1 name (by unfold maxLen; omega); rw [hH] at hlk; obtain ⟨nl, hnl, hlen⟩ := len_map hp1.M1 (L := d.stands.map (fun f => f.1)) (fun s hs => readF_names hs); have hn4 : ((nl : Int) == 4096) = false := (by rw [beq_eq_false_iff_ne]; have := hp.ls; simp at hnl; omega); clear hw1 hB1 hp1 hnl)
    | (go_at_call 29; refine (room29n ⟨m1, m2, F1, F2, pa, pc, fs, HP1.out⟩ hp).mono ?_; rintro e w2 ⟨rfl, n2, hw2⟩; have hB2 : Below W.heap.size W w2 := (by rw [hw2]; exact below_drewN' HB1.out n2); have HB2 := Lib.hid hB2; have hp2 := HP.out.below hB2; have HP2 := Lib.hid hp2; have hq2 := cellP hp2.blk 0 (.map (some m1)) rfl; rw [hU, hR]; clear hw2 hB2 hp2))
  go_ret
  exact ⟨rfl, HB2.out⟩
theorem PDh.size {W : World} {b : Nat} {F : Nat → Prop} {d : DkT} {m1 m2 : Nat} {F1 F2 : Nat → Prop} {pa : Option Addr} {pc : Nat} {fs : List Value} (h : PDh W b F d m1 m2 F1 F2 pa pc fs) : b < W.heap.size := lt_of_blkD h.blk
/-- Behind a write that is taken. -/
theorem write_done {W w5 w6 w7 : World} {b : Nat} {F : Nat → Prop} {d : DkT} {m1 m2 : Nat} {F1 F2 : Nat → Prop} {pa : Option Addr} {pc : Nat} {fs : List Value} {nm s : ByteArray} {p q1 q2 q3 : Nat} {v7 : Value} {o : Obj}
    (hr : RiseF d.stands) (hs : 0 < s.size) (h5 : PDh w5 b F d m1 m2 F1 F2 pa pc fs) (hW : PDh W b F d m1 m2 F1 F2 pa pc fs) (hb5 : Below W.heap.size W w5) (hc : CellsW w5 q1 q2 q3 (nm, p, s)) (hq : W.heap.size ≤ q1 ∧ W.heap.size ≤ q2 ∧ W.heap.size ≤ q3)
    (hm6 : MapAt w6 (More F1 w5.heap.size w6.heap.size) m1 (upd (readF d.stands) nm (bytesL (putB (readF d.stands nm) p s)))) (hf6 : FrameM F1 w5 w6)
    (ho : w7.ownsRow 0 71 1 v7 (d.pend.length + 1) (fs ++ [funW q1 q2 q3])) (hg : (w6.alloc o).grownBy w7 (Value.slice pa d.pend.length pc).ownBlock) (hat : v7.ownBlock = (Value.slice pa d.pend.length pc).ownBlock ∨ v7.ownBlock = some (w6.alloc o).heap.size) (U : Int) (hU : U = (usedF (putF d.stands nm p s) : Int)) :
    ∃ F', PDx ((w7.setCell ⟨b, 2, none⟩ v7).setCell ⟨b, 3, none⟩ (.int .i64 U)) b F' { d with stands := putF d.stands nm p s, pend := d.pend ++ [(nm, p, s)] } ∧ Frame F W ((w7.setCell ⟨b, 2, none⟩ v7).setCell ⟨b, 3, none⟩ (.int .i64 U)) ∧ Grows W F F' := by
  obtain ⟨g7, c7, hv7⟩ := own_shape' ho (by omega)
  have hpe6 := h5.pe.frame hf6 (fun _ h => h)
  have hs56 := hf6.size
  have hsW5 := hb5.size
  have hs67 : w6.heap.size + 1 ≤ w7.heap.size := by have := hg.size; simpa using this
  have hbW := hW.size
  have hb6 : w6.heap[b]? = some (.cells (dC m1 m2 pa pc d) 66 (0, 0)) := hf6.block _ _ h5.blk (fun h => by cases h)
  have hstep7 : ∀ k, k < w6.heap.size → some k ≠ (Value.slice pa d.pend.length pc).ownBlock → w7.heap[k]? = w6.heap[k]? := fun k hk hne =>
    (hg.block k (by simp; omega) hne).trans (Below.heap_alloc _ _ _ hk)
  have hb7 : w7.heap[b]? = some (.cells (dC m1 m2 pa pc d) 66 (0, 0)) := (hstep7 b (lt_of_blkD hb6) (own_ne' hpe6.own hb6 (by decide))).trans hb6
  have hset : ∀ k, k ≠ b → ((w7.setCell ⟨b, 2, none⟩ v7).setCell ⟨b, 3, none⟩ (.int .i64 U)).heap[k]? = w7.heap[k]? := fun k hk => (heap_setCell_ne _ hk).trans (heap_setCell_ne _ hk)
  have hssz : ((w7.setCell ⟨b, 2, none⟩ v7).setCell ⟨b, 3, none⟩ (.int .i64 U)).heap.size = w7.heap.size := by simp [World.setCell]
  have hblk := set_blkN (set_blkN hb7 2 v7) 3 (.int .i64 U)
  have hos : ((w7.setCell ⟨b, 2, none⟩ v7).setCell ⟨b, 3, none⟩ (.int .i64 U)).os = w7.os ∧ ((w7.setCell ⟨b, 2, none⟩ v7).setCell ⟨b, 3, none⟩ (.int .i64 U)).tape = w7.tape ∧ ((w7.setCell ⟨b, 2, none⟩ v7).setCell ⟨b, 3, none⟩ (.int .i64 U)).output = w7.output := ⟨rfl, rfl, rfl⟩
  generalize (w7.setCell ⟨b, 2, none⟩ v7).setCell ⟨b, 3, none⟩ (.int .i64 U) = W' at *
  have hlast : ∀ (k : Nat) (o : Obj), w6.heap[k]? = some o → (∀ cur fz, o ≠ .cells cur 66 fz) → (∀ cur fz, o ≠ .cells cur 71 fz) → W'.heap[k]? = some o := fun k o2 h2 n1 n2 => by
    have hk := lt_of_blkD h2
    have hkb : k ≠ b := fun e => by rw [e, hb6] at h2; cases h2; exact n1 _ _ rfl
    rw [hset k hkb, hstep7 k hk (fun e => by
      obtain ⟨cur, hc⟩ := own_row hpe6.own k e.symm
      rw [hc] at h2; cases h2; exact n2 _ _ rfl)]
    exact h2
  have hmb : ∀ (k : Nat) (o : Obj), w6.heap[k]? = some o → isMB o = true → W'.heap[k]? = some o := fun k o2 h2 hi => hlast k o2 h2 (fun cur fz e => by subst e; cases hi) (fun cur fz e => by subst e; cases hi)
  have hcells : ∀ {a1 a2 a3 : Nat} {x : WriteT}, CellsW w6 a1 a2 a3 x → CellsW W' a1 a2 a3 x := fun h => ⟨hlast _ _ h.1 (fun _ _ e => by cases e) (fun _ _ e => by cases e), hlast _ _ h.2.1 (fun _ _ e => by cases e) (fun _ _ e => by cases e), hlast _ _ h.2.2 (fun _ _ e => by cases e) (fun _ _ e => by cases e)⟩
  have hfl : fs.length = d.pend.length := by have := hpe6.own.1; omega
  have hq5 := hc.frame hf6
  refine ⟨More F W.heap.size W'.heap.size, ⟨m1, m2, More F1 w5.heap.size w6.heap.size, F2, some ⟨g7, 0, none⟩, c7, fs ++ [funW q1 q2 q3], ?_⟩, ⟨?_, ?_, ?_, by omega, fun k hk hn => ?_⟩, fun k hk => hk.elim .inl (fun h => .inr h.1)⟩
  · refine ⟨?_, ?_, ?_, fun k h1 h2 => ?_, fun k hk => ?_, fun k hk => .inl (h5.s2 k hk), .inl h5.sb, ?_, ?_, fun k hk => ?_⟩
    · rw [hblk, hv7, hU]; simp [dC]
    · exact (hm6.same (fun x => readF_put hr nm s p hs x)).keepT (fun k o2 h2 hi _ => hmb k o2 h2 hi) (fun _ h => h)
    · exact (h5.M2.keepT (W' := w6) (F' := F2) (fun k o2 h2 _ hf => hf6.block k o2 h2 (fun _ h1 => h5.dis k h1 hf)) (fun _ h => h)).keepT (fun k o2 h2 hi _ => hmb k o2 h2 hi) (fun _ h => h)
    · rcases h1 with h1 | h1
      · exact h5.dis k h1 h2
      · have := hW.lt k (hW.s2 k h2); have := h1.1; omega
    · rcases hk with hk | hk
      · exact .inl (h5.s1 k hk)
      · exact .inr ⟨by have := hk.1; omega, by have := hk.2; omega⟩
    · have hv : (Value.slice (some ⟨g7, 0, none⟩) (d.pend ++ [(nm, p, s)]).length c7) = v7 := by rw [hv7]; simp
      show PendR W' _ (Value.slice (some ⟨g7, 0, none⟩) (d.pend ++ [(nm, p, s)]).length c7) _ _
      rw [hv]
      refine ⟨own_heap (by simpa using ho) (fun k hk hlt => hset k (fun e => ?_)), fun k hk => ?_, fun i x hi => ?_⟩
      · obtain ⟨cur, hcc⟩ := own_row ho k hk
        rw [e, hb7] at hcc; cases hcc
      · rcases hat with e | e
        · rw [e] at hk; exact .inl (h5.pe.row k hk)
        · rw [e] at hk
          obtain ⟨cur, hcc⟩ := own_row ho k (e.trans hk)
          have h3 := lt_of_blkD hcc
          obtain rfl : (w6.alloc o).heap.size = k := by simpa using hk
          exact .inr ⟨by simp; omega, by omega⟩
      · by_cases hil : i < d.pend.length
        · rw [List.getElem?_append_left hil] at hi
          obtain ⟨a1, a2, a3, e, hcc, f1, f2, f3⟩ := hpe6.fun_ i x hi
          exact ⟨a1, a2, a3, by rw [List.getElem?_append_left (by omega)]; exact e, hcells hcc, .inl f1, .inl f2, .inl f3⟩
        · have hlen := (List.getElem?_eq_some_iff.1 hi).1
          simp at hlen
          obtain rfl : i = d.pend.length := by omega
          rw [List.getElem?_append_right (Nat.le_refl _), Nat.sub_self] at hi
          simp at hi; subst hi
          have l1 := lt_of_blkD hq5.1; have l2 := lt_of_blkD hq5.2.1; have l3 := lt_of_blkD hq5.2.2
          exact ⟨q1, q2, q3, by rw [List.getElem?_append_right (by omega), hfl, Nat.sub_self]; rfl, hcells hq5, .inr ⟨hq.1, by omega⟩, .inr ⟨hq.2.1, by omega⟩, .inr ⟨hq.2.2, by omega⟩⟩
    · show putF d.stands nm p s = applyP d.kept (d.pend ++ [(nm, p, s)])
      rw [applyP_snoc, ← h5.inv]
    · rcases hk with hk | hk
      · have := hW.lt k hk; omega
      · exact hk.2
  · exact hos.1.trans (hg.os.trans (hf6.os.trans hb5.os))
  · exact hos.2.1.trans (hg.tape.trans (hf6.tape.trans hb5.tape))
  · exact hos.2.2.trans (hg.output.trans (hf6.output.trans hb5.output))
  · obtain ⟨o2, ho2⟩ : ∃ o2, w5.heap[k]? = some o2 := ⟨_, Array.getElem?_eq_getElem (by omega)⟩
    have h6 := hf6.block k o2 ho2 (fun _ h1 => hn (h5.s1 k h1))
    rw [hset k (fun e => hn (by rw [e]; exact h5.sb)), hstep7 k (by omega) (fun e => hn (h5.pe.row k e.symm)), h6, ← ho2]
    exact hb5.block k hk
theorem one_fun (q1 q2 q3 : Nat) : ∀ u ∈ [funW q1 q2 q3], u.oneCell' = true := by
  intro u hu; simp at hu; subst hu; rfl
theorem ext_all (s : ByteArray) : s.extract 0 s.size = s := by simp
set_option maxRecDepth 100000 in
set_option maxHeartbeats 4000000 in
theorem write19oz {W : World} {b : Nat} {F : Nat → Prop} {d : DkT} {m1 m2 : Nat} {F1 F2 : Nat → Prop} {pa : Option Addr} {pc : Nat} {fs : List Value} (name s : ByteArray) (pl : Int) (h : PDh W b F d m1 m2 F1 F2 pa pc fs) (hn : name.size ≤ 100) (hp : PlayOk 200 d) (hs : s.size ≤ 300) (hna : namedS name = true) (hse : s.size ≠ 0) (hr0 : 0 ≤ pl) (hr : pl ≤ ((readF d.stands name).size : Int)) (hz : (readF d.stands name).size = 0) (hf : ¬ d.room < (usedF (putF d.stands name pl.toNat s) : Int)) :
    Calls Try.prog 19 #[.pointer (some ⟨b, 0, none⟩), .string name, .int .i64 pl, .string s] W fun e w' => e = .returned (.int .i64 0) ∧ ∃ F', PDx w' b F' { d with stands := putF d.stands name pl.toNat s, pend := d.pend ++ [(name, pl.toNat, s)] } ∧ Frame F W w' ∧ Grows W F F' := by
  obtain ⟨i0, hi0, hz0, hz1, hz2b⟩ := info_parts infoFn
  have hnm := fun W => isName35 name W (by unfold maxLen; omega)
  rw [hna] at hnm
  have HNM := Lib.hid hnm
  have HP := Lib.hid h
  clear hnm h
  have z1 : (s.toList == (⟨#[]⟩ : ByteArray).toList) = false := (not_emptyD hse).1
  have z2 : s.toList.isEmpty = false := (not_emptyD hse).2
  have hH0 := maxF_read hp.ms name
  obtain ⟨H, hH⟩ : ∃ n, (readF d.stands name).size = n := ⟨_, rfl⟩
  rw [hH] at hH0
  obtain ⟨p, rfl⟩ : ∃ p : Nat, pl = (p : Int) := ⟨pl.toNat, by omega⟩
  rw [hH] at hr
  have hr1 : ¬ (p : Int) < 0 := by omega
  have hr2 : ¬ (H : Int) < (p : Int) := by omega
  obtain ⟨M, hM⟩ : ∃ M : Nat, M = p + s.size - H := ⟨_, rfl⟩
  have hmax : max (0 : Int) ((p : Int) + (s.size : Int) - (H : Int)) = (M : Int) := by omega
  have hup := used_put hp.rs name s p
  rw [hH] at hup
  have hu := used_bound hp
  have hrm0 := hp.rm0; have hrm1 := hp.rm1
  obtain ⟨U, hU⟩ : ∃ U, usedF d.stands = U := ⟨_, rfl⟩
  rw [hU] at hup hu
  obtain ⟨R, hR⟩ : ∃ R, d.room = R := ⟨_, rfl⟩
  rw [hR] at hrm0 hrm1
  rw [show ((p : Int)).toNat = p from rfl] at hf ⊢
  rw [hR] at hf
  have hgt : ¬ R - (U : Int) < (M : Int) := by omega
  have HUP : Hid ((U : Int) + (M : Int) = (usedF (putF d.stands name p s) : Int)) := by show (U : Int) + (M : Int) = _; omega
  have HLL : Hid ((d.stands.map (fun f => f.1)).length ≤ 100000) := by show (d.stands.map (fun f => f.1)).length ≤ 100000; have := hp.ls; simp; omega
  have HHO : Hid ((readF d.stands name).size ≤ 1048576) := maxF_read hp.ms name
  have HMIN : Hid (min (s.size : Int) (s.size : Int) = (s.size : Int)) := by show min (s.size : Int) (s.size : Int) = (s.size : Int); omega
  have hsz0 : (0 : Int) < (s.size : Int) := by omega
  have hsz1 : 0 < s.size := by omega
  have HRS := Lib.hid hp.rs
  have HPW := HP
  have hlk2 := hp.lk
  have hsp := used_split name d.stands hp.rs
  rw [hH, hU] at hsp
  have hps : p + s.size ≤ 1048576 := by omega
  have HPL : Hid (d.pend.length + 1 ≤ maxLen) := by show d.pend.length + 1 ≤ maxLen; unfold maxLen; omega
  have HPL2 : Hid ((d.pend.length + 1) * 8 ≤ 140737488355328) := by show (d.pend.length + 1) * 8 ≤ 140737488355328; omega
  rw [hH] at hz
  have hz2 : ((H : Int) == 0) = true := by rw [hz]; rfl
  clear hz
  clear hup hf hM hsp
  go_enter Try.func19, Try.ntmps19
  go_wp2_with (first
    | (go_at_call 35; refine (HNM.out _).mono ?_; rintro e w1 ⟨rfl, mm, hw1⟩; have hB1 : Below W.heap.size W w1 := (by rw [hw1]; exact below_drews mm); have HB1 := Lib.hid hB1; have hp1 := HP.out.below hB1; have HP1 := Lib.hid hp1; have hq0 := cellP hp1.blk 0 (.map (some m1)) rfl; obtain ⟨ha, hc, hlk⟩ := look_slice hp1.M1 name (by unfold maxLen; omega); rw [hH] at hlk; obtain ⟨nl, hnl, hlen⟩ := len_map hp1.M1 (L := d.stands.map (fun f => f.1)) (fun s hs => readF_names hs); have hn4 : ((nl : Int) == 4096) = false := (by rw [beq_eq_false_iff_ne]; have := hp.ls; simp at hnl; omega); clear hw1 hB1 hp1 hnl)
    | (go_at_call 29; refine (room29n ⟨m1, m2, F1, F2, pa, pc, fs, HP1.out⟩ hp).mono ?_; rintro e w2 ⟨rfl, n2, hw2⟩; have hB2 : Below W.heap.size W w2 := (by rw [hw2]; exact below_drewN' HB1.out n2); have HB2 := Lib.hid hB2; have hp2 := HP.out.below hB2; have HP2 := Lib.hid hp2; have hq2 := cellP hp2.blk 0 (.map (some m1)) rfl; rw [hU, hR]; clear hw2 hB2 hp2)
    | (go_at_call 43; refine (clone51 name _ (by omega)).mono ?_; rintro e w3 ⟨rfl, hb3⟩; have HB3 := Lib.hid (bt2 HB2.out hb3); clear hb3)
    | (go_at_call 43; refine (clone51 s _ (by omega)).mono ?_; rintro e w4 ⟨rfl, hb4⟩; have HB4 := Lib.hid (bt2 HB3.out hb4); clear hb4)
    | (go_at_call 42; refine (written42 name s p _).mono ?_; rintro e w5 ⟨rfl, hcw, hb5, hsz5⟩; have HB5 := Lib.hid (bt2 HB4.out hb5); have HCW := Lib.hid hcw; have hp5 := HP.out.below HB5.out; have HP5 := Lib.hid hp5; have hq5 := cellP hp5.blk 0 (.map (some m1)) rfl; clear hcw hb5 hsz5 hp5)
    | (go_at_call 47; refine (written47 m1 F1 (readF d.stands) (s.size : Int) w4.heap.size (w4.heap.size + 1) (w4.heap.size + 2) s.size name s p _ HP5.out.M1 (d.stands.map (fun f => f.1)) (fun s hs => readF_names hs) HLL.out HCW.out hsz0 HMIN.out hsz1 (Nat.le_refl _) hn HHO.out hps).mono ?_; rintro e w6 ⟨rfl, hm6, hf6⟩; have HM6 := Lib.hid hm6; have HF6 := Lib.hid hf6; have hb6 := hf6.block b _ HP5.out.blk (fun h => (by cases h)); have HB6 := Lib.hid hb6; have hq6 := cellP hb6 2 (.slice pa d.pend.length pc) rfl; clear hm6 hf6 hb6)
    | (at_builtin; refine wpList_append_own_at _ rfl _ _ 64 rfl 0 71 i0 .nilFunc 1 8 Try.underlying64 hi0 hz0 hz1 hz2b rfl (by decide) _ _ _ rfl ((HP5.out.pe.frame HF6.out (fun _ h => h)).own.alloc _) ⟨w6.heap.size, 0, none⟩ 1 1 [funW w4.heap.size (w4.heap.size + 1) (w4.heap.size + 2)] rfl rfl (cell_one_new _ _ _) (one_fun _ _ _) HPL.out HPL2.out (Nat.zero_le _) ?_; intro v7 w7 hown hgrow _ hat; have HOWN := Lib.hid hown; have HGR := Lib.hid hgrow; have HAT := Lib.hid hat; obtain ⟨g7, c7, hv7⟩ := own_shape' hown (by omega); subst hv7; have hb7 : w7.heap[b]? = some (.cells (dC m1 m2 pa pc d) 66 (0, 0)) := ((hgrow.block b (by have := lt_of_blkD HB6.out; simp; omega) (own_ne' (HP5.out.pe.frame HF6.out (fun _ h => h)).own HB6.out (by decide))).trans ((Below.heap_alloc _ _ _ (lt_of_blkD HB6.out)).trans HB6.out)); have hq7 := cellP hb7 2 (.slice pa d.pend.length pc) rfl; have hfr7 := free_of_blkN hb7 2; have hb8 := set_blkN hb7 2 (.slice (some ⟨g7, 0, none⟩) (d.pend.length + 1) c7); have hq8 := cellP hb8 3 (.int .i64 (usedF d.stands : Int)) rfl; have hfr8 := free_of_blkN hb8 3; rw [hU] at hq8; clear hown hgrow hat hb7 hb8))
  go_ret
  exact ⟨rfl, write_done HRS.out hsz1 HP5.out HP.out HB5.out HCW.out ⟨HB4.out.size, Nat.le_succ_of_le HB4.out.size, Nat.le_succ_of_le (Nat.le_succ_of_le HB4.out.size)⟩ (by rw [← ext_all s]; exact HM6.out) HF6.out HOWN.out HGR.out HAT.out _ HUP.out⟩
set_option maxRecDepth 100000 in
set_option maxHeartbeats 4000000 in
theorem write19oy {W : World} {b : Nat} {F : Nat → Prop} {d : DkT} {m1 m2 : Nat} {F1 F2 : Nat → Prop} {pa : Option Addr} {pc : Nat} {fs : List Value} (name s : ByteArray) (pl : Int) (h : PDh W b F d m1 m2 F1 F2 pa pc fs) (hn : name.size ≤ 100) (hp : PlayOk 200 d) (hs : s.size ≤ 300) (hna : namedS name = true) (hse : s.size ≠ 0) (hr0 : 0 ≤ pl) (hr : pl ≤ ((readF d.stands name).size : Int)) (hz : (readF d.stands name).size ≠ 0) (hf : ¬ d.room < (usedF (putF d.stands name pl.toNat s) : Int)) :
    Calls Try.prog 19 #[.pointer (some ⟨b, 0, none⟩), .string name, .int .i64 pl, .string s] W fun e w' => e = .returned (.int .i64 0) ∧ ∃ F', PDx w' b F' { d with stands := putF d.stands name pl.toNat s, pend := d.pend ++ [(name, pl.toNat, s)] } ∧ Frame F W w' ∧ Grows W F F' := by
  obtain ⟨i0, hi0, hz0, hz1, hz2b⟩ := info_parts infoFn
  have hnm := fun W => isName35 name W (by unfold maxLen; omega)
  rw [hna] at hnm
  have HNM := Lib.hid hnm
  have HP := Lib.hid h
  clear hnm h
  have z1 : (s.toList == (⟨#[]⟩ : ByteArray).toList) = false := (not_emptyD hse).1
  have z2 : s.toList.isEmpty = false := (not_emptyD hse).2
  have hH0 := maxF_read hp.ms name
  obtain ⟨H, hH⟩ : ∃ n, (readF d.stands name).size = n := ⟨_, rfl⟩
  rw [hH] at hH0
  obtain ⟨p, rfl⟩ : ∃ p : Nat, pl = (p : Int) := ⟨pl.toNat, by omega⟩
  rw [hH] at hr
  have hr1 : ¬ (p : Int) < 0 := by omega
  have hr2 : ¬ (H : Int) < (p : Int) := by omega
  obtain ⟨M, hM⟩ : ∃ M : Nat, M = p + s.size - H := ⟨_, rfl⟩
  have hmax : max (0 : Int) ((p : Int) + (s.size : Int) - (H : Int)) = (M : Int) := by omega
  have hup := used_put hp.rs name s p
  rw [hH] at hup
  have hu := used_bound hp
  have hrm0 := hp.rm0; have hrm1 := hp.rm1
  obtain ⟨U, hU⟩ : ∃ U, usedF d.stands = U := ⟨_, rfl⟩
  rw [hU] at hup hu
  obtain ⟨R, hR⟩ : ∃ R, d.room = R := ⟨_, rfl⟩
  rw [hR] at hrm0 hrm1
  rw [show ((p : Int)).toNat = p from rfl] at hf ⊢
  rw [hR] at hf
  have hgt : ¬ R - (U : Int) < (M : Int) := by omega
  have HUP : Hid ((U : Int) + (M : Int) = (usedF (putF d.stands name p s) : Int)) := by show (U : Int) + (M : Int) = _; omega
  have HLL : Hid ((d.stands.map (fun f => f.1)).length ≤ 100000) := by show (d.stands.map (fun f => f.1)).length ≤ 100000; have := hp.ls; simp; omega
  have HHO : Hid ((readF d.stands name).size ≤ 1048576) := maxF_read hp.ms name
  have HMIN : Hid (min (s.size : Int) (s.size : Int) = (s.size : Int)) := by show min (s.size : Int) (s.size : Int) = (s.size : Int); omega
  have hsz0 : (0 : Int) < (s.size : Int) := by omega
  have hsz1 : 0 < s.size := by omega
  have HRS := Lib.hid hp.rs
  have HPW := HP
  have hlk2 := hp.lk
  have hsp := used_split name d.stands hp.rs
  rw [hH, hU] at hsp
  have hps : p + s.size ≤ 1048576 := by omega
  have HPL : Hid (d.pend.length + 1 ≤ maxLen) := by show d.pend.length + 1 ≤ maxLen; unfold maxLen; omega
  have HPL2 : Hid ((d.pend.length + 1) * 8 ≤ 140737488355328) := by show (d.pend.length + 1) * 8 ≤ 140737488355328; omega
  rw [hH] at hz
  have hz2 : ((H : Int) == 0) = false := by rw [beq_eq_false_iff_ne]; omega
  clear hup hf hM hsp
  go_enter Try.func19, Try.ntmps19
  go_wp2_with (first
    | (go_at_call 35; refine (HNM.out _).mono ?_; rintro e w1 ⟨rfl, mm, hw1⟩; have hB1 : Below W.heap.size W w1 := (by rw [hw1]; exact below_drews mm); have HB1 := Lib.hid hB1; have hp1 := HP.out.below hB1; have HP1 := Lib.hid hp1; have hq0 := cellP hp1.blk 0 (.map (some m1)) rfl; obtain ⟨ha, hc, hlk⟩ := look_slice hp1.M1 name (by unfold maxLen; omega); rw [hH] at hlk; obtain ⟨nl, hnl, hlen⟩ := len_map hp1.M1 (L := d.stands.map (fun f => f.1)) (fun s hs => readF_names hs); have hn4 : ((nl : Int) == 4096) = false := (by rw [beq_eq_false_iff_ne]; have := hp.ls; simp at hnl; omega); clear hw1 hB1 hp1 hnl)
    | (go_at_call 29; refine (room29n ⟨m1, m2, F1, F2, pa, pc, fs, HP1.out⟩ hp).mono ?_; rintro e w2 ⟨rfl, n2, hw2⟩; have hB2 : Below W.heap.size W w2 := (by rw [hw2]; exact below_drewN' HB1.out n2); have HB2 := Lib.hid hB2; have hp2 := HP.out.below hB2; have HP2 := Lib.hid hp2; have hq2 := cellP hp2.blk 0 (.map (some m1)) rfl; rw [hU, hR]; clear hw2 hB2 hp2)
    | (go_at_call 43; refine (clone51 name _ (by omega)).mono ?_; rintro e w3 ⟨rfl, hb3⟩; have HB3 := Lib.hid (bt2 HB2.out hb3); clear hb3)
    | (go_at_call 43; refine (clone51 s _ (by omega)).mono ?_; rintro e w4 ⟨rfl, hb4⟩; have HB4 := Lib.hid (bt2 HB3.out hb4); clear hb4)
    | (go_at_call 42; refine (written42 name s p _).mono ?_; rintro e w5 ⟨rfl, hcw, hb5, hsz5⟩; have HB5 := Lib.hid (bt2 HB4.out hb5); have HCW := Lib.hid hcw; have hp5 := HP.out.below HB5.out; have HP5 := Lib.hid hp5; have hq5 := cellP hp5.blk 0 (.map (some m1)) rfl; clear hcw hb5 hsz5 hp5)
    | (go_at_call 47; refine (written47 m1 F1 (readF d.stands) (s.size : Int) w4.heap.size (w4.heap.size + 1) (w4.heap.size + 2) s.size name s p _ HP5.out.M1 (d.stands.map (fun f => f.1)) (fun s hs => readF_names hs) HLL.out HCW.out hsz0 HMIN.out hsz1 (Nat.le_refl _) hn HHO.out hps).mono ?_; rintro e w6 ⟨rfl, hm6, hf6⟩; have HM6 := Lib.hid hm6; have HF6 := Lib.hid hf6; have hb6 := hf6.block b _ HP5.out.blk (fun h => (by cases h)); have HB6 := Lib.hid hb6; have hq6 := cellP hb6 2 (.slice pa d.pend.length pc) rfl; clear hm6 hf6 hb6)
    | (at_builtin; refine wpList_append_own_at _ rfl _ _ 64 rfl 0 71 i0 .nilFunc 1 8 Try.underlying64 hi0 hz0 hz1 hz2b rfl (by decide) _ _ _ rfl ((HP5.out.pe.frame HF6.out (fun _ h => h)).own.alloc _) ⟨w6.heap.size, 0, none⟩ 1 1 [funW w4.heap.size (w4.heap.size + 1) (w4.heap.size + 2)] rfl rfl (cell_one_new _ _ _) (one_fun _ _ _) HPL.out HPL2.out (Nat.zero_le _) ?_; intro v7 w7 hown hgrow _ hat; have HOWN := Lib.hid hown; have HGR := Lib.hid hgrow; have HAT := Lib.hid hat; obtain ⟨g7, c7, hv7⟩ := own_shape' hown (by omega); subst hv7; have hb7 : w7.heap[b]? = some (.cells (dC m1 m2 pa pc d) 66 (0, 0)) := ((hgrow.block b (by have := lt_of_blkD HB6.out; simp; omega) (own_ne' (HP5.out.pe.frame HF6.out (fun _ h => h)).own HB6.out (by decide))).trans ((Below.heap_alloc _ _ _ (lt_of_blkD HB6.out)).trans HB6.out)); have hq7 := cellP hb7 2 (.slice pa d.pend.length pc) rfl; have hfr7 := free_of_blkN hb7 2; have hb8 := set_blkN hb7 2 (.slice (some ⟨g7, 0, none⟩) (d.pend.length + 1) c7); have hq8 := cellP hb8 3 (.int .i64 (usedF d.stands : Int)) rfl; have hfr8 := free_of_blkN hb8 3; rw [hU] at hq8; clear hown hgrow hat hb7 hb8))
  go_ret
  exact ⟨rfl, write_done HRS.out hsz1 HP5.out HP.out HB5.out HCW.out ⟨HB4.out.size, Nat.le_succ_of_le HB4.out.size, Nat.le_succ_of_le (Nat.le_succ_of_le HB4.out.size)⟩ (by rw [← ext_all s]; exact HM6.out) HF6.out HOWN.out HGR.out HAT.out _ HUP.out⟩
theorem write19 {W : World} {b : Nat} {F : Nat → Prop} {d : DkT} (name s : ByteArray) (pl : Int) (h : PDx W b F d) (hp : PlayOk 200 d) (hn : name.size ≤ 100) (hs : s.size ≤ 300) :
    Calls Try.prog 19 #[.pointer (some ⟨b, 0, none⟩), .string name, .int .i64 pl, .string s] W fun e w' => e = .returned (.int .i64 (writesF d name pl s).2) ∧ ∃ F', PDx w' b F' (writesF d name pl s).1 ∧ Frame F W w' ∧ Grows W F F' := by
  obtain ⟨m1, m2, F1, F2, pa, pc, fs, h⟩ := h
  by_cases c1 : namedS name = false ∨ s.size = 0
  · rw [writesF_arg c1]
    cases hna : namedS name with
    | false => exact (write19n name s pl h hn hna).mono (fun _ _ x => ⟨x.1, pd_same h x.2⟩)
    | true =>
      have hse : s.size = 0 := c1.resolve_left (by rw [hna]; simp)
      exact (write19e name s pl h hn hna hse).mono (fun _ _ x => ⟨x.1, pd_same h x.2⟩)
  have hna : namedS name = true := by
    cases hx : namedS name with
    | false => exact absurd (.inl hx) c1
    | true => rfl
  have hse : s.size ≠ 0 := fun e => c1 (.inr e)
  by_cases c2 : pl < 0 ∨ ((readF d.stands name).size : Int) < pl
  · rw [writesF_range c1 c2]
    by_cases hr : pl < 0
    · exact (write19r name s pl h hn hp hna hse hr).mono (fun _ _ x => ⟨x.1, pd_same h x.2⟩)
    · exact (write19q name s pl h hn hp hna hse (by omega) (c2.resolve_left hr)).mono (fun _ _ x => ⟨x.1, pd_same h x.2⟩)
  have h0 : 0 ≤ pl := by omega
  have hr : pl ≤ ((readF d.stands name).size : Int) := by omega
  have c3 : ¬ ((readF d.stands name).size = 0 ∧ d.stands.length = 4096) := fun x => by have := hp.ls; omega
  by_cases c4 : d.room < (usedF (putF d.stands name pl.toNat s) : Int)
  · rw [writesF_full c1 c2 c3 c4]
    by_cases hz : (readF d.stands name).size = 0
    · exact (write19fz name s pl h hn hp hs hna hse h0 hr hz c4).mono (fun _ _ x => ⟨x.1, pd_same h x.2⟩)
    · exact (write19fy name s pl h hn hp hs hna hse h0 hr hz c4).mono (fun _ _ x => ⟨x.1, pd_same h x.2⟩)
  · rw [writesF_ok c1 c2 c3 c4]
    by_cases hz : (readF d.stands name).size = 0
    · exact write19oz name s pl h hn hp hs hna hse h0 hr hz c4
    · exact write19oy name s pl h hn hp hs hna hse h0 hr hz c4
end Go.Proofs.Ytcedkilgfoiifaa
