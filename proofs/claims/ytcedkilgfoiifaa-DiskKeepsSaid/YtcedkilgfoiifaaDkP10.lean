/- The program's Of, New. -/
import Derived.Test.YtcedkilgfoiifaaDkP9
namespace Go.Proofs.Ytcedkilgfoiifaa
open Go.RowKit Base Base2

theorem names_ok {l : List FileT} (h : mayF l = true) (hu : usedF l ≤ 1048576) : (∀ f ∈ l, f.1.size ≤ maxLen ∧ f.2.size ≤ maxLen) ∧ RiseF l ∧ GoodF l ∧ MaxF l ∧ l.length ≤ 4096 := by
  obtain ⟨h1, h2, h3⟩ := (mayF_rise l).1 h
  have hm : MaxF l := fun f hf => by have := used_mem hf; omega
  refine ⟨fun f hf => ?_, h3, h2, hm, h1⟩
  have a := named_size (h2 f hf).1
  have b := hm f hf
  unfold maxLen; omega
def ofC (used room : Int) : Array Value := #[.map none, .map none, .slice none 0 0, .int .i64 used, .int .i64 room]
set_option maxRecDepth 100000 in
set_option maxHeartbeats 2000000 in
theorem of8lo {w : World} (a : Option Addr) (c : Nat) (files : List FileT) (room : Int) (h : room < 0) :
    Calls Try.prog 8 #[.slice a files.length c, .int .i64 room] w fun e w' => e = .returned (.tuple #[.pointer none, .int .i64 1]) ∧ Below w.heap.size w w' := by
  go_enter Try.func8, Try.ntmps8
  go_wp2
  go_ret2
  exact ⟨rfl, Below.refl _ _⟩
set_option maxRecDepth 100000 in
set_option maxHeartbeats 2000000 in
theorem of8hi {w : World} (a : Option Addr) (c : Nat) (files : List FileT) (room : Int) (h : 1048576 < room) :
    Calls Try.prog 8 #[.slice a files.length c, .int .i64 room] w fun e w' => e = .returned (.tuple #[.pointer none, .int .i64 1]) ∧ Below w.heap.size w w' := by
  have h0 : ¬ room < 0 := by omega
  go_enter Try.func8, Try.ntmps8
  go_wp2
  go_ret2
  exact ⟨rfl, Below.refl _ _⟩
set_option maxRecDepth 100000 in
set_option maxHeartbeats 2000000 in
theorem of8may {w : World} (a : Option Addr) (c : Nat) (files : List FileT) (room : Int) (hf : FilesAt w a files) (hl : files.length ≤ 60) (hsz : ∀ f ∈ files, f.1.size ≤ maxLen ∧ f.2.size ≤ maxLen) (h0 : 0 ≤ room) (h1 : room ≤ 1048576) (h : mayF files = false) :
    Calls Try.prog 8 #[.slice a files.length c, .int .i64 room] w fun e w' => e = .returned (.tuple #[.pointer none, .int .i64 1]) ∧ Below w.heap.size w w' := by
  have g0 : ¬ room < 0 := by omega
  have g1 : ¬ 1048576 < room := by omega
  have hm := may9 a files c w hf (by unfold maxLen; omega) hsz
  rw [h] at hm
  have HM := Lib.hid hm
  clear hm hf hsz h
  go_enter Try.func8, Try.ntmps8
  go_wp2_with (go_at_call 9; refine HM.out.mono ?_; rintro e w1 ⟨rfl, hb⟩; have HB := Lib.hid hb; clear hb)
  go_ret2
  exact ⟨rfl, HB.out⟩
set_option maxRecDepth 100000 in
set_option maxHeartbeats 2000000 in
theorem of8full {w : World} (a : Option Addr) (c : Nat) (files : List FileT) (room : Int) (hf : FilesAt w a files) (hl : files.length ≤ 60) (hu : usedF files ≤ 1000000) (h0 : 0 ≤ room) (h1 : room ≤ 1048576) (h : mayF files = true) (hlt : room < (usedF files : Int)) :
    Calls Try.prog 8 #[.slice a files.length c, .int .i64 room] w fun e w' => e = .returned (.tuple #[.pointer none, .int .i64 6]) ∧ Below w.heap.size w w' := by
  have g0 : ¬ room < 0 := by omega
  have g1 : ¬ 1048576 < room := by omega
  obtain ⟨hsz, hri, hgo, hmx, _⟩ := names_ok h (by omega)
  have hm := may9 a files c w hf (by unfold maxLen; omega) hsz
  rw [h] at hm
  have HM := Lib.hid hm
  have HS := Lib.hid (fun W hfa => size32 a files c W hfa (by unfold maxLen; omega) (by omega))
  have HFA := Lib.hid hf
  clear hm hf hsz h hri hgo hmx
  go_enter Try.func8, Try.ntmps8
  go_wp2_with (first
    | (go_at_call 9; refine HM.out.mono ?_; rintro e w1 ⟨rfl, hb⟩; have HB1 := Lib.hid hb; clear hb)
    | (go_at_call 32; refine (HS.out _ (HFA.out.below HB1.out)).mono ?_; rintro e w2 ⟨rfl, hb⟩; have HB2 := Lib.hid (bt2 HB1.out hb); clear hb))
  go_ret2
  exact ⟨rfl, HB2.out.alloc HB2.out.size _⟩
set_option maxRecDepth 100000 in
set_option maxHeartbeats 4000000 in
theorem of8 {w : World} (a : Option Addr) (c : Nat) (files : List FileT) (room : Int) (hf : FilesAt w a files) (hl : files.length ≤ 60) (hu : usedF files ≤ 1000000) (h0 : 0 ≤ room) (h1 : room ≤ 1048576) (h : mayF files = true) (hlt : (usedF files : Int) ≤ room) :
    Calls Try.prog 8 #[.slice a files.length c, .int .i64 room] w fun e w' => (∃ b F, e = .returned (.tuple #[.pointer (some ⟨b, 0, none⟩), .int .i64 0]) ∧ PDx w' b F ⟨files, files, [], room⟩ ∧ ∀ k, F k → w.heap.size ≤ k) ∧ Below w.heap.size w w' := by
  have g0 : ¬ room < 0 := by omega
  have g1 : ¬ 1048576 < room := by omega
  obtain ⟨hsz, hri, hgo, hmx, _⟩ := names_ok h (by omega)
  have hm := may9 a files c w hf (by unfold maxLen; omega) hsz
  rw [h] at hm
  have HM := Lib.hid hm
  have HS := Lib.hid (fun W hfa => size32 a files c W hfa (by unfold maxLen; omega) (by omega))
  have HFA := Lib.hid hf
  have HN := Lib.hid (fun W hfa => named33 a files c W hfa (by omega) hri hgo hmx)
  have HA := Lib.hid (fun (m : Nat) (F : Nat → Prop) (W : World) (hM : MapAt W F m (readF files)) => again34 m F (readF files) W hM (files.map (fun f => f.1)) (fun s hs => readF_names hs) (by simp; omega) (fun s => by have := maxF_read hmx s; omega))
  clear hm hf hsz h hri hgo hmx
  go_enter Try.func8, Try.ntmps8
  go_wp2_with (first
    | (go_at_call 9; refine HM.out.mono ?_; rintro e w1 ⟨rfl, hb⟩; have HB1 := Lib.hid hb; clear hb)
    | (go_at_call 32; refine (HS.out _ (HFA.out.below HB1.out)).mono ?_; rintro e w2 ⟨rfl, hb⟩; have HB2 := Lib.hid (bt2 HB1.out hb); clear hb)
    | (go_at_call 33; refine (HN.out _ (HFA.out.below (HB2.out.alloc HB2.out.size _))).mono ?_; rintro e w3 ⟨rfl, hm3, hb3⟩
       simp only [World.size_alloc] at hm3
       have HM3 := Lib.hid hm3; have HB3 := Lib.hid hb3; clear hm3 hb3
       have hbk : w3.heap[w2.heap.size]? = some (.cells (ofC (usedF files : Int) room) 66 (0, 0)) := (HB3.out.block _ (by simp)).trans (heap_alloc_new w2 _)
       have HBK := Lib.hid hbk
       have hq1 := cellP hbk 1 (.map none) rfl
       have hf1 := free_of_blkN hbk 1
       clear hbk)
    | (go_at_call 34
       have hm4 := HM3.out.keep (W' := w3.setCell ⟨w2.heap.size, 1, none⟩ (.map (some (w2.heap.size + 1)))) (F' := Rng (w2.heap.size + 1) w3.heap.size) (fun k _ hk => heap_setCell_ne _ (by have := hk.1; omega)) (fun k hk => hk)
       have HM4 := Lib.hid hm4
       have hbk2 := set_blkN HBK.out 1 (.map (some (w2.heap.size + 1)))
       have HBK2 := Lib.hid hbk2
       clear hm4 hbk2
       refine (HA.out _ _ _ HM4.out).mono ?_; rintro e w4 ⟨rfl, hm5, hb5⟩
       have HM5 := Lib.hid hm5; have HB5 := Lib.hid hb5; clear hm5 hb5
       have hbk3 := (HB5.out.block _ (lt_of_blkD HBK2.out)).trans HBK2.out
       have HBK3 := Lib.hid hbk3
       have hq0 := cellP hbk3 0 (.map none) rfl
       have hf0 := free_of_blkN hbk3 0
       clear hbk3))
  go_ret2
  have hs3 := HB3.out.size
  have hs4 := HB5.out.size
  have hs2 := HB2.out.size
  simp only [World.size_alloc] at hs3
  have e3 : (w3.setCell ⟨w2.heap.size, 1, none⟩ (.map (some (w2.heap.size + 1)))).heap.size = w3.heap.size := by simp [World.setCell]
  rw [e3] at hs4
  have HM5' := HM5.out
  rw [e3] at HM5'
  have e4 : ∀ v, (w4.setCell ⟨w2.heap.size, 0, none⟩ v).heap.size = w4.heap.size := fun v => by simp [World.setCell]
  have hb3 : Below w.heap.size w w3 := (HB2.out.alloc HB2.out.size _).trans (HB3.out.mono (by simp; omega))
  have hb4 : Below w.heap.size w w4 := (hb3.setCell (p := ⟨w2.heap.size, 1, none⟩) hs2 _).trans (HB5.out.mono (by rw [e3]; omega))
  refine ⟨⟨w2.heap.size, Rng w.heap.size w4.heap.size, rfl, ⟨w3.heap.size, w2.heap.size + 1, Rng w3.heap.size w4.heap.size, Rng (w2.heap.size + 1) w3.heap.size, none, 0, [], ?_⟩, fun k hk => hk.1⟩, hb4.setCell (p := ⟨w2.heap.size, 0, none⟩) hs2 _⟩
  have hne : ∀ k, w2.heap.size + 1 ≤ k → ∀ v, (w4.setCell ⟨w2.heap.size, 0, none⟩ v).heap[k]? = w4.heap[k]? := fun k hk v => heap_setCell_ne v (by omega)
  refine ⟨set_blkN HBK3.out 0 _, ?_, ?_, fun k h1 h2 => by have := h1.1; have := h2.2; omega, fun k hk => ⟨by have := hk.1; omega, hk.2⟩, fun k hk => ⟨by have := hk.1; omega, by have := hk.2; omega⟩, ⟨hs2, by omega⟩, ⟨⟨rfl, .inl ⟨rfl, rfl⟩⟩, fun k hk => (by cases hk), fun i p hi => (by simp at hi)⟩, rfl, fun k hk => by rw [e4]; exact hk.2⟩
  · exact HM5'.keep (fun k _ hk => hne k (by have := hk.1; omega) _) (fun k hk => hk)
  · exact HM4.out.keep (fun k hk1 hk => (hne k hk.1 _).trans (HB5.out.block k hk1)) (fun k hk => hk)

theorem new30 (room : Int) (W : World) (h0 : 0 ≤ room) (h1 : room ≤ 1048576) : Calls Try.prog 30 #[.int .i64 room] W fun e w' => (∃ b F, e = .returned (.tuple #[.pointer (some ⟨b, 0, none⟩), .int .i64 0]) ∧ PDx w' b F ⟨[], [], [], room⟩ ∧ ∀ k, F k → W.heap.size ≤ k) ∧ Below W.heap.size W w' := by
  have H := Lib.hid (of8 (w := W) none 0 [] room (.inl rfl) (by simp) (by simp [usedF]) h0 h1 (by decide) (by simp [usedF]; exact h0))
  go_enter Try.func30, Try.ntmps30
  go_wp2_with (go_at_call 8; refine H.out.mono ?_; rintro e w1 ⟨⟨b, F, rfl, hpd, hF⟩, hb⟩; have HP := Lib.hid hpd; have HF := Lib.hid hF; have HB := Lib.hid hb; clear hpd hF hb)
  go_ret2
  exact ⟨⟨b, F, rfl, HP.out, HF.out⟩, HB.out⟩
end Go.Proofs.Ytcedkilgfoiifaa
