/- The contract of the document's Set of a file's bytes. -/
import Derived.Test.YtcedkilgfoiifaaDkRef1
import Derived.Laws.AppendOwn
import Derived.WalkLawsBesides
namespace Go.Proofs.Ytcedkilgfoiifaa
open Go.RowKit Base Base2

theorem le_max {n : Nat} (h : n ≤ 20003) : n ≤ maxLen := by unfold maxLen; omega
theorem le_bytes {n : Nat} (h : n ≤ 20003) : n * 32 ≤ 140737488355328 := by omega
/-- A file's cells; files' cells. -/
def flatF (l : List FileT) : List Value := l.flatMap fun f => [Value.string f.1, Value.string f.2]
theorem flatF_snoc (l : List FileT) (n b : ByteArray) : flatF (l ++ [(n, b)]) = flatF l ++ [Value.string n, Value.string b] := by simp [flatF]
theorem infoFile : (Try.prog.info? 58).map (fun i => (i.zero, i.size, i.bytes)) = some (some (.agg #[.string ⟨#[]⟩, .string ⟨#[]⟩]), 2, 32) := by kernel_rfl
theorem one_two (a b : ByteArray) : ∀ u ∈ [Value.string a, Value.string b], u.oneCell' = true := by
  intro u hu
  rcases List.mem_cons.1 hu with rfl | hu
  · rfl
  · rcases List.mem_cons.1 hu with rfl | hu
    · rfl
    · cases hu
theorem new_two (W : World) (a b : Value) (T : TypeId) : ∀ (j : Nat) (u : Value), [a, b][j]? = some u → (W.alloc (.cells #[a, b] T)).cell? ((⟨W.heap.size, 0, none⟩ : Addr).add j) = some u := by
  intro j u hu
  have h := heap_alloc_new W (.cells #[a, b] T)
  rw [Addr.add_mid, cell_of_row _ _ _ _ T (0, 0) h]
  rcases j with _ | _ | j
  · simpa using hu
  · simpa using hu
  · simp at hu
/-- While files go out: the slice that owns them. -/
structure SetR (w : World) (out : List FileT) (v : Value) (W : World) : Prop where
  own : W.ownsRow w.heap.size 58 2 v out.length (flatF out)
  lo : Below w.heap.size w W
theorem SetR.nil (w : World) : SetR w [] (.slice none 0 0) w := ⟨⟨rfl, .inl ⟨rfl, rfl⟩⟩, Below.refl _ _⟩
theorem SetR.app {w W w2 : World} {out : List FileT} {v v' : Value} {n b : ByteArray} {o : Obj} (h : SetR w out v W) (ho : w2.ownsRow w.heap.size 58 2 v' (out.length + 1) (flatF out ++ [.string n, .string b])) (hg : (W.alloc o).grownBy w2 v.ownBlock) : SetR w (out ++ [(n, b)]) v' w2 :=
  ⟨by rw [flatF_snoc, List.length_append]; exact ho, h.lo.grown (World_grown_alloc hg) h.lo.size (own_block_ge h.own)⟩
theorem sizeD (t : ByteArray) : t.size = t.data.toList.length := (Array.length_toList).symm
theorem empty_ofD {t : ByteArray} (h : t.size = 0) : t = ⟨#[]⟩ := by
  apply ByteArray.ext; apply Array.toList_inj.1; apply List.eq_nil_of_length_eq_zero
  have := sizeD t; omega
theorem not_emptyD {t : ByteArray} (h : t.size ≠ 0) : (t.toList == (⟨#[]⟩ : ByteArray).toList) = false ∧ t.toList.isEmpty = false := by
  have h5 := sizeD t
  have h1 : (t.toList == (⟨#[]⟩ : ByteArray).toList) = false := by
    rw [beq_eq_false_iff_ne, ByteArray.toList_eq, ByteArray.toList_eq]
    intro h2
    rw [h2] at h5
    exact h h5
  refine ⟨h1, ?_⟩
  cases hq : t.toList with
  | nil => rw [ByteArray.toList_eq] at hq; rw [hq] at h5; exact absurd h5 h
  | cons a b => rfl
theorem str_neD {a b : ByteArray} (h : a ≠ b) : (a.toList == b.toList) = false := by
  rw [beq_eq_false_iff_ne, ByteArray.toList_eq, ByteArray.toList_eq]
  intro h2; exact h (by apply ByteArray.ext; exact Array.toList_inj.1 h2)
theorem less_irrefl (l : List UInt8) : Op.bytesLess l l = false := by
  induction l with
  | nil => rfl
  | cons a l ih => simp [Op.bytesLess, ih]
theorem ltB_irrefl (a : ByteArray) : ltB a a = false := less_irrefl _
theorem ltB_iff (a b : ByteArray) : ltB a b = Op.bytesLess a.toList b.toList := rfl
/-- What is still to go out from the i-th file on. -/
def restG (name s : ByteArray) (d : Bool) (l : List FileT) (i : Nat) : List FileT := if i ≤ l.length then setG name s d (l.drop i) else []
theorem restG_file (name s : ByteArray) (d : Bool) (l : List FileT) (i : Nat) (f : FileT) (h : l[i]? = Option.some f) : restG name s d l i = setG name s d (f :: l.drop (i + 1)) := by
  obtain ⟨hlt, ht⟩ := List.getElem?_eq_some_iff.1 h
  unfold restG
  rw [if_pos (by omega), List.drop_eq_getElem_cons hlt, ht]
theorem restG_next (name s : ByteArray) (d : Bool) (l : List FileT) (i : Nat) (h : i < l.length) : restG name s d l (i + 1) = setG name s d (l.drop (i + 1)) := by
  unfold restG; rw [if_pos (by omega)]
theorem restG_end (name s : ByteArray) (d : Bool) (l : List FileT) : restG name s d l l.length = setG name s d [] := by
  unfold restG; rw [if_pos (Nat.le_refl _), List.drop_length]
theorem restG_past (name s : ByteArray) (d : Bool) (l : List FileT) : restG name s d l (l.length + 1) = [] := by
  unfold restG; rw [if_neg (by omega)]

set_option maxRecDepth 100000 in
set_option maxHeartbeats 8000000 in
theorem rset37 (a : Option Addr) (l : List FileT) (cap : Nat) (name s : ByteArray) (w : World) (hr : FilesAt w a l) (hl : l.length ≤ 10000) :
    Calls Try.prog 38 #[.slice a l.length cap, .string name, .string s] w fun e w' => (∃ v, e = .returned v ∧ w'.ownsRow w.heap.size 58 2 v (setF l name s).length (flatF (setF l name s))) ∧ Below w.heap.size w w' := by
  obtain ⟨i0, hi0, hz0, hz1, hz2⟩ := info_parts infoFile
  obtain ⟨RES, hR⟩ : ∃ R, setF l name s = R := ⟨_, rfl⟩
  rw [hR]
  have hst : RES = [] ++ restG name s false l 0 := by
    rw [← hR]; unfold restG setF; rw [if_pos (by omega), List.drop_zero]; rfl
  have HST := Lib.hid hst
  have HN := Lib.hid (SetR.nil w)
  have HLEN : Hid (RES.length ≤ l.length + 1) := by rw [← hR]; exact setF_len l name s
  clear hR hst
  go_enter Try.func38, Try.ntmps38
  go_wp2
  go_loopw [7, 8, 9] (fun vo vd vi W => ∃ (i : Nat) (out : List FileT) (d : Bool), i ≤ l.length + 1 ∧ vd = .bool d ∧ vi = .int .i64 (i : Int) ∧ RES = out ++ restG name s d l i ∧ SetR w out vo W) (fun _ _ vi _ => l.length + 1 - (intOf vi).toNat)
  case atStart => exact ⟨0, [], false, by omega, rfl, rfl, HST.out, HN.out⟩
  case round =>
    clear HST HN
    obtain ⟨i, out, d, hi, rfl, rfl, hres, hS⟩ := hrel
    have hol : out.length ≤ l.length + 1 := by have h5 := HLEN.out; rw [hres, List.length_append] at h5; omega
    have n1 : out.length + 1 ≤ 20003 := by omega
    have n2 : out.length + 1 + 1 ≤ 20003 := by omega
    have b2 : (out.length + 1) * 32 ≤ 140737488355328 := le_bytes n1
    have b4 : (out.length + 1 + 1) * 32 ≤ 140737488355328 := le_bytes n2
    have b1 : out.length + 1 ≤ maxLen := le_max n1
    have b3 : out.length + 1 + 1 ≤ maxLen := le_max n2
    clear n1 n2
    have HS := Lib.hid hS
    by_cases hlt : i < l.length
    · obtain ⟨b, off, rfl, hbw, hcells⟩ := hr.some (by omega)
      obtain ⟨f, hf⟩ : ∃ f, l[i]? = Option.some f := ⟨l[i], by simp [hlt]⟩
      rw [restG_file name s d l i f hf] at hres
      have hn := fun d => restG_next name s d l i hlt
      obtain ⟨fn, fb⟩ := f
      have HCE := Lib.hid (fun (W : World) (hb : Below w.heap.size w W) => (⟨(hb.cell (p := ⟨b, off + i * 2, none⟩) hbw).trans (hcells i _ hf).1, (hb.cell (p := ⟨b, off + i * 2 + 1, none⟩) hbw).trans (hcells i _ hf).2⟩ : W.cell? ⟨b, off + i * 2, none⟩ = Option.some (.string fn) ∧ W.cell? ⟨b, off + i * 2 + 1, none⟩ = Option.some (.string fb)))
      obtain ⟨c0, c1⟩ := HCE.out _ hS.lo
      clear hcells hf hr hS
      have g5 : ((i : Int) == (l.length : Int)) = false := by rw [beq_eq_false_iff_ne]; omega
      cases d with
      | true =>
        by_cases kf : fn = name
        · have HRS : Hid (RES = (out) ++ restG name s true l (i + 1)) := by
            show _ = _
            rw [hres, hn]
            simp [setG, kf]
          have g3 : (fn.toList == name.toList) = true := by rw [kf]; simp
          clear hres hn kf
          go_wp2
          go_roundw
          case rel => exact ⟨i + 1, _, true, by omega, rfl, by go_num, HRS.out, HS.out⟩
          case measure => first | omega | (simp [intOf]; done) | (simp [intOf]; omega)

        · have HRS : Hid (RES = ((out) ++ [(fn, fb)]) ++ restG name s true l (i + 1)) := by
            show _ = _
            rw [hres, hn]
            simp [setG, kf]
          have g3 : (fn.toList == name.toList) = false := str_neD kf
          clear hres hn kf
          go_wp2_with (first
            | (at_builtin; refine wpList_append_own _ rfl _ _ 22 rfl w.heap.size 58 i0 (.agg #[.string ⟨#[]⟩, .string ⟨#[]⟩]) 2 32 Try.underlying22 hi0 hz0 hz1 hz2 rfl (by decide) _ _ _ rfl (HS.out.own.alloc _) ⟨wr.heap.size, 0, none⟩ 1 1 [.string fn, .string fb] rfl rfl (new_two _ _ _ _) (one_two _ _) b1 b2 (by have := HS.out.lo.size; simp; omega) ?_; intro v2 w2 hown hgrow _; have HA2 := Lib.hid (HS.out.app hown hgrow); clear hown hgrow))
          go_roundw
          case rel => exact ⟨i + 1, _, true, by omega, rfl, by go_num, HRS.out, HA2.out⟩
          case measure => first | omega | (simp [intOf]; done) | (simp [intOf]; omega)
      | false =>
        cases klt : ltB fn name with
        | true =>
          have kf : fn ≠ name := by
            rintro rfl
            rw [ltB_irrefl] at klt; simp at klt
          have HRS : Hid (RES = ((out) ++ [(fn, fb)]) ++ restG name s false l (i + 1)) := by
            show _ = _
            rw [hres, hn]
            simp [setG, klt, kf]
          have g1 : Op.bytesLess fn.toList name.toList = true := klt
          have g3 : (fn.toList == name.toList) = false := str_neD kf
          clear hres hn kf
          go_wp2_with (first
            | (at_builtin; refine wpList_append_own _ rfl _ _ 22 rfl w.heap.size 58 i0 (.agg #[.string ⟨#[]⟩, .string ⟨#[]⟩]) 2 32 Try.underlying22 hi0 hz0 hz1 hz2 rfl (by decide) _ _ _ rfl (HS.out.own.alloc _) ⟨wr.heap.size, 0, none⟩ 1 1 [.string fn, .string fb] rfl rfl (new_two _ _ _ _) (one_two _ _) b1 b2 (by have := HS.out.lo.size; simp; omega) ?_; intro v2 w2 hown hgrow _; have HA2 := Lib.hid (HS.out.app hown hgrow); clear hown hgrow))
          go_roundw
          case rel => exact ⟨i + 1, _, false, by omega, rfl, by go_num, HRS.out, HA2.out⟩
          case measure => first | omega | (simp [intOf]; done) | (simp [intOf]; omega)
        | false =>
          by_cases ks : s.size = 0
          · have kse := empty_ofD ks
            by_cases kf : fn = name
            · have HRS : Hid (RES = (out) ++ restG name s true l (i + 1)) := by
                show _ = _
                rw [hres, hn]
                simp [setG, insF, ltB_irrefl, ks, kf]
              have g1 : Op.bytesLess fn.toList name.toList = false := klt
              have g2 : (s.toList == (⟨#[]⟩ : ByteArray).toList) = true := by rw [kse]; simp
              have g4 : s.toList.isEmpty = true := by rw [kse]; simp
              have g3 : (fn.toList == name.toList) = true := by rw [kf]; simp
              clear hres hn kf kse
              go_wp2
              go_roundw
              case rel => exact ⟨i + 1, _, true, by omega, rfl, by go_num, HRS.out, HS.out⟩
              case measure => first | omega | (simp [intOf]; done) | (simp [intOf]; omega)
            · have HRS : Hid (RES = ((out) ++ [(fn, fb)]) ++ restG name s true l (i + 1)) := by
                show _ = _
                rw [hres, hn]
                simp [setG, insF, klt, ks, kf]
              have g1 : Op.bytesLess fn.toList name.toList = false := klt
              have g2 : (s.toList == (⟨#[]⟩ : ByteArray).toList) = true := by rw [kse]; simp
              have g4 : s.toList.isEmpty = true := by rw [kse]; simp
              have g3 : (fn.toList == name.toList) = false := str_neD kf
              clear hres hn kf kse
              go_wp2_with (first
                | (at_builtin; refine wpList_append_own _ rfl _ _ 22 rfl w.heap.size 58 i0 (.agg #[.string ⟨#[]⟩, .string ⟨#[]⟩]) 2 32 Try.underlying22 hi0 hz0 hz1 hz2 rfl (by decide) _ _ _ rfl (HS.out.own.alloc _) ⟨wr.heap.size, 0, none⟩ 1 1 [.string fn, .string fb] rfl rfl (new_two _ _ _ _) (one_two _ _) b1 b2 (by have := HS.out.lo.size; simp; omega) ?_; intro v2 w2 hown hgrow _; have HA2 := Lib.hid (HS.out.app hown hgrow); clear hown hgrow))
              go_roundw
              case rel => exact ⟨i + 1, _, true, by omega, rfl, by go_num, HRS.out, HA2.out⟩
              case measure => first | omega | (simp [intOf]; done) | (simp [intOf]; omega)
          · by_cases kf : fn = name
            · have HRS : Hid (RES = (out ++ [(name, s)]) ++ restG name s true l (i + 1)) := by
                show _ = _
                rw [hres, hn]
                simp [setG, insF, ltB_irrefl, ks, kf]
              have g1 : Op.bytesLess fn.toList name.toList = false := klt
              have g2 : (s.toList == (⟨#[]⟩ : ByteArray).toList) = false := (not_emptyD ks).1
              have g4 : s.toList.isEmpty = false := (not_emptyD ks).2
              have g3 : (fn.toList == name.toList) = true := by rw [kf]; simp
              clear hres hn kf
              go_wp2_with (first
                | (at_builtin; refine wpList_append_own _ rfl _ _ 22 rfl w.heap.size 58 i0 (.agg #[.string ⟨#[]⟩, .string ⟨#[]⟩]) 2 32 Try.underlying22 hi0 hz0 hz1 hz2 rfl (by decide) _ _ _ rfl (HS.out.own.alloc _) ⟨wr.heap.size, 0, none⟩ 1 1 [.string name, .string s] rfl rfl (new_two _ _ _ _) (one_two _ _) b1 b2 (by have := HS.out.lo.size; simp; omega) ?_; intro v1 w1 hown hgrow _; have HA1 := Lib.hid (HS.out.app hown hgrow); clear hown hgrow; have h5 := HCE.out _ HA1.out.lo; obtain ⟨d0, d1⟩ := h5))
              go_roundw
              case rel => exact ⟨i + 1, _, true, by omega, rfl, by go_num, HRS.out, HA1.out⟩
              case measure => first | omega | (simp [intOf]; done) | (simp [intOf]; omega)
            · have HRS : Hid (RES = ((out ++ [(name, s)]) ++ [(fn, fb)]) ++ restG name s true l (i + 1)) := by
                show _ = _
                rw [hres, hn]
                simp [setG, insF, klt, ks, kf]
              have g1 : Op.bytesLess fn.toList name.toList = false := klt
              have g2 : (s.toList == (⟨#[]⟩ : ByteArray).toList) = false := (not_emptyD ks).1
              have g4 : s.toList.isEmpty = false := (not_emptyD ks).2
              have g3 : (fn.toList == name.toList) = false := str_neD kf
              clear hres hn kf
              go_wp2_with (first
                | (at_builtin; refine wpList_append_own _ rfl _ _ 22 rfl w.heap.size 58 i0 (.agg #[.string ⟨#[]⟩, .string ⟨#[]⟩]) 2 32 Try.underlying22 hi0 hz0 hz1 hz2 rfl (by decide) _ _ _ rfl (HS.out.own.alloc _) ⟨wr.heap.size, 0, none⟩ 1 1 [.string name, .string s] rfl rfl (new_two _ _ _ _) (one_two _ _) b1 b2 (by have := HS.out.lo.size; simp; omega) ?_; intro v1 w1 hown hgrow _; have HA1 := Lib.hid (HS.out.app hown hgrow); clear hown hgrow; have h5 := HCE.out _ HA1.out.lo; obtain ⟨d0, d1⟩ := h5)
                | (at_builtin; refine wpList_append_own _ rfl _ _ 22 rfl w.heap.size 58 i0 (.agg #[.string ⟨#[]⟩, .string ⟨#[]⟩]) 2 32 Try.underlying22 hi0 hz0 hz1 hz2 rfl (by decide) _ _ _ rfl (HA1.out.own.alloc _) ⟨w1.heap.size, 0, none⟩ 1 1 [.string fn, .string fb] rfl rfl (new_two _ _ _ _) (one_two _ _) (by simpa using b3) (by simpa using b4) (by have := HA1.out.lo.size; simp; omega) ?_; intro v2 w2 hown hgrow _; have HA2 := Lib.hid (HA1.out.app hown hgrow); clear hown hgrow))
              go_roundw
              case rel => exact ⟨i + 1, _, true, by omega, rfl, by go_num, HRS.out, HA2.out⟩
              case measure => first | omega | (simp [intOf]; done) | (simp [intOf]; omega)
    · by_cases hie : i = l.length
      · subst hie
        rw [restG_end name s d l] at hres
        have hp := fun d => restG_past name s d l
        clear hr hS hlt
        cases d with
        | true =>
          have HRS : Hid (RES = (out) ++ restG name s true l (l.length + 1)) := by
            show _ = _
            rw [hres, hp]
            simp [setG]
          clear hres hp
          go_wp2
          go_roundw
          case rel => exact ⟨l.length + 1, _, true, by omega, rfl, by go_num, HRS.out, HS.out⟩
          case measure => first | omega | (simp [intOf]; done) | (simp [intOf]; omega)
        | false =>
          by_cases ks : s.size = 0
          · have kse := empty_ofD ks
            have HRS : Hid (RES = (out) ++ restG name s true l (l.length + 1)) := by
              show _ = _
              rw [hres, hp]
              simp [setG, insF, ks]
            have g2 : (s.toList == (⟨#[]⟩ : ByteArray).toList) = true := by rw [kse]; simp
            have g4 : s.toList.isEmpty = true := by rw [kse]; simp
            clear hres hp kse
            go_wp2
            go_roundw
            case rel => exact ⟨l.length + 1, _, true, by omega, rfl, by go_num, HRS.out, HS.out⟩
            case measure => first | omega | (simp [intOf]; done) | (simp [intOf]; omega)
          · have HRS : Hid (RES = (out ++ [(name, s)]) ++ restG name s true l (l.length + 1)) := by
              show _ = _
              rw [hres, hp]
              simp [setG, insF, ks]
            have g2 : (s.toList == (⟨#[]⟩ : ByteArray).toList) = false := (not_emptyD ks).1
            have g4 : s.toList.isEmpty = false := (not_emptyD ks).2
            clear hres hp
            go_wp2_with (first
              | (at_builtin; refine wpList_append_own _ rfl _ _ 22 rfl w.heap.size 58 i0 (.agg #[.string ⟨#[]⟩, .string ⟨#[]⟩]) 2 32 Try.underlying22 hi0 hz0 hz1 hz2 rfl (by decide) _ _ _ rfl (HS.out.own.alloc _) ⟨wr.heap.size, 0, none⟩ 1 1 [.string name, .string s] rfl rfl (new_two _ _ _ _) (one_two _ _) b1 b2 (by have := HS.out.lo.size; simp; omega) ?_; intro v1 w1 hown hgrow _; have HA1 := Lib.hid (HS.out.app hown hgrow); clear hown hgrow))
            go_roundw
            case rel => exact ⟨l.length + 1, _, true, by omega, rfl, by go_num, HRS.out, HA1.out⟩
            case measure => first | omega | (simp [intOf]; done) | (simp [intOf]; omega)
      · have hi2 : i = l.length + 1 := by omega
        subst hi2
        rw [restG_past, List.append_nil] at hres
        have HRS := Lib.hid hres
        clear hr hS hlt hie hres
        go_wp2
        go_ret
        exact ⟨⟨_, rfl, by rw [HRS.out]; exact HS.out.own⟩, HS.out.lo⟩
end Go.Proofs.Ytcedkilgfoiifaa
