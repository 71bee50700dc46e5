/- The walk of EventGets. -/
import Derived.Test.YtnakmlnjfjgghaaDoorEvEq
namespace Go.Proofs.YtnakmlnjfjgghaaDoor
open Go.RowKit Base

set_option maxRecDepth 100000 in
set_option maxHeartbeats 8000000 in
theorem walk4 (s : ByteArray) (w : World) (hs : s.size ≤ maxLen) (hK : KHeld w) : Calls Tryd.prog 4 #[.string s] w fun e w' => e = .returned (.bool true) ∧ Below w.heap.size w w' := by
  unfold maxLen at hs
  have HA := Lib.hid (alive6 w hK)
  clear hK
  by_cases hlen : 500 < s.size
  · go_enter Tryd.func4, Tryd.ntmps4
    go_wp2_with (go_at_call 6; refine HA.out.mono ?_; rintro e w1 ⟨rfl, hb⟩; have HB := Lib.hid hb; clear hb)
    go_ret
    exact ⟨rfl, HB.out⟩
  have h1 : s.size ≤ 1000000 := by omega
  have hle : s.size ≤ 500 := by omega
  have G7 := Lib.hid (fun (W : World) => get10 s W h1)
  have H7 := Lib.hid (fun (W : World) => rget16 s W h1)
  have l7 := getN_len 7 s
  have P7 : (getN 7 s).2 = 0 → Hid (∀ (W : World), Calls Tryd.prog 7 #[.agg (rowI (getN 7 s).1)] W fun e w' => e = .returned (.string s) ∧ Below W.heap.size W w') := fun h W => by
    have := put7R _ l7 (getN_in 7 s) W
    rwa [getN_one 7 s h] at this
  have E7 := neR23 _ l7
  have I7 : Hid ((Tryd.prog.info? 23).map (·.size) = some (rowI (getN 7 s).1).size) := by show _ = _; rw [rowI_size, l7]; kernel_rfl
  have Z7 : Hid (7 = (rowI (getN 7 s).1).size) := by show _ = _; rw [rowI_size, l7]
  have O7 := Lib.hid (rowI_one (getN 7 s).1)
  have J7 : Hid (∃ L : List Int, L.length = 7 ∧ rowI (getN 7 s).1 = rowI L) := ⟨_, l7, rfl⟩
  generalize rowI (getN 7 s).1 = R7 at *
  generalize (getN 7 s).2 = e7 at *
  clear l7
  have G2 := Lib.hid (fun (W : World) => get11 s W h1)
  have H2 := Lib.hid (fun (W : World) => rget17 s W h1)
  have l2 := getN_len 2 s
  have P2 : (getN 2 s).2 = 0 → Hid (∀ (W : World), Calls Tryd.prog 8 #[.agg (rowI (getN 2 s).1)] W fun e w' => e = .returned (.string s) ∧ Below W.heap.size W w') := fun h W => by
    have := put8R _ l2 (getN_in 2 s) W
    rwa [getN_one 2 s h] at this
  have E2 := neR25 _ l2
  have I2 : Hid ((Tryd.prog.info? 25).map (·.size) = some (rowI (getN 2 s).1).size) := by show _ = _; rw [rowI_size, l2]; kernel_rfl
  have Z2 : Hid (2 = (rowI (getN 2 s).1).size) := by show _ = _; rw [rowI_size, l2]
  have O2 := Lib.hid (rowI_one (getN 2 s).1)
  have J2 : Hid (∃ L : List Int, L.length = 2 ∧ rowI (getN 2 s).1 = rowI L) := ⟨_, l2, rfl⟩
  generalize rowI (getN 2 s).1 = R2 at *
  generalize (getN 2 s).2 = e2 at *
  clear l2
  have G9 := Lib.hid (fun (W : World) => get12 s W h1)
  have H9 := Lib.hid (fun (W : World) => rget18 s W h1)
  have l9 := getN_len 9 s
  have P9 : (getN 9 s).2 = 0 → Hid (∀ (W : World), Calls Tryd.prog 9 #[.agg (rowI (getN 9 s).1)] W fun e w' => e = .returned (.string s) ∧ Below W.heap.size W w') := fun h W => by
    have := put9R _ l9 (getN_in 9 s) W
    rwa [getN_one 9 s h] at this
  have E9 := neR27 _ l9
  have I9 : Hid ((Tryd.prog.info? 27).map (·.size) = some (rowI (getN 9 s).1).size) := by show _ = _; rw [rowI_size, l9]; kernel_rfl
  have Z9 : Hid (9 = (rowI (getN 9 s).1).size) := by show _ = _; rw [rowI_size, l9]
  have O9 := Lib.hid (rowI_one (getN 9 s).1)
  have J9 : Hid (∃ L : List Int, L.length = 9 ∧ rowI (getN 9 s).1 = rowI L) := ⟨_, l9, rfl⟩
  generalize rowI (getN 9 s).1 = R9 at *
  generalize (getN 9 s).2 = e9 at *
  clear l9
  have HS := Lib.hid (Stand.nil w)
  clear h1 hs
  go_enter Tryd.func4, Tryd.ntmps4
  go_upto_region 5 with (go_at_call 6; refine HA.out.mono ?_; rintro e w1 ⟨rfl, hb⟩; have HS1 := Lib.hid (HS.out.below hb); clear hb)
  clear HA HS
  go_upto_region 6 with (first
    | (go_at_call 10; refine (G7.out _).mono ?_; rintro e v1 ⟨rfl, hb⟩; have HT := Lib.hid (HS1.out.below hb); clear hb)
    | (refine wpList_store_row rfl 23 (.tmp 3) (.tmp 23) rfl v1.heap.size R7 rfl rfl 23 #[Value.int .i64 0, Value.int .i64 0, Value.int .i64 0, Value.int .i64 0, Value.int .i64 0, Value.int .i64 0, Value.int .i64 0] (heap_alloc_new v1 _) I7.out Z7.out O7.out ?_))
  have hT := HT.out.push 23 #[Value.int .i64 0, Value.int .i64 0, Value.int .i64 0, Value.int .i64 0, Value.int .i64 0, Value.int .i64 0, Value.int .i64 0] R7
  generalize v1.heap.size = q0 at *
  refine at_world (Φ := fun W => Stand w [(q0, R7, 23)] W) hT ?_
  clear hT HT HS1 G7
  rintro w2 hT
  have HS2 := Lib.hid hT
  clear hT
  go_upto_region 7 with (first
    | (go_at_call 11; refine (G2.out _).mono ?_; rintro e v1 ⟨rfl, hb⟩; have HT := Lib.hid (HS2.out.below hb); clear hb)
    | (refine wpList_store_row rfl 25 (.tmp 5) (.tmp 28) rfl v1.heap.size R2 rfl rfl 25 #[Value.int .i64 0, Value.int .i64 0] (heap_alloc_new v1 _) I2.out Z2.out O2.out ?_))
  have hT := HT.out.push 25 #[Value.int .i64 0, Value.int .i64 0] R2
  generalize v1.heap.size = q1 at *
  refine at_world (Φ := fun W => Stand w [(q1, R2, 25), (q0, R7, 23)] W) hT ?_
  clear hT HT HS2 G2
  rintro w3 hT
  have HS3 := Lib.hid hT
  clear hT
  go_upto_region 8 with (first
    | (go_at_call 12; refine (G9.out _).mono ?_; rintro e v1 ⟨rfl, hb⟩; have HT := Lib.hid (HS3.out.below hb); clear hb)
    | (refine wpList_store_row rfl 27 (.tmp 7) (.tmp 33) rfl v1.heap.size R9 rfl rfl 27 #[Value.int .i64 0, Value.int .i64 0, Value.int .i64 0, Value.int .i64 0, Value.int .i64 0, Value.int .i64 0, Value.int .i64 0, Value.int .i64 0, Value.int .i64 0] (heap_alloc_new v1 _) I9.out Z9.out O9.out ?_))
  have hT := HT.out.push 27 #[Value.int .i64 0, Value.int .i64 0, Value.int .i64 0, Value.int .i64 0, Value.int .i64 0, Value.int .i64 0, Value.int .i64 0, Value.int .i64 0, Value.int .i64 0] R9
  generalize v1.heap.size = q2 at *
  refine at_world (Φ := fun W => Stand w [(q2, R9, 27), (q1, R2, 25), (q0, R7, 23)] W) hT ?_
  clear hT HT HS3 G9
  rintro w4 hT
  have HS4 := Lib.hid hT
  clear hT
  go_upto_region 9 with (first
    | (go_at_call 16; refine (H7.out _).mono ?_; rintro e v1 ⟨rfl, hb⟩; have HT := Lib.hid (HS4.out.below hb); clear hb)
    | (refine wpList_store_row rfl 23 (.tmp 9) (.tmp 38) rfl v1.heap.size R7 rfl rfl 23 #[Value.int .i64 0, Value.int .i64 0, Value.int .i64 0, Value.int .i64 0, Value.int .i64 0, Value.int .i64 0, Value.int .i64 0] (heap_alloc_new v1 _) I7.out Z7.out O7.out ?_))
  have hT := HT.out.push 23 #[Value.int .i64 0, Value.int .i64 0, Value.int .i64 0, Value.int .i64 0, Value.int .i64 0, Value.int .i64 0, Value.int .i64 0] R7
  generalize v1.heap.size = q3 at *
  refine at_world (Φ := fun W => Stand w [(q3, R7, 23), (q2, R9, 27), (q1, R2, 25), (q0, R7, 23)] W) hT ?_
  clear hT HT HS4 H7
  rintro w5 hT
  have HS5 := Lib.hid hT
  clear hT
  go_upto_region 10 with (first
    | (go_at_call 17; refine (H2.out _).mono ?_; rintro e v1 ⟨rfl, hb⟩; have HT := Lib.hid (HS5.out.below hb); clear hb)
    | (refine wpList_store_row rfl 25 (.tmp 11) (.tmp 43) rfl v1.heap.size R2 rfl rfl 25 #[Value.int .i64 0, Value.int .i64 0] (heap_alloc_new v1 _) I2.out Z2.out O2.out ?_))
  have hT := HT.out.push 25 #[Value.int .i64 0, Value.int .i64 0] R2
  generalize v1.heap.size = q4 at *
  refine at_world (Φ := fun W => Stand w [(q4, R2, 25), (q3, R7, 23), (q2, R9, 27), (q1, R2, 25), (q0, R7, 23)] W) hT ?_
  clear hT HT HS5 H2
  rintro w6 hT
  have HS6 := Lib.hid hT
  clear hT
  go_upto_region 11 with (first
    | (go_at_call 18; refine (H9.out _).mono ?_; rintro e v1 ⟨rfl, hb⟩; have HT := Lib.hid (HS6.out.below hb); clear hb)
    | (refine wpList_store_row rfl 27 (.tmp 13) (.tmp 48) rfl v1.heap.size R9 rfl rfl 27 #[Value.int .i64 0, Value.int .i64 0, Value.int .i64 0, Value.int .i64 0, Value.int .i64 0, Value.int .i64 0, Value.int .i64 0, Value.int .i64 0, Value.int .i64 0] (heap_alloc_new v1 _) I9.out Z9.out O9.out ?_))
  have hT := HT.out.push 27 #[Value.int .i64 0, Value.int .i64 0, Value.int .i64 0, Value.int .i64 0, Value.int .i64 0, Value.int .i64 0, Value.int .i64 0, Value.int .i64 0, Value.int .i64 0] R9
  generalize v1.heap.size = q5 at *
  refine at_world (Φ := fun W => Stand w [(q5, R9, 27), (q4, R2, 25), (q3, R7, 23), (q2, R9, 27), (q1, R2, 25), (q0, R7, 23)] W) hT ?_
  clear hT HT HS6 H9
  rintro w7 hT
  have HS7 := Lib.hid hT
  clear hT
  go_upto_region 13 with (first
    | ((with_reducible refine atLoad (x := .tmp 3) rfl ?_); refine wpList_load_rowG (by rfl) 23 (.tmp 3) rfl q0 rfl 23 R7 (0, 0) _ (HS7.out.1 (q0, R7, 23) (by simp)) Tryd.underlying23 rfl I7.out ?_)
    | ((with_reducible refine atLoad (x := .tmp 5) rfl ?_); refine wpList_load_rowG (by rfl) 25 (.tmp 5) rfl q1 rfl 25 R2 (0, 0) _ (HS7.out.1 (q1, R2, 25) (by simp)) Tryd.underlying25 rfl I2.out ?_)
    | ((with_reducible refine atLoad (x := .tmp 7) rfl ?_); refine wpList_load_rowG (by rfl) 27 (.tmp 7) rfl q2 rfl 27 R9 (0, 0) _ (HS7.out.1 (q2, R9, 27) (by simp)) Tryd.underlying27 rfl I9.out ?_)
    | ((with_reducible refine atLoad (x := .tmp 9) rfl ?_); refine wpList_load_rowG (by rfl) 23 (.tmp 9) rfl q3 rfl 23 R7 (0, 0) _ (HS7.out.1 (q3, R7, 23) (by simp)) Tryd.underlying23 rfl I7.out ?_)
    | ((with_reducible refine atLoad (x := .tmp 11) rfl ?_); refine wpList_load_rowG (by rfl) 25 (.tmp 11) rfl q4 rfl 25 R2 (0, 0) _ (HS7.out.1 (q4, R2, 25) (by simp)) Tryd.underlying25 rfl I2.out ?_)
    | ((with_reducible refine atLoad (x := .tmp 13) rfl ?_); refine wpList_load_rowG (by rfl) 27 (.tmp 13) rfl q5 rfl 27 R9 (0, 0) _ (HS7.out.1 (q5, R9, 27) (by simp)) Tryd.underlying27 rfl I9.out ?_))
  clear E7 E2 E9
  by_cases h7 : e7 = 0
  · have K7 := P7 h7
    have k7 : (e7 != 0) = false := by simpa using h7
    clear P7 h7
    by_cases h2 : e2 = 0
    · have K2 := P2 h2
      have k2 : (e2 != 0) = false := by simpa using h2
      clear P2 h2
      by_cases h9 : e9 = 0
      · have K9 := P9 h9
        have k9 : (e9 != 0) = false := by simpa using h9
        clear P9 h9
        go_wp2_with (first
          | ((with_reducible refine atLoad (x := .tmp 3) rfl ?_); have hq := HS7.out.1 (q0, R7, 23) (by simp); refine wpList_load_rowG (by rfl) 23 (.tmp 3) rfl q0 rfl 23 R7 (0, 0) _ hq Tryd.underlying23 rfl I7.out ?_; clear hq)
          | ((with_reducible refine atLoad (x := .tmp 5) rfl ?_); have hq := HSa.out.1 (q1, R2, 25) (by simp); refine wpList_load_rowG (by rfl) 25 (.tmp 5) rfl q1 rfl 25 R2 (0, 0) _ hq Tryd.underlying25 rfl I2.out ?_; clear hq)
          | ((with_reducible refine atLoad (x := .tmp 5) rfl ?_); have hq := HS7.out.1 (q1, R2, 25) (by simp); refine wpList_load_rowG (by rfl) 25 (.tmp 5) rfl q1 rfl 25 R2 (0, 0) _ hq Tryd.underlying25 rfl I2.out ?_; clear hq)
          | ((with_reducible refine atLoad (x := .tmp 7) rfl ?_); have hq := HSb.out.1 (q2, R9, 27) (by simp); refine wpList_load_rowG (by rfl) 27 (.tmp 7) rfl q2 rfl 27 R9 (0, 0) _ hq Tryd.underlying27 rfl I9.out ?_; clear hq)
          | ((with_reducible refine atLoad (x := .tmp 7) rfl ?_); have hq := HSa.out.1 (q2, R9, 27) (by simp); refine wpList_load_rowG (by rfl) 27 (.tmp 7) rfl q2 rfl 27 R9 (0, 0) _ hq Tryd.underlying27 rfl I9.out ?_; clear hq)
          | ((with_reducible refine atLoad (x := .tmp 7) rfl ?_); have hq := HS7.out.1 (q2, R9, 27) (by simp); refine wpList_load_rowG (by rfl) 27 (.tmp 7) rfl q2 rfl 27 R9 (0, 0) _ hq Tryd.underlying27 rfl I9.out ?_; clear hq)
          | (go_at_call 7; refine (K7.out _).mono ?_; rintro x v7 ⟨rfl, hb⟩; have HSa := Lib.hid (HS7.out.below hb); clear hb)
          | (go_at_call 8; refine (K2.out _).mono ?_; rintro x v8 ⟨rfl, hb⟩; have HSb := Lib.hid (HSa.out.below hb); clear hb)
          | (go_at_call 8; refine (K2.out _).mono ?_; rintro x v8 ⟨rfl, hb⟩; have HSb := Lib.hid (HS7.out.below hb); clear hb)
          | (go_at_call 9; refine (K9.out _).mono ?_; rintro x v9 ⟨rfl, hb⟩; have HSc := Lib.hid (HSb.out.below hb); clear hb)
          | (go_at_call 9; refine (K9.out _).mono ?_; rintro x v9 ⟨rfl, hb⟩; have HSc := Lib.hid (HSa.out.below hb); clear hb)
          | (go_at_call 9; refine (K9.out _).mono ?_; rintro x v9 ⟨rfl, hb⟩; have HSc := Lib.hid (HS7.out.below hb); clear hb))
        go_ret
        first | exact ⟨rfl, HSc.out.2⟩ | exact ⟨rfl, HSb.out.2⟩ | exact ⟨rfl, HSa.out.2⟩ | exact ⟨rfl, HS7.out.2⟩
      · have k9 : (e9 != 0) = true := by simpa using h9
        clear P9 h9
        go_wp2_with (first
          | ((with_reducible refine atLoad (x := .tmp 3) rfl ?_); have hq := HS7.out.1 (q0, R7, 23) (by simp); refine wpList_load_rowG (by rfl) 23 (.tmp 3) rfl q0 rfl 23 R7 (0, 0) _ hq Tryd.underlying23 rfl I7.out ?_; clear hq)
          | ((with_reducible refine atLoad (x := .tmp 5) rfl ?_); have hq := HSa.out.1 (q1, R2, 25) (by simp); refine wpList_load_rowG (by rfl) 25 (.tmp 5) rfl q1 rfl 25 R2 (0, 0) _ hq Tryd.underlying25 rfl I2.out ?_; clear hq)
          | ((with_reducible refine atLoad (x := .tmp 5) rfl ?_); have hq := HS7.out.1 (q1, R2, 25) (by simp); refine wpList_load_rowG (by rfl) 25 (.tmp 5) rfl q1 rfl 25 R2 (0, 0) _ hq Tryd.underlying25 rfl I2.out ?_; clear hq)
          | ((with_reducible refine atLoad (x := .tmp 7) rfl ?_); have hq := HSb.out.1 (q2, R9, 27) (by simp); refine wpList_load_rowG (by rfl) 27 (.tmp 7) rfl q2 rfl 27 R9 (0, 0) _ hq Tryd.underlying27 rfl I9.out ?_; clear hq)
          | ((with_reducible refine atLoad (x := .tmp 7) rfl ?_); have hq := HSa.out.1 (q2, R9, 27) (by simp); refine wpList_load_rowG (by rfl) 27 (.tmp 7) rfl q2 rfl 27 R9 (0, 0) _ hq Tryd.underlying27 rfl I9.out ?_; clear hq)
          | ((with_reducible refine atLoad (x := .tmp 7) rfl ?_); have hq := HS7.out.1 (q2, R9, 27) (by simp); refine wpList_load_rowG (by rfl) 27 (.tmp 7) rfl q2 rfl 27 R9 (0, 0) _ hq Tryd.underlying27 rfl I9.out ?_; clear hq)
          | (go_at_call 7; refine (K7.out _).mono ?_; rintro x v7 ⟨rfl, hb⟩; have HSa := Lib.hid (HS7.out.below hb); clear hb)
          | (go_at_call 8; refine (K2.out _).mono ?_; rintro x v8 ⟨rfl, hb⟩; have HSb := Lib.hid (HSa.out.below hb); clear hb)
          | (go_at_call 8; refine (K2.out _).mono ?_; rintro x v8 ⟨rfl, hb⟩; have HSb := Lib.hid (HS7.out.below hb); clear hb)
          | (go_at_call 9; refine (K9.out _).mono ?_; rintro x v9 ⟨rfl, hb⟩; have HSc := Lib.hid (HSb.out.below hb); clear hb)
          | (go_at_call 9; refine (K9.out _).mono ?_; rintro x v9 ⟨rfl, hb⟩; have HSc := Lib.hid (HSa.out.below hb); clear hb)
          | (go_at_call 9; refine (K9.out _).mono ?_; rintro x v9 ⟨rfl, hb⟩; have HSc := Lib.hid (HS7.out.below hb); clear hb))
        go_ret
        first | exact ⟨rfl, HSc.out.2⟩ | exact ⟨rfl, HSb.out.2⟩ | exact ⟨rfl, HSa.out.2⟩ | exact ⟨rfl, HS7.out.2⟩
    · have k2 : (e2 != 0) = true := by simpa using h2
      clear P2 h2
      by_cases h9 : e9 = 0
      · have K9 := P9 h9
        have k9 : (e9 != 0) = false := by simpa using h9
        clear P9 h9
        go_wp2_with (first
          | ((with_reducible refine atLoad (x := .tmp 3) rfl ?_); have hq := HS7.out.1 (q0, R7, 23) (by simp); refine wpList_load_rowG (by rfl) 23 (.tmp 3) rfl q0 rfl 23 R7 (0, 0) _ hq Tryd.underlying23 rfl I7.out ?_; clear hq)
          | ((with_reducible refine atLoad (x := .tmp 5) rfl ?_); have hq := HSa.out.1 (q1, R2, 25) (by simp); refine wpList_load_rowG (by rfl) 25 (.tmp 5) rfl q1 rfl 25 R2 (0, 0) _ hq Tryd.underlying25 rfl I2.out ?_; clear hq)
          | ((with_reducible refine atLoad (x := .tmp 5) rfl ?_); have hq := HS7.out.1 (q1, R2, 25) (by simp); refine wpList_load_rowG (by rfl) 25 (.tmp 5) rfl q1 rfl 25 R2 (0, 0) _ hq Tryd.underlying25 rfl I2.out ?_; clear hq)
          | ((with_reducible refine atLoad (x := .tmp 7) rfl ?_); have hq := HSb.out.1 (q2, R9, 27) (by simp); refine wpList_load_rowG (by rfl) 27 (.tmp 7) rfl q2 rfl 27 R9 (0, 0) _ hq Tryd.underlying27 rfl I9.out ?_; clear hq)
          | ((with_reducible refine atLoad (x := .tmp 7) rfl ?_); have hq := HSa.out.1 (q2, R9, 27) (by simp); refine wpList_load_rowG (by rfl) 27 (.tmp 7) rfl q2 rfl 27 R9 (0, 0) _ hq Tryd.underlying27 rfl I9.out ?_; clear hq)
          | ((with_reducible refine atLoad (x := .tmp 7) rfl ?_); have hq := HS7.out.1 (q2, R9, 27) (by simp); refine wpList_load_rowG (by rfl) 27 (.tmp 7) rfl q2 rfl 27 R9 (0, 0) _ hq Tryd.underlying27 rfl I9.out ?_; clear hq)
          | (go_at_call 7; refine (K7.out _).mono ?_; rintro x v7 ⟨rfl, hb⟩; have HSa := Lib.hid (HS7.out.below hb); clear hb)
          | (go_at_call 8; refine (K2.out _).mono ?_; rintro x v8 ⟨rfl, hb⟩; have HSb := Lib.hid (HSa.out.below hb); clear hb)
          | (go_at_call 8; refine (K2.out _).mono ?_; rintro x v8 ⟨rfl, hb⟩; have HSb := Lib.hid (HS7.out.below hb); clear hb)
          | (go_at_call 9; refine (K9.out _).mono ?_; rintro x v9 ⟨rfl, hb⟩; have HSc := Lib.hid (HSb.out.below hb); clear hb)
          | (go_at_call 9; refine (K9.out _).mono ?_; rintro x v9 ⟨rfl, hb⟩; have HSc := Lib.hid (HSa.out.below hb); clear hb)
          | (go_at_call 9; refine (K9.out _).mono ?_; rintro x v9 ⟨rfl, hb⟩; have HSc := Lib.hid (HS7.out.below hb); clear hb))
        go_ret
        first | exact ⟨rfl, HSc.out.2⟩ | exact ⟨rfl, HSb.out.2⟩ | exact ⟨rfl, HSa.out.2⟩ | exact ⟨rfl, HS7.out.2⟩
      · have k9 : (e9 != 0) = true := by simpa using h9
        clear P9 h9
        go_wp2_with (first
          | ((with_reducible refine atLoad (x := .tmp 3) rfl ?_); have hq := HS7.out.1 (q0, R7, 23) (by simp); refine wpList_load_rowG (by rfl) 23 (.tmp 3) rfl q0 rfl 23 R7 (0, 0) _ hq Tryd.underlying23 rfl I7.out ?_; clear hq)
          | ((with_reducible refine atLoad (x := .tmp 5) rfl ?_); have hq := HSa.out.1 (q1, R2, 25) (by simp); refine wpList_load_rowG (by rfl) 25 (.tmp 5) rfl q1 rfl 25 R2 (0, 0) _ hq Tryd.underlying25 rfl I2.out ?_; clear hq)
          | ((with_reducible refine atLoad (x := .tmp 5) rfl ?_); have hq := HS7.out.1 (q1, R2, 25) (by simp); refine wpList_load_rowG (by rfl) 25 (.tmp 5) rfl q1 rfl 25 R2 (0, 0) _ hq Tryd.underlying25 rfl I2.out ?_; clear hq)
          | ((with_reducible refine atLoad (x := .tmp 7) rfl ?_); have hq := HSb.out.1 (q2, R9, 27) (by simp); refine wpList_load_rowG (by rfl) 27 (.tmp 7) rfl q2 rfl 27 R9 (0, 0) _ hq Tryd.underlying27 rfl I9.out ?_; clear hq)
          | ((with_reducible refine atLoad (x := .tmp 7) rfl ?_); have hq := HSa.out.1 (q2, R9, 27) (by simp); refine wpList_load_rowG (by rfl) 27 (.tmp 7) rfl q2 rfl 27 R9 (0, 0) _ hq Tryd.underlying27 rfl I9.out ?_; clear hq)
          | ((with_reducible refine atLoad (x := .tmp 7) rfl ?_); have hq := HS7.out.1 (q2, R9, 27) (by simp); refine wpList_load_rowG (by rfl) 27 (.tmp 7) rfl q2 rfl 27 R9 (0, 0) _ hq Tryd.underlying27 rfl I9.out ?_; clear hq)
          | (go_at_call 7; refine (K7.out _).mono ?_; rintro x v7 ⟨rfl, hb⟩; have HSa := Lib.hid (HS7.out.below hb); clear hb)
          | (go_at_call 8; refine (K2.out _).mono ?_; rintro x v8 ⟨rfl, hb⟩; have HSb := Lib.hid (HSa.out.below hb); clear hb)
          | (go_at_call 8; refine (K2.out _).mono ?_; rintro x v8 ⟨rfl, hb⟩; have HSb := Lib.hid (HS7.out.below hb); clear hb)
          | (go_at_call 9; refine (K9.out _).mono ?_; rintro x v9 ⟨rfl, hb⟩; have HSc := Lib.hid (HSb.out.below hb); clear hb)
          | (go_at_call 9; refine (K9.out _).mono ?_; rintro x v9 ⟨rfl, hb⟩; have HSc := Lib.hid (HSa.out.below hb); clear hb)
          | (go_at_call 9; refine (K9.out _).mono ?_; rintro x v9 ⟨rfl, hb⟩; have HSc := Lib.hid (HS7.out.below hb); clear hb))
        go_ret
        first | exact ⟨rfl, HSc.out.2⟩ | exact ⟨rfl, HSb.out.2⟩ | exact ⟨rfl, HSa.out.2⟩ | exact ⟨rfl, HS7.out.2⟩
  · have k7 : (e7 != 0) = true := by simpa using h7
    clear P7 h7
    by_cases h2 : e2 = 0
    · have K2 := P2 h2
      have k2 : (e2 != 0) = false := by simpa using h2
      clear P2 h2
      by_cases h9 : e9 = 0
      · have K9 := P9 h9
        have k9 : (e9 != 0) = false := by simpa using h9
        clear P9 h9
        go_wp2_with (first
          | ((with_reducible refine atLoad (x := .tmp 3) rfl ?_); have hq := HS7.out.1 (q0, R7, 23) (by simp); refine wpList_load_rowG (by rfl) 23 (.tmp 3) rfl q0 rfl 23 R7 (0, 0) _ hq Tryd.underlying23 rfl I7.out ?_; clear hq)
          | ((with_reducible refine atLoad (x := .tmp 5) rfl ?_); have hq := HSa.out.1 (q1, R2, 25) (by simp); refine wpList_load_rowG (by rfl) 25 (.tmp 5) rfl q1 rfl 25 R2 (0, 0) _ hq Tryd.underlying25 rfl I2.out ?_; clear hq)
          | ((with_reducible refine atLoad (x := .tmp 5) rfl ?_); have hq := HS7.out.1 (q1, R2, 25) (by simp); refine wpList_load_rowG (by rfl) 25 (.tmp 5) rfl q1 rfl 25 R2 (0, 0) _ hq Tryd.underlying25 rfl I2.out ?_; clear hq)
          | ((with_reducible refine atLoad (x := .tmp 7) rfl ?_); have hq := HSb.out.1 (q2, R9, 27) (by simp); refine wpList_load_rowG (by rfl) 27 (.tmp 7) rfl q2 rfl 27 R9 (0, 0) _ hq Tryd.underlying27 rfl I9.out ?_; clear hq)
          | ((with_reducible refine atLoad (x := .tmp 7) rfl ?_); have hq := HSa.out.1 (q2, R9, 27) (by simp); refine wpList_load_rowG (by rfl) 27 (.tmp 7) rfl q2 rfl 27 R9 (0, 0) _ hq Tryd.underlying27 rfl I9.out ?_; clear hq)
          | ((with_reducible refine atLoad (x := .tmp 7) rfl ?_); have hq := HS7.out.1 (q2, R9, 27) (by simp); refine wpList_load_rowG (by rfl) 27 (.tmp 7) rfl q2 rfl 27 R9 (0, 0) _ hq Tryd.underlying27 rfl I9.out ?_; clear hq)
          | (go_at_call 7; refine (K7.out _).mono ?_; rintro x v7 ⟨rfl, hb⟩; have HSa := Lib.hid (HS7.out.below hb); clear hb)
          | (go_at_call 8; refine (K2.out _).mono ?_; rintro x v8 ⟨rfl, hb⟩; have HSb := Lib.hid (HSa.out.below hb); clear hb)
          | (go_at_call 8; refine (K2.out _).mono ?_; rintro x v8 ⟨rfl, hb⟩; have HSb := Lib.hid (HS7.out.below hb); clear hb)
          | (go_at_call 9; refine (K9.out _).mono ?_; rintro x v9 ⟨rfl, hb⟩; have HSc := Lib.hid (HSb.out.below hb); clear hb)
          | (go_at_call 9; refine (K9.out _).mono ?_; rintro x v9 ⟨rfl, hb⟩; have HSc := Lib.hid (HSa.out.below hb); clear hb)
          | (go_at_call 9; refine (K9.out _).mono ?_; rintro x v9 ⟨rfl, hb⟩; have HSc := Lib.hid (HS7.out.below hb); clear hb))
        go_ret
        first | exact ⟨rfl, HSc.out.2⟩ | exact ⟨rfl, HSb.out.2⟩ | exact ⟨rfl, HSa.out.2⟩ | exact ⟨rfl, HS7.out.2⟩
      · have k9 : (e9 != 0) = true := by simpa using h9
        clear P9 h9
        go_wp2_with (first
          | ((with_reducible refine atLoad (x := .tmp 3) rfl ?_); have hq := HS7.out.1 (q0, R7, 23) (by simp); refine wpList_load_rowG (by rfl) 23 (.tmp 3) rfl q0 rfl 23 R7 (0, 0) _ hq Tryd.underlying23 rfl I7.out ?_; clear hq)
          | ((with_reducible refine atLoad (x := .tmp 5) rfl ?_); have hq := HSa.out.1 (q1, R2, 25) (by simp); refine wpList_load_rowG (by rfl) 25 (.tmp 5) rfl q1 rfl 25 R2 (0, 0) _ hq Tryd.underlying25 rfl I2.out ?_; clear hq)
          | ((with_reducible refine atLoad (x := .tmp 5) rfl ?_); have hq := HS7.out.1 (q1, R2, 25) (by simp); refine wpList_load_rowG (by rfl) 25 (.tmp 5) rfl q1 rfl 25 R2 (0, 0) _ hq Tryd.underlying25 rfl I2.out ?_; clear hq)
          | ((with_reducible refine atLoad (x := .tmp 7) rfl ?_); have hq := HSb.out.1 (q2, R9, 27) (by simp); refine wpList_load_rowG (by rfl) 27 (.tmp 7) rfl q2 rfl 27 R9 (0, 0) _ hq Tryd.underlying27 rfl I9.out ?_; clear hq)
          | ((with_reducible refine atLoad (x := .tmp 7) rfl ?_); have hq := HSa.out.1 (q2, R9, 27) (by simp); refine wpList_load_rowG (by rfl) 27 (.tmp 7) rfl q2 rfl 27 R9 (0, 0) _ hq Tryd.underlying27 rfl I9.out ?_; clear hq)
          | ((with_reducible refine atLoad (x := .tmp 7) rfl ?_); have hq := HS7.out.1 (q2, R9, 27) (by simp); refine wpList_load_rowG (by rfl) 27 (.tmp 7) rfl q2 rfl 27 R9 (0, 0) _ hq Tryd.underlying27 rfl I9.out ?_; clear hq)
          | (go_at_call 7; refine (K7.out _).mono ?_; rintro x v7 ⟨rfl, hb⟩; have HSa := Lib.hid (HS7.out.below hb); clear hb)
          | (go_at_call 8; refine (K2.out _).mono ?_; rintro x v8 ⟨rfl, hb⟩; have HSb := Lib.hid (HSa.out.below hb); clear hb)
          | (go_at_call 8; refine (K2.out _).mono ?_; rintro x v8 ⟨rfl, hb⟩; have HSb := Lib.hid (HS7.out.below hb); clear hb)
          | (go_at_call 9; refine (K9.out _).mono ?_; rintro x v9 ⟨rfl, hb⟩; have HSc := Lib.hid (HSb.out.below hb); clear hb)
          | (go_at_call 9; refine (K9.out _).mono ?_; rintro x v9 ⟨rfl, hb⟩; have HSc := Lib.hid (HSa.out.below hb); clear hb)
          | (go_at_call 9; refine (K9.out _).mono ?_; rintro x v9 ⟨rfl, hb⟩; have HSc := Lib.hid (HS7.out.below hb); clear hb))
        go_ret
        first | exact ⟨rfl, HSc.out.2⟩ | exact ⟨rfl, HSb.out.2⟩ | exact ⟨rfl, HSa.out.2⟩ | exact ⟨rfl, HS7.out.2⟩
    · have k2 : (e2 != 0) = true := by simpa using h2
      clear P2 h2
      by_cases h9 : e9 = 0
      · have K9 := P9 h9
        have k9 : (e9 != 0) = false := by simpa using h9
        clear P9 h9
        go_wp2_with (first
          | ((with_reducible refine atLoad (x := .tmp 3) rfl ?_); have hq := HS7.out.1 (q0, R7, 23) (by simp); refine wpList_load_rowG (by rfl) 23 (.tmp 3) rfl q0 rfl 23 R7 (0, 0) _ hq Tryd.underlying23 rfl I7.out ?_; clear hq)
          | ((with_reducible refine atLoad (x := .tmp 5) rfl ?_); have hq := HSa.out.1 (q1, R2, 25) (by simp); refine wpList_load_rowG (by rfl) 25 (.tmp 5) rfl q1 rfl 25 R2 (0, 0) _ hq Tryd.underlying25 rfl I2.out ?_; clear hq)
          | ((with_reducible refine atLoad (x := .tmp 5) rfl ?_); have hq := HS7.out.1 (q1, R2, 25) (by simp); refine wpList_load_rowG (by rfl) 25 (.tmp 5) rfl q1 rfl 25 R2 (0, 0) _ hq Tryd.underlying25 rfl I2.out ?_; clear hq)
          | ((with_reducible refine atLoad (x := .tmp 7) rfl ?_); have hq := HSb.out.1 (q2, R9, 27) (by simp); refine wpList_load_rowG (by rfl) 27 (.tmp 7) rfl q2 rfl 27 R9 (0, 0) _ hq Tryd.underlying27 rfl I9.out ?_; clear hq)
          | ((with_reducible refine atLoad (x := .tmp 7) rfl ?_); have hq := HSa.out.1 (q2, R9, 27) (by simp); refine wpList_load_rowG (by rfl) 27 (.tmp 7) rfl q2 rfl 27 R9 (0, 0) _ hq Tryd.underlying27 rfl I9.out ?_; clear hq)
          | ((with_reducible refine atLoad (x := .tmp 7) rfl ?_); have hq := HS7.out.1 (q2, R9, 27) (by simp); refine wpList_load_rowG (by rfl) 27 (.tmp 7) rfl q2 rfl 27 R9 (0, 0) _ hq Tryd.underlying27 rfl I9.out ?_; clear hq)
          | (go_at_call 7; refine (K7.out _).mono ?_; rintro x v7 ⟨rfl, hb⟩; have HSa := Lib.hid (HS7.out.below hb); clear hb)
          | (go_at_call 8; refine (K2.out _).mono ?_; rintro x v8 ⟨rfl, hb⟩; have HSb := Lib.hid (HSa.out.below hb); clear hb)
          | (go_at_call 8; refine (K2.out _).mono ?_; rintro x v8 ⟨rfl, hb⟩; have HSb := Lib.hid (HS7.out.below hb); clear hb)
          | (go_at_call 9; refine (K9.out _).mono ?_; rintro x v9 ⟨rfl, hb⟩; have HSc := Lib.hid (HSb.out.below hb); clear hb)
          | (go_at_call 9; refine (K9.out _).mono ?_; rintro x v9 ⟨rfl, hb⟩; have HSc := Lib.hid (HSa.out.below hb); clear hb)
          | (go_at_call 9; refine (K9.out _).mono ?_; rintro x v9 ⟨rfl, hb⟩; have HSc := Lib.hid (HS7.out.below hb); clear hb))
        go_ret
        first | exact ⟨rfl, HSc.out.2⟩ | exact ⟨rfl, HSb.out.2⟩ | exact ⟨rfl, HSa.out.2⟩ | exact ⟨rfl, HS7.out.2⟩
      · have k9 : (e9 != 0) = true := by simpa using h9
        clear P9 h9
        go_wp2_with (first
          | ((with_reducible refine atLoad (x := .tmp 3) rfl ?_); have hq := HS7.out.1 (q0, R7, 23) (by simp); refine wpList_load_rowG (by rfl) 23 (.tmp 3) rfl q0 rfl 23 R7 (0, 0) _ hq Tryd.underlying23 rfl I7.out ?_; clear hq)
          | ((with_reducible refine atLoad (x := .tmp 5) rfl ?_); have hq := HSa.out.1 (q1, R2, 25) (by simp); refine wpList_load_rowG (by rfl) 25 (.tmp 5) rfl q1 rfl 25 R2 (0, 0) _ hq Tryd.underlying25 rfl I2.out ?_; clear hq)
          | ((with_reducible refine atLoad (x := .tmp 5) rfl ?_); have hq := HS7.out.1 (q1, R2, 25) (by simp); refine wpList_load_rowG (by rfl) 25 (.tmp 5) rfl q1 rfl 25 R2 (0, 0) _ hq Tryd.underlying25 rfl I2.out ?_; clear hq)
          | ((with_reducible refine atLoad (x := .tmp 7) rfl ?_); have hq := HSb.out.1 (q2, R9, 27) (by simp); refine wpList_load_rowG (by rfl) 27 (.tmp 7) rfl q2 rfl 27 R9 (0, 0) _ hq Tryd.underlying27 rfl I9.out ?_; clear hq)
          | ((with_reducible refine atLoad (x := .tmp 7) rfl ?_); have hq := HSa.out.1 (q2, R9, 27) (by simp); refine wpList_load_rowG (by rfl) 27 (.tmp 7) rfl q2 rfl 27 R9 (0, 0) _ hq Tryd.underlying27 rfl I9.out ?_; clear hq)
          | ((with_reducible refine atLoad (x := .tmp 7) rfl ?_); have hq := HS7.out.1 (q2, R9, 27) (by simp); refine wpList_load_rowG (by rfl) 27 (.tmp 7) rfl q2 rfl 27 R9 (0, 0) _ hq Tryd.underlying27 rfl I9.out ?_; clear hq)
          | (go_at_call 7; refine (K7.out _).mono ?_; rintro x v7 ⟨rfl, hb⟩; have HSa := Lib.hid (HS7.out.below hb); clear hb)
          | (go_at_call 8; refine (K2.out _).mono ?_; rintro x v8 ⟨rfl, hb⟩; have HSb := Lib.hid (HSa.out.below hb); clear hb)
          | (go_at_call 8; refine (K2.out _).mono ?_; rintro x v8 ⟨rfl, hb⟩; have HSb := Lib.hid (HS7.out.below hb); clear hb)
          | (go_at_call 9; refine (K9.out _).mono ?_; rintro x v9 ⟨rfl, hb⟩; have HSc := Lib.hid (HSb.out.below hb); clear hb)
          | (go_at_call 9; refine (K9.out _).mono ?_; rintro x v9 ⟨rfl, hb⟩; have HSc := Lib.hid (HSa.out.below hb); clear hb)
          | (go_at_call 9; refine (K9.out _).mono ?_; rintro x v9 ⟨rfl, hb⟩; have HSc := Lib.hid (HS7.out.below hb); clear hb))
        go_ret
        first | exact ⟨rfl, HSc.out.2⟩ | exact ⟨rfl, HSb.out.2⟩ | exact ⟨rfl, HSa.out.2⟩ | exact ⟨rfl, HS7.out.2⟩
end Go.Proofs.YtnakmlnjfjgghaaDoor
