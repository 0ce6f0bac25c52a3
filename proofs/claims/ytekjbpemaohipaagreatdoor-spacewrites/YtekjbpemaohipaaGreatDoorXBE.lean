import Derived.Test.YtekjbpemaohipaaGreatDoorXBD
namespace Go.Proofs.YtekjbpemaohipaaGreatDoor
open Go.RowKit Go.Shelf
set_option maxRecDepth 100000 in
set_option maxHeartbeats 8000000 in
theorem sBefore_any (b : Int) (A : List (List UInt8 × List (List UInt8))) (r : List UInt8) (B1 : Nat) (V1 : Value) (w : World) (h1 : SPL w B1 V1 A) (hs1 : szC A ≤ 128) (hg1 : gdC A) (gr : good r = true) :
    Calls Tryz.prog 8 #[.agg #[.int .i64 b, V1, .bool false], .agg #[.int .i64 (r.length : Int), .int .u64 (FW r 0 : Int), .int .u64 (FW r 1 : Int), .int .u64 (FW r 2 : Int), .int .u64 (FW r 3 : Int), .int .u64 (OW r 0 : Int), .int .u64 (OW r 1 : Int), .int .u64 (OW r 2 : Int), .int .u64 (OW r 3 : Int)]] w fun e w' => Below w.heap.size w w' ∧ ((bvE b r = 11 ∧ e = .returned (.tuple #[.agg #[.int .i64 0, .slice none 0 0, .bool false], .int .i64 11])) ∨ (bvE b r = 0 ∧ r = alT b ∧ e = .returned (.tuple #[.agg #[.int .i64 b, V1, .bool false], .int .i64 0])) ∨ (bvE b r = 0 ∧ ∃ V, e = .returned (.tuple #[.agg #[.int .i64 b, V, .bool true], .int .i64 0]) ∧ LSP w' V (bfN r A))) := by
  obtain ⟨i1, hi1, hy0, hy1, hy2⟩ := info_parts info_term
  obtain ⟨Z1, rfl, r1, l1⟩ := h1
  have hq1 := szC_len (Z1.map ZT.cont)
  rw [List.length_map] at hq1
  obtain ⟨p1, k1, rfl⟩ := shapeQ1 r1
  obtain ⟨n1, hn1⟩ : ∃ n, Z1.length = n := ⟨_, rfl⟩
  rw [hn1] at r1 hq1 ⊢
  obtain ⟨w2, hw2⟩ : ∃ w2, (((w.alloc (.cells #[.int .i64 b, .slice p1 n1 k1, .bool false] 26 (0, 0))).alloc (.cells #[.int .i64 (r.length : Int), .int .u64 (FW r 0 : Int), .int .u64 (FW r 1 : Int), .int .u64 (FW r 2 : Int), .int .u64 (FW r 3 : Int), .int .u64 (OW r 0 : Int), .int .u64 (OW r 1 : Int), .int .u64 (OW r 2 : Int), .int .u64 (OW r 3 : Int)] 34 (0, 0))).alloc (.cells #[.int .i64 0, .slice none 0 0, .bool false] 26 (0, 0))) = w2 := ⟨_, rfl⟩
  have hB2 : Below w.heap.size w w2 := by rw [← hw2]; exact belA (belA (belA (Below.refl _ _) _) _) _
  have d1 : w2.heap[w.heap.size]? = some (.cells #[.int .i64 b, .slice p1 n1 k1, .bool false] 26 (0, 0)) := by rw [← hw2, Below.heap_alloc _ _ _ (by simp <;> omega)]; exact alw_0 _ _ _
  have d2 : w2.heap[w.heap.size + 1]? = some (.cells #[.int .i64 (r.length : Int), .int .u64 (FW r 0 : Int), .int .u64 (FW r 1 : Int), .int .u64 (FW r 2 : Int), .int .u64 (FW r 3 : Int), .int .u64 (OW r 0 : Int), .int .u64 (OW r 1 : Int), .int .u64 (OW r 2 : Int), .int .u64 (OW r 3 : Int)] 34 (0, 0)) := by rw [← hw2, Below.heap_alloc _ _ _ (by simp <;> omega)]; exact alw_1 _ _ _
  have d3 : w2.heap[w.heap.size + 1 + 1]? = some (.cells #[.int .i64 0, .slice none 0 0, .bool false] 26 (0, 0)) := by rw [← hw2]; have := alloc_get ((w.alloc (.cells #[.int .i64 b, .slice p1 n1 k1, .bool false] 26 (0, 0))).alloc (.cells #[.int .i64 (r.length : Int), .int .u64 (FW r 0 : Int), .int .u64 (FW r 1 : Int), .int .u64 (FW r 2 : Int), .int .u64 (FW r 3 : Int), .int .u64 (OW r 0 : Int), .int .u64 (OW r 1 : Int), .int .u64 (OW r 2 : Int), .int .u64 (OW r 3 : Int)] 34 (0, 0))) (.cells #[.int .i64 0, .slice none 0 0, .bool false] 26 (0, 0)); simpa using this
  have HK : Hid (∀ W, Below w2.heap.size w2 W → ((∀ j, W.cell? ⟨w.heap.size, j, none⟩ = (#[.int .i64 b, .slice p1 n1 k1, .bool false] : Array Value)[j]?) ∧ (∀ j, W.cell? ⟨w.heap.size + 1, j, none⟩ = (#[.int .i64 (r.length : Int), .int .u64 (FW r 0 : Int), .int .u64 (FW r 1 : Int), .int .u64 (FW r 2 : Int), .int .u64 (FW r 3 : Int), .int .u64 (OW r 0 : Int), .int .u64 (OW r 1 : Int), .int .u64 (OW r 2 : Int), .int .u64 (OW r 3 : Int)] : Array Value)[j]?))) := fun W hW => ⟨(cells_block (keepblk3 hW d1)).1, (cells_block (keepblk3 hW d2)).1⟩
  have HA : Hid (w2.heap[w.heap.size + 1 + 1]? = some (.cells #[.int .i64 0, .slice none 0 0, .bool false] 26 (0, 0)) ∧ Below w.heap.size w w2 ∧ w.heap.size + 1 + 1 < w2.heap.size ∧ w2.heap[w.heap.size + 1]? = some (.cells #[.int .i64 (r.length : Int), .int .u64 (FW r 0 : Int), .int .u64 (FW r 1 : Int), .int .u64 (FW r 2 : Int), .int .u64 (FW r 3 : Int), .int .u64 (OW r 0 : Int), .int .u64 (OW r 1 : Int), .int .u64 (OW r 2 : Int), .int .u64 (OW r 3 : Int)] 34 (0, 0))) := ⟨d3, hB2, lt_of_get3 d3, d2⟩
  have HZ1 : Hid (∀ W, Below w2.heap.size w2 W → IRZ W p1 Z1 ∧ ∀ z ∈ Z1, ZOK W z ∧ z.L.length ≤ 128) := fun W hW => ⟨(IRZ_own r1 hn1).later (bel0 hB2 hW), fun z hz => by
    have hm := szC_mem z.cont (List.mem_map_of_mem (f := ZT.cont) hz)
    have e : z.cont.2 = z.L := rfl
    rw [e] at hm
    exact ⟨⟨IRK_own (own_belQ (l1 z hz) (bel0 hB2 hW)) rfl, by omega, hg1 z.cont (List.mem_map_of_mem (f := ZT.cont) hz)⟩, by omega⟩⟩
  have HN : Hid (Z1.length = n1 ∧ n1 ≤ 128) := ⟨hn1, by omega⟩
  have hb1n : n1 ≤ 128 := by omega
  obtain ⟨rl, hrl⟩ : ∃ x : Int, (r.length : Int) = x := ⟨_, rfl⟩
  obtain ⟨q, hq⟩ : ∃ q, (!(b == 0) && (b == (r.length : Int))) = q := ⟨_, rfl⟩
  have HE : Hid (bvE b r = if q = false then 11 else 0) := by unfold Hid bvE; rw [hq]
  have HF : Hid (∀ W, Calls Tryz.prog 25 #[.agg #[.int .i64 b, .slice p1 n1 k1, .bool false], .int .i64 (r.length : Int)] W fun e w' => e = .returned (.bool q) ∧ Below W.heap.size W w') := fun W => by
    have h := fits_any2 b (r.length : Int) p1 n1 k1 W
    rw [hq] at h
    exact h
  have HWD : Hid (∀ W, Calls Tryz.prog 26 #[.agg #[.int .i64 (r.length : Int), .int .u64 (FW r 0 : Int), .int .u64 (FW r 1 : Int), .int .u64 (FW r 2 : Int), .int .u64 (FW r 3 : Int), .int .u64 (OW r 0 : Int), .int .u64 (OW r 1 : Int), .int .u64 (OW r 2 : Int), .int .u64 (OW r 3 : Int)]] W fun e w' => e = .returned (.int .i64 (r.length : Int)) ∧ Below W.heap.size W w') := fun W => width_any r W gr
  have hk0 := HK.out w2 (Below.refl _ _)
  have hk0d : ((∀ j, w2.drew.cell? ⟨w.heap.size, j, none⟩ = (#[.int .i64 b, .slice p1 n1 k1, .bool false] : Array Value)[j]?) ∧ (∀ j, w2.drew.cell? ⟨w.heap.size + 1, j, none⟩ = (#[.int .i64 (r.length : Int), .int .u64 (FW r 0 : Int), .int .u64 (FW r 1 : Int), .int .u64 (FW r 2 : Int), .int .u64 (FW r 3 : Int), .int .u64 (OW r 0 : Int), .int .u64 (OW r 1 : Int), .int .u64 (OW r 2 : Int), .int .u64 (OW r 3 : Int)] : Array Value)[j]?)) := hk0
  obtain ⟨hka, hkb⟩ := hk0
  have hk0 : ((∀ j, w2.cell? ⟨w.heap.size, j, none⟩ = (#[.int .i64 b, .slice p1 n1 k1, .bool false] : Array Value)[j]?) ∧ (∀ j, w2.cell? ⟨w.heap.size + 1, j, none⟩ = (#[.int .i64 (r.length : Int), .int .u64 (FW r 0 : Int), .int .u64 (FW r 1 : Int), .int .u64 (FW r 2 : Int), .int .u64 (FW r 3 : Int), .int .u64 (OW r 0 : Int), .int .u64 (OW r 1 : Int), .int .u64 (OW r 2 : Int), .int .u64 (OW r 3 : Int)] : Array Value)[j]?)) := ⟨hka, hkb⟩
  have GR : Hid (good r = true) := gr
  have HRS : Hid (∀ W, Below w2.heap.size w2 W → W.heap[w.heap.size + 1 + 1]? = some (.cells #[.int .i64 0, .slice none 0 0, .bool false] 26 (0, 0)) ∧ Below w.heap.size w W) := fun W hW => ⟨keepblk3 hW d3, bel0 hB2 hW⟩
  clear hB2 d1 d2 d3 r1 l1 hq1 hn1 hs1 hg1 hq gr hrl rl
  cases q with
  | false =>
    have e11 : bvE b r = 11 := HE.out
    go_enter Tryz.func8, Tryz.ntmps8
    go_upto_region 1 with fail
    clear hw2 hka hkb
    go_region_held3 (fun W => ((∀ j, W.cell? ⟨w.heap.size, j, none⟩ = (#[.int .i64 b, .slice p1 n1 k1, .bool false] : Array Value)[j]?) ∧ (∀ j, W.cell? ⟨w.heap.size + 1, j, none⟩ = (#[.int .i64 (r.length : Int), .int .u64 (FW r 0 : Int), .int .u64 (FW r 1 : Int), .int .u64 (FW r 2 : Int), .int .u64 (FW r 3 : Int), .int .u64 (OW r 0 : Int), .int .u64 (OW r 1 : Int), .int .u64 (OW r 2 : Int), .int .u64 (OW r 3 : Int)] : Array Value)[j]?))) (first | with_reducible exact hk0 | with_reducible exact hk0d | with_reducible exact hk5 | with_reducible exact hk6) (first | (go_at_call 25; refine (HF.out _).mono ?_; rintro e w6 ⟨rfl, hb6⟩; have hb6' : Below w2.heap.size w2 w6 := bel0 hb5' hb6; have hk6 := HK.out w6 hb6') | (go_at_call 26; refine (HWD.out _).mono ?_; rintro e w5 ⟨rfl, hb5⟩; have hb5' : Below w2.heap.size w2 w5 := (by first | exact hb5 | exact und hb5); have hk5 := HK.out w5 hb5'))
    obtain ⟨k3, hB1⟩ := HRS.out w6 hb6'
    obtain ⟨hc3, hf3⟩ := cells_block k3
    have HP : Hid ((((w6.setCell ⟨w.heap.size + 1 + 1, 0, none⟩ (.int .i64 0)).setCell ⟨w.heap.size + 1 + 1, 1, none⟩ (.slice none 0 0)).setCell ⟨w.heap.size + 1 + 1, 2, none⟩ (.bool false)).heap[w.heap.size + 1 + 1]? = some (.cells #[.int .i64 0, .slice none 0 0, .bool false] 26 (0, 0)) ∧ Below w.heap.size w (((w6.setCell ⟨w.heap.size + 1 + 1, 0, none⟩ (.int .i64 0)).setCell ⟨w.heap.size + 1 + 1, 1, none⟩ (.slice none 0 0)).setCell ⟨w.heap.size + 1 + 1, 2, none⟩ (.bool false))) := ⟨put3_get _ _ _ k3, ((hB1.setCell (by simp; omega) _).setCell (by simp; omega) _).setCell (by simp; omega) _⟩
    clear hk0 hk0d hk5 hk6 k3 hB1
    go_wp2_with fail
    refine bodyPost_ret (v := .tuple #[.agg #[.int .i64 0, .slice none 0 0, .bool false], .int .i64 11]) (res_sp2 _ _ (w.heap.size + 1 + 1) _ _ _ _ Tryz.results8 rfl rfl HP.out.1) rfl ?_
    exact ⟨HP.out.2, .inl ⟨e11, rfl⟩⟩
  | true =>
    have e0 : bvE b r = 0 := by rw [HE.out]; rfl
    have E0 : Hid (bvE b r = 0) := e0
    obtain ⟨D0, hD0⟩ : ∃ D, alT b = D := ⟨_, rfl⟩
    obtain ⟨q2, hq2⟩ : ∃ q, (r == D0) = q := ⟨_, rfl⟩
    have hEQ := eql_cube r D0 GR.out (by rw [← hD0]; exact alT_good b)
    rw [hq2] at hEQ
    have HAL : Hid (∀ W, Calls Tryz.prog 23 #[.int .i64 b] W fun e w' => e = .returned (.agg #[.int .i64 (D0.length : Int), .int .u64 (FW D0 0 : Int), .int .u64 (FW D0 1 : Int), .int .u64 (FW D0 2 : Int), .int .u64 (FW D0 3 : Int), .int .u64 (OW D0 0 : Int), .int .u64 (OW D0 1 : Int), .int .u64 (OW D0 2 : Int), .int .u64 (OW D0 3 : Int)]) ∧ Below W.heap.size W w') := fun W => by
      have h := all_any b W
      have e : (if 1 ≤ b ∧ b ≤ 256 then List.replicate b.toNat 120 else []) = D0 := hD0
      rw [e] at h
      exact h
    have HQ2 : Hid ((r == D0) = q2 ∧ alT b = D0) := ⟨hq2, hD0⟩
    clear HE e0 hD0 hq2
    go_enter Tryz.func8, Tryz.ntmps8
    go_upto_region 1 with fail
    clear hw2 hka hkb
    go_region_held3 (fun W => ((∀ j, W.cell? ⟨w.heap.size, j, none⟩ = (#[.int .i64 b, .slice p1 n1 k1, .bool false] : Array Value)[j]?) ∧ (∀ j, W.cell? ⟨w.heap.size + 1, j, none⟩ = (#[.int .i64 (r.length : Int), .int .u64 (FW r 0 : Int), .int .u64 (FW r 1 : Int), .int .u64 (FW r 2 : Int), .int .u64 (FW r 3 : Int), .int .u64 (OW r 0 : Int), .int .u64 (OW r 1 : Int), .int .u64 (OW r 2 : Int), .int .u64 (OW r 3 : Int)] : Array Value)[j]?))) (first | with_reducible exact hk0 | with_reducible exact hk0d | with_reducible exact hk5 | with_reducible exact hk6) (first | (go_at_call 25; refine (HF.out _).mono ?_; rintro e w6 ⟨rfl, hb6⟩; have hb6' : Below w2.heap.size w2 w6 := bel0 hb5' hb6; have hk6 := HK.out w6 hb6') | (go_at_call 26; refine (HWD.out _).mono ?_; rintro e w5 ⟨rfl, hb5⟩; have hb5' : Below w2.heap.size w2 w5 := (by first | exact hb5 | exact und hb5); have hk5 := HK.out w5 hb5'))
    obtain ⟨hka, hkb⟩ := hk6
    have hk7 : ((∀ j, w6.cell? ⟨w.heap.size, j, none⟩ = (#[.int .i64 b, .slice p1 n1 k1, .bool false] : Array Value)[j]?) ∧ (∀ j, w6.cell? ⟨w.heap.size + 1, j, none⟩ = (#[.int .i64 (r.length : Int), .int .u64 (FW r 0 : Int), .int .u64 (FW r 1 : Int), .int .u64 (FW r 2 : Int), .int .u64 (FW r 3 : Int), .int .u64 (OW r 0 : Int), .int .u64 (OW r 1 : Int), .int .u64 (OW r 2 : Int), .int .u64 (OW r 3 : Int)] : Array Value)[j]?)) := ⟨hka, hkb⟩
    have hk7d : ((∀ j, w6.drew.cell? ⟨w.heap.size, j, none⟩ = (#[.int .i64 b, .slice p1 n1 k1, .bool false] : Array Value)[j]?) ∧ (∀ j, w6.drew.cell? ⟨w.heap.size + 1, j, none⟩ = (#[.int .i64 (r.length : Int), .int .u64 (FW r 0 : Int), .int .u64 (FW r 1 : Int), .int .u64 (FW r 2 : Int), .int .u64 (FW r 3 : Int), .int .u64 (OW r 0 : Int), .int .u64 (OW r 1 : Int), .int .u64 (OW r 2 : Int), .int .u64 (OW r 3 : Int)] : Array Value)[j]?)) := hk7
    have HB6 : Hid (Below w2.heap.size w2 w6) := hb6'
    clear hk0 hk0d hk5 hb5 hb5' hb6 hb6' HF HWD
    go_upto_region 3 with fail
    clear hka hkb
    go_region_held3 (fun W => ((∀ j, W.cell? ⟨w.heap.size, j, none⟩ = (#[.int .i64 b, .slice p1 n1 k1, .bool false] : Array Value)[j]?) ∧ (∀ j, W.cell? ⟨w.heap.size + 1, j, none⟩ = (#[.int .i64 (r.length : Int), .int .u64 (FW r 0 : Int), .int .u64 (FW r 1 : Int), .int .u64 (FW r 2 : Int), .int .u64 (FW r 3 : Int), .int .u64 (OW r 0 : Int), .int .u64 (OW r 1 : Int), .int .u64 (OW r 2 : Int), .int .u64 (OW r 3 : Int)] : Array Value)[j]?))) (first | with_reducible exact hk7 | with_reducible exact hk7d | with_reducible exact hk8) (first | (go_at_call 23; refine (HAL.out _).mono ?_; rintro e w8 ⟨rfl, hb8⟩; have hb8' : Below w2.heap.size w2 w8 := bel0 HB6.out (by first | exact hb8 | exact und hb8); have hk8 := HK.out w8 hb8'))
    obtain ⟨hka, hkb⟩ := hk8
    obtain ⟨k3, hB1⟩ := HRS.out w8 hb8'
    have HB8 : Hid (Below w2.heap.size w2 w8) := hb8'
    clear hk7 hk7d hb8 HB6 HAL
    cases q2 with
    | true =>
      have eR : r = D0 := by simpa using HQ2.out.1
      have ER : Hid (r = alT b) := by unfold Hid; rw [HQ2.out.2]; exact eR
      obtain ⟨hc3, hf3⟩ := cells_block k3
      have HP : Hid ((((w8.setCell ⟨w.heap.size + 1 + 1, 0, none⟩ (.int .i64 b)).setCell ⟨w.heap.size + 1 + 1, 1, none⟩ (.slice p1 n1 k1)).setCell ⟨w.heap.size + 1 + 1, 2, none⟩ (.bool false)).heap[w.heap.size + 1 + 1]? = some (.cells #[.int .i64 b, .slice p1 n1 k1, .bool false] 26 (0, 0)) ∧ Below w.heap.size w (((w8.setCell ⟨w.heap.size + 1 + 1, 0, none⟩ (.int .i64 b)).setCell ⟨w.heap.size + 1 + 1, 1, none⟩ (.slice p1 n1 k1)).setCell ⟨w.heap.size + 1 + 1, 2, none⟩ (.bool false))) := ⟨put3_get _ _ _ k3, ((hB1.setCell (by simp; omega) _).setCell (by simp; omega) _).setCell (by simp; omega) _⟩
      clear k3 hB1 eR
      go_wp2_with fail
      refine bodyPost_ret (v := .tuple #[.agg #[.int .i64 b, .slice p1 n1 k1, .bool false], .int .i64 0]) (res_sp2 _ _ (w.heap.size + 1 + 1) _ _ _ _ Tryz.results8 rfl rfl HP.out.1) rfl ?_
      exact ⟨HP.out.2, .inr (.inl ⟨E0.out, ER.out, rfl⟩)⟩
    | false =>
      clear k3 hB1 HQ2
      have hfl := fld1
      go_wp2_with fail
      refine (inForm_any _ _ _ _ _).mono ?_
      rintro e W0 ⟨rfl, hb0⟩
      have HS0 : Hid (Below w2.heap.size w2 W0 ∧ ∃ Zk : List ZT, Zk.map ZT.cont = bfN r ((Z1.map ZT.cont).take 0) ∧ Zk.length ≤ 0 ∧ W0.ownsRow w2.heap.size 62 10 (.slice none 0 0) Zk.length (tes Zk) ∧ ∀ z ∈ Zk, ZOK W0 z) := ⟨bel0 HB8.out hb0, [], rfl, Nat.le_refl _, World.ownsRow_nil _ _ _ _, fun z hz => by cases hz⟩
      clear hka hkb hb0 HB8
      go_wp2_with fail
      go_loopw [6, 27] (fun v6 v27 wr => ∃ k : Nat, v27 = .int .i64 (k : Int) ∧ k ≤ n1 ∧ Hid (Below w2.heap.size w2 wr ∧ ∃ Zk : List ZT, Zk.map ZT.cont = bfN r ((Z1.map ZT.cont).take k) ∧ Zk.length ≤ k ∧ wr.ownsRow w2.heap.size 62 10 v6 Zk.length (tes Zk) ∧ ∀ z ∈ Zk, ZOK wr z)) (fun _ v27 _ => n1 - (intOf v27).toNat)
      case atStart => exact ⟨0, rfl, Nat.zero_le _, HS0⟩
      case round =>
        clear HS0
        obtain ⟨k, rfl, hk, hZ⟩ := hrel
        obtain ⟨hB, Zk, e1, e2, e3, e4⟩ := hZ.out
        by_cases hlt : k < n1
        · have j1 : (k : Int) < (n1 : Int) := by omega
          have j0 : (0 : Int) ≤ (k : Int) := by omega
          obtain ⟨za, hza⟩ : ∃ z, Z1[k]? = some z := ⟨_, List.getElem?_eq_getElem (by rw [HN.out.1]; exact hlt)⟩
          obtain ⟨ac, aq, ak, aL⟩ := za
          obtain ⟨iz, gz⟩ := HZ1.out wr hB
          obtain ⟨ga, oa, rfl, q0, q1, q2, q3, q4, q5, q6, q7, q8, q9⟩ := iz wr (Below.refl _ _) k _ hza
          simp only at q0 q1 q2 q3 q4 q5 q6 q7 q8 q9
          have hzok := gz _ (List.mem_of_getElem? hza)
          have hst := bfN_step (r := r) (A := Z1.map ZT.cont) (k := k) (a := (ac, aL)) (by rw [List.getElem?_map, hza]; rfl)
          simp only at hst
          obtain ⟨na, hna⟩ : ∃ n, aL.length = n := ⟨_, rfl⟩
          rw [hna] at q9
          obtain ⟨wo, rfl⟩ : ∃ wo, wo = wr := ⟨wr, rfl⟩
          obtain ⟨wa, hwa⟩ : ∃ wa, wo.alloc (.cells #[.int .i64 (ac.length : Int), .int .u64 (FW ac 0 : Int), .int .u64 (FW ac 1 : Int), .int .u64 (FW ac 2 : Int), .int .u64 (FW ac 3 : Int), .int .u64 (OW ac 0 : Int), .int .u64 (OW ac 1 : Int), .int .u64 (OW ac 2 : Int), .int .u64 (OW ac 3 : Int), .slice aq na ak] 62 (0, 0)) = wa := ⟨_, rfl⟩
          have hal : Below wo.heap.size wo wa := by rw [← hwa]; exact belA (Below.refl _ _) _
          have hgt : wa.heap[wo.heap.size]? = some (.cells #[.int .i64 (ac.length : Int), .int .u64 (FW ac 0 : Int), .int .u64 (FW ac 1 : Int), .int .u64 (FW ac 2 : Int), .int .u64 (FW ac 3 : Int), .int .u64 (OW ac 0 : Int), .int .u64 (OW ac 1 : Int), .int .u64 (OW ac 2 : Int), .int .u64 (OW ac 3 : Int), .slice aq na ak] 62 (0, 0)) := by rw [← hwa]; exact alloc_get _ _
          obtain ⟨hcT, -⟩ := cells_block hgt
          have hBa := bel0 hB hal
          obtain ⟨hcR, -⟩ := cells_block (keepblk3 hBa HA.out.2.2.2)
          obtain ⟨D, hD⟩ : ∃ D, beT ac r = D := ⟨_, rfl⟩
          obtain ⟨qq, hqq⟩ : ∃ q, agB ac r = q := ⟨_, rfl⟩
          have gD : Hid (good D = true) := by unfold Hid; rw [← hD]; exact good_beT _ _ hzok.1.2.2.1 GR.out
          have HBF : Hid (Calls Tryz.prog 28 #[.agg #[.int .i64 (ac.length : Int), .int .u64 (FW ac 0 : Int), .int .u64 (FW ac 1 : Int), .int .u64 (FW ac 2 : Int), .int .u64 (FW ac 3 : Int), .int .u64 (OW ac 0 : Int), .int .u64 (OW ac 1 : Int), .int .u64 (OW ac 2 : Int), .int .u64 (OW ac 3 : Int)], .agg #[.int .i64 (r.length : Int), .int .u64 (FW r 0 : Int), .int .u64 (FW r 1 : Int), .int .u64 (FW r 2 : Int), .int .u64 (FW r 3 : Int), .int .u64 (OW r 0 : Int), .int .u64 (OW r 1 : Int), .int .u64 (OW r 2 : Int), .int .u64 (OW r 3 : Int)]] wa fun e w' => e = .returned (.tuple #[.agg #[.int .i64 (D.length : Int), .int .u64 (FW D 0 : Int), .int .u64 (FW D 1 : Int), .int .u64 (FW D 2 : Int), .int .u64 (FW D 3 : Int), .int .u64 (OW D 0 : Int), .int .u64 (OW D 1 : Int), .int .u64 (OW D 2 : Int), .int .u64 (OW D 3 : Int)], .bool qq]) ∧ Below wa.heap.size wa w') := sbef_D ac r D qq wa hzok.1.2.2.1 hD hqq
          rw [hD, hqq] at hst
          have HST : Hid (bfN r ((Z1.map ZT.cont).take (k + 1)) = bfN r ((Z1.map ZT.cont).take k) ++ (if qq = true then [(D, bfL r aL)] else [])) := hst
          have HZA : Hid (IRK wo aq aL ∧ aL.length ≤ 128 ∧ (∀ x ∈ aL, good x = true) ∧ aL.length = na) := ⟨hzok.1.1, hzok.2, hzok.1.2.2.2, hna⟩
          have HZK : Hid (Zk.map ZT.cont = bfN r ((Z1.map ZT.cont).take k) ∧ Zk.length ≤ k ∧ wo.ownsRow w2.heap.size 62 10 u6 Zk.length (tes Zk) ∧ (∀ z ∈ Zk, ZOK wo z) ∧ Below w2.heap.size w2 wo) := ⟨e1, e2, e3, e4, hB⟩
          have HAL2 : Hid (Below wo.heap.size wo wa ∧ wa.heap[wo.heap.size]? = some (.cells #[.int .i64 (ac.length : Int), .int .u64 (FW ac 0 : Int), .int .u64 (FW ac 1 : Int), .int .u64 (FW ac 2 : Int), .int .u64 (FW ac 3 : Int), .int .u64 (OW ac 0 : Int), .int .u64 (OW ac 1 : Int), .int .u64 (OW ac 2 : Int), .int .u64 (OW ac 3 : Int), .slice aq na ak] 62 (0, 0))) := ⟨hal, hgt⟩
          clear e1 e2 e3 e4 hZ hza hzok hst hD hqq iz gz hgt hal hBa hB hna
          go_wp2_with fail
          refine HBF.out.mono ?_
          rintro e W1 ⟨rfl, hb1⟩
          clear hcT hcR hwa q0 q1 q2 q3 q4 q5 q6 q7 q8 q9 HBF
          cases qq with
          | false =>
            have HX : Hid (Below w2.heap.size w2 (W1.alloc (.cells #[.int .i64 (D.length : Int), .int .u64 (FW D 0 : Int), .int .u64 (FW D 1 : Int), .int .u64 (FW D 2 : Int), .int .u64 (FW D 3 : Int), .int .u64 (OW D 0 : Int), .int .u64 (OW D 1 : Int), .int .u64 (OW D 2 : Int), .int .u64 (OW D 3 : Int)] 34 (0, 0))) ∧ ∃ Zk : List ZT, Zk.map ZT.cont = bfN r ((Z1.map ZT.cont).take (k + 1)) ∧ Zk.length ≤ (k + 1) ∧ (W1.alloc (.cells #[.int .i64 (D.length : Int), .int .u64 (FW D 0 : Int), .int .u64 (FW D 1 : Int), .int .u64 (FW D 2 : Int), .int .u64 (FW D 3 : Int), .int .u64 (OW D 0 : Int), .int .u64 (OW D 1 : Int), .int .u64 (OW D 2 : Int), .int .u64 (OW D 3 : Int)] 34 (0, 0))).ownsRow w2.heap.size 62 10 u6 Zk.length (tes Zk) ∧ ∀ z ∈ Zk, ZOK (W1.alloc (.cells #[.int .i64 (D.length : Int), .int .u64 (FW D 0 : Int), .int .u64 (FW D 1 : Int), .int .u64 (FW D 2 : Int), .int .u64 (FW D 3 : Int), .int .u64 (OW D 0 : Int), .int .u64 (OW D 1 : Int), .int .u64 (OW D 2 : Int), .int .u64 (OW D 3 : Int)] 34 (0, 0))) z) := by
              have hBo : Below wo.heap.size wo (W1.alloc (.cells #[.int .i64 (D.length : Int), .int .u64 (FW D 0 : Int), .int .u64 (FW D 1 : Int), .int .u64 (FW D 2 : Int), .int .u64 (FW D 3 : Int), .int .u64 (OW D 0 : Int), .int .u64 (OW D 1 : Int), .int .u64 (OW D 2 : Int), .int .u64 (OW D 3 : Int)] 34 (0, 0))) := belA (bel0 HAL2.out.1 hb1) _
              refine ⟨bel0 HZK.out.2.2.2.2 hBo, Zk, ?_, by have := HZK.out.2.1; omega, own_belQ HZK.out.2.2.1 hBo, fun z hz => (HZK.out.2.2.2.1 z hz).later (KC_below hBo)⟩
              rw [HST.out, if_neg (by simp), List.append_nil]
              exact HZK.out.1
            clear hb1
            go_wp2_with fail
            go_roundw
            case rel => exact ⟨k + 1, by go_num, by omega, HX⟩
            case measure => simp [intOf]; omega
          | true =>
            obtain ⟨W9, hW9⟩ : ∃ W9, W1.alloc (.cells #[.int .i64 (D.length : Int), .int .u64 (FW D 0 : Int), .int .u64 (FW D 1 : Int), .int .u64 (FW D 2 : Int), .int .u64 (FW D 3 : Int), .int .u64 (OW D 0 : Int), .int .u64 (OW D 1 : Int), .int .u64 (OW D 2 : Int), .int .u64 (OW D 3 : Int)] 34 (0, 0)) = W9 := ⟨_, rfl⟩
            have hB9 : Below wo.heap.size wo W9 := by rw [← hW9]; exact belA (bel0 HAL2.out.1 hb1) _
            have g9' : W9.heap[W1.heap.size]? = some (.cells #[.int .i64 (D.length : Int), .int .u64 (FW D 0 : Int), .int .u64 (FW D 1 : Int), .int .u64 (FW D 2 : Int), .int .u64 (FW D 3 : Int), .int .u64 (OW D 0 : Int), .int .u64 (OW D 1 : Int), .int .u64 (OW D 2 : Int), .int .u64 (OW D 3 : Int)] 34 (0, 0)) := by rw [← hW9]; exact alloc_get _ _
            have hB1a : Below wa.heap.size wa W9 := by rw [← hW9]; exact belA hb1 _
            have HH9 : Hid (∀ W, Below W9.heap.size W9 W → W.heap[w.heap.size + 1]? = some (.cells #[.int .i64 (r.length : Int), .int .u64 (FW r 0 : Int), .int .u64 (FW r 1 : Int), .int .u64 (FW r 2 : Int), .int .u64 (FW r 3 : Int), .int .u64 (OW r 0 : Int), .int .u64 (OW r 1 : Int), .int .u64 (OW r 2 : Int), .int .u64 (OW r 3 : Int)] 34 (0, 0)) ∧ W.heap[wo.heap.size]? = some (.cells #[.int .i64 (ac.length : Int), .int .u64 (FW ac 0 : Int), .int .u64 (FW ac 1 : Int), .int .u64 (FW ac 2 : Int), .int .u64 (FW ac 3 : Int), .int .u64 (OW ac 0 : Int), .int .u64 (OW ac 1 : Int), .int .u64 (OW ac 2 : Int), .int .u64 (OW ac 3 : Int), .slice aq na ak] 62 (0, 0)) ∧ W.heap[W1.heap.size]? = some (.cells #[.int .i64 (D.length : Int), .int .u64 (FW D 0 : Int), .int .u64 (FW D 1 : Int), .int .u64 (FW D 2 : Int), .int .u64 (FW D 3 : Int), .int .u64 (OW D 0 : Int), .int .u64 (OW D 1 : Int), .int .u64 (OW D 2 : Int), .int .u64 (OW D 3 : Int)] 34 (0, 0))) := fun W hW => ⟨keepblk3 (bel0 HZK.out.2.2.2.2 (bel0 hB9 hW)) HA.out.2.2.2, keepblk3 (bel0 hB1a hW) HAL2.out.2, keepblk3 hW g9'⟩
            have HK9 : Hid (∀ W, Below W9.heap.size W9 W → ((∀ j, W.cell? ⟨w.heap.size + 1, j, none⟩ = (#[.int .i64 (r.length : Int), .int .u64 (FW r 0 : Int), .int .u64 (FW r 1 : Int), .int .u64 (FW r 2 : Int), .int .u64 (FW r 3 : Int), .int .u64 (OW r 0 : Int), .int .u64 (OW r 1 : Int), .int .u64 (OW r 2 : Int), .int .u64 (OW r 3 : Int)] : Array Value)[j]?) ∧ (∀ j, W.cell? ⟨wo.heap.size, j, none⟩ = (#[.int .i64 (ac.length : Int), .int .u64 (FW ac 0 : Int), .int .u64 (FW ac 1 : Int), .int .u64 (FW ac 2 : Int), .int .u64 (FW ac 3 : Int), .int .u64 (OW ac 0 : Int), .int .u64 (OW ac 1 : Int), .int .u64 (OW ac 2 : Int), .int .u64 (OW ac 3 : Int), .slice aq na ak] : Array Value)[j]?) ∧ (∀ j, W.cell? ⟨W1.heap.size, j, none⟩ = (#[.int .i64 (D.length : Int), .int .u64 (FW D 0 : Int), .int .u64 (FW D 1 : Int), .int .u64 (FW D 2 : Int), .int .u64 (FW D 3 : Int), .int .u64 (OW D 0 : Int), .int .u64 (OW D 1 : Int), .int .u64 (OW D 2 : Int), .int .u64 (OW D 3 : Int)] : Array Value)[j]?))) := fun W hW => ⟨(cells_block (HH9.out W hW).1).1, (cells_block (HH9.out W hW).2.1).1, (cells_block (HH9.out W hW).2.2).1⟩
            have hwo1 : wo.heap.size < W1.heap.size := Nat.lt_of_lt_of_le (lt_of_get3 HAL2.out.2) hb1.size
            have HLT : Hid (w.heap.size + 1 < w2.heap.size ∧ wo.heap.size < W1.heap.size) := ⟨by have h7 := HA.out.2.2.1; omega, hwo1⟩
            have HAB : Hid (∀ W, Below W9.heap.size W9 W → Calls Tryz.prog 29 #[.slice aq na ak, .agg #[.int .i64 (r.length : Int), .int .u64 (FW r 0 : Int), .int .u64 (FW r 1 : Int), .int .u64 (FW r 2 : Int), .int .u64 (FW r 3 : Int), .int .u64 (OW r 0 : Int), .int .u64 (OW r 1 : Int), .int .u64 (OW r 2 : Int), .int .u64 (OW r 3 : Int)]] W fun e w' => ∃ v, e = .returned v ∧ w'.ownsRow W.heap.size 34 9 v (bfL r aL).length (ces (bfL r aL)) ∧ Below W.heap.size W w') := fun W hW => allBefore_any r aL na aq ak W HZA.out.2.2.2 (by have h1 := HZA.out.2.1; have h2 := HZA.out.2.2.2; omega) HZA.out.2.2.1 (HZA.out.1.irc.later (bel0 hB9 hW))
            have hkA := HK9.out W9 (Below.refl _ _)
            have hkAd : ((∀ j, W9.drew.cell? ⟨w.heap.size + 1, j, none⟩ = (#[.int .i64 (r.length : Int), .int .u64 (FW r 0 : Int), .int .u64 (FW r 1 : Int), .int .u64 (FW r 2 : Int), .int .u64 (FW r 3 : Int), .int .u64 (OW r 0 : Int), .int .u64 (OW r 1 : Int), .int .u64 (OW r 2 : Int), .int .u64 (OW r 3 : Int)] : Array Value)[j]?) ∧ (∀ j, W9.drew.cell? ⟨wo.heap.size, j, none⟩ = (#[.int .i64 (ac.length : Int), .int .u64 (FW ac 0 : Int), .int .u64 (FW ac 1 : Int), .int .u64 (FW ac 2 : Int), .int .u64 (FW ac 3 : Int), .int .u64 (OW ac 0 : Int), .int .u64 (OW ac 1 : Int), .int .u64 (OW ac 2 : Int), .int .u64 (OW ac 3 : Int), .slice aq na ak] : Array Value)[j]?) ∧ (∀ j, W9.drew.cell? ⟨W1.heap.size, j, none⟩ = (#[.int .i64 (D.length : Int), .int .u64 (FW D 0 : Int), .int .u64 (FW D 1 : Int), .int .u64 (FW D 2 : Int), .int .u64 (FW D 3 : Int), .int .u64 (OW D 0 : Int), .int .u64 (OW D 1 : Int), .int .u64 (OW D 2 : Int), .int .u64 (OW D 3 : Int)] : Array Value)[j]?)) := hkA
            obtain ⟨hkx, hky, hkz⟩ := hkA
            have hkA : ((∀ j, W9.cell? ⟨w.heap.size + 1, j, none⟩ = (#[.int .i64 (r.length : Int), .int .u64 (FW r 0 : Int), .int .u64 (FW r 1 : Int), .int .u64 (FW r 2 : Int), .int .u64 (FW r 3 : Int), .int .u64 (OW r 0 : Int), .int .u64 (OW r 1 : Int), .int .u64 (OW r 2 : Int), .int .u64 (OW r 3 : Int)] : Array Value)[j]?) ∧ (∀ j, W9.cell? ⟨wo.heap.size, j, none⟩ = (#[.int .i64 (ac.length : Int), .int .u64 (FW ac 0 : Int), .int .u64 (FW ac 1 : Int), .int .u64 (FW ac 2 : Int), .int .u64 (FW ac 3 : Int), .int .u64 (OW ac 0 : Int), .int .u64 (OW ac 1 : Int), .int .u64 (OW ac 2 : Int), .int .u64 (OW ac 3 : Int), .slice aq na ak] : Array Value)[j]?) ∧ (∀ j, W9.cell? ⟨W1.heap.size, j, none⟩ = (#[.int .i64 (D.length : Int), .int .u64 (FW D 0 : Int), .int .u64 (FW D 1 : Int), .int .u64 (FW D 2 : Int), .int .u64 (FW D 3 : Int), .int .u64 (OW D 0 : Int), .int .u64 (OW D 1 : Int), .int .u64 (OW D 2 : Int), .int .u64 (OW D 3 : Int)] : Array Value)[j]?)) := ⟨hkx, hky, hkz⟩
            have hzl := HZK.out.2.1
            obtain ⟨nv, hnv⟩ : ∃ n, (bfL r aL).length = n := ⟨_, rfl⟩
            have HNV : Hid ((bfL r aL).length = nv ∧ nv ≤ 128) := ⟨hnv, by have h1 := bfL_len r aL; have h2 := HZA.out.2.1; omega⟩
            obtain ⟨p6, c6, rfl⟩ := shapeQ1 HZK.out.2.2.1
            have HB9 : Hid (Below wo.heap.size wo W9) := hB9
            rw [hnv] at HAB
            obtain ⟨nz, hnz⟩ : ∃ n, Zk.length = n := ⟨_, rfl⟩
            have HNZ : Hid (Zk.length = nz) := hnz
            rw [hnz] at hzl ⊢
            have HOZ : Hid (∀ W, Below W9.heap.size W9 W → W.ownsRow w2.heap.size 62 10 (.slice p6 nz c6) nz (tes Zk)) := fun W hW => by
              have h := own_belQ HZK.out.2.2.1 (bel0 hB9 hW)
              rw [hnz] at h
              exact h
            have HOB : Hid (∀ b, (Value.slice p6 nz c6).ownBlock = some b → w2.heap.size ≤ b ∧ b < wo.heap.size) := fun b e => by
              have h := HZK.out.2.2.1
              rw [hnz] at h
              exact ⟨(h.lt b e).1, (h.lt b e).2⟩
            have HKX : Hid (∀ W X, Below W9.heap.size W9 W → W.grownBy X (Value.slice p6 nz c6).ownBlock → ((∀ j, X.cell? ⟨w.heap.size + 1, j, none⟩ = (#[.int .i64 (r.length : Int), .int .u64 (FW r 0 : Int), .int .u64 (FW r 1 : Int), .int .u64 (FW r 2 : Int), .int .u64 (FW r 3 : Int), .int .u64 (OW r 0 : Int), .int .u64 (OW r 1 : Int), .int .u64 (OW r 2 : Int), .int .u64 (OW r 3 : Int)] : Array Value)[j]?) ∧ (∀ j, X.cell? ⟨wo.heap.size, j, none⟩ = (#[.int .i64 (ac.length : Int), .int .u64 (FW ac 0 : Int), .int .u64 (FW ac 1 : Int), .int .u64 (FW ac 2 : Int), .int .u64 (FW ac 3 : Int), .int .u64 (OW ac 0 : Int), .int .u64 (OW ac 1 : Int), .int .u64 (OW ac 2 : Int), .int .u64 (OW ac 3 : Int), .slice aq na ak] : Array Value)[j]?) ∧ (∀ j, X.cell? ⟨W1.heap.size, j, none⟩ = (#[.int .i64 (D.length : Int), .int .u64 (FW D 0 : Int), .int .u64 (FW D 1 : Int), .int .u64 (FW D 2 : Int), .int .u64 (FW D 3 : Int), .int .u64 (OW D 0 : Int), .int .u64 (OW D 1 : Int), .int .u64 (OW D 2 : Int), .int .u64 (OW D 3 : Int)] : Array Value)[j]?))) := fun W X hW hX => by
              obtain ⟨x1, x2, x3⟩ := HH9.out W hW
              obtain ⟨l1, l2⟩ := HLT.out
              refine ⟨(cells_block ((hX.block _ (lt_of_get3 x1) (fun e => ?_)).trans x1)).1, (cells_block ((hX.block _ (lt_of_get3 x2) (fun e => ?_)).trans x2)).1, (cells_block ((hX.block _ (lt_of_get3 x3) (fun e => ?_)).trans x3)).1⟩
              · have := (HOB.out _ e.symm).1; omega
              · have := (HOB.out _ e.symm).2; omega
              · have := (HOB.out _ e.symm).2; omega
            have hsz9 : w2.heap.size ≤ W9.heap.size := (bel0 HZK.out.2.2.2.2 hB9).size
            clear g9' hB1a hB9 hnv hnz hb1 hwo1
            go_upto_region 11 with fail
            clear hW9 hkx hky hkz
            go_region_held3 (fun W => ((∀ j, W.cell? ⟨w.heap.size + 1, j, none⟩ = (#[.int .i64 (r.length : Int), .int .u64 (FW r 0 : Int), .int .u64 (FW r 1 : Int), .int .u64 (FW r 2 : Int), .int .u64 (FW r 3 : Int), .int .u64 (OW r 0 : Int), .int .u64 (OW r 1 : Int), .int .u64 (OW r 2 : Int), .int .u64 (OW r 3 : Int)] : Array Value)[j]?) ∧ (∀ j, W.cell? ⟨wo.heap.size, j, none⟩ = (#[.int .i64 (ac.length : Int), .int .u64 (FW ac 0 : Int), .int .u64 (FW ac 1 : Int), .int .u64 (FW ac 2 : Int), .int .u64 (FW ac 3 : Int), .int .u64 (OW ac 0 : Int), .int .u64 (OW ac 1 : Int), .int .u64 (OW ac 2 : Int), .int .u64 (OW ac 3 : Int), .slice aq na ak] : Array Value)[j]?) ∧ (∀ j, W.cell? ⟨W1.heap.size, j, none⟩ = (#[.int .i64 (D.length : Int), .int .u64 (FW D 0 : Int), .int .u64 (FW D 1 : Int), .int .u64 (FW D 2 : Int), .int .u64 (FW D 3 : Int), .int .u64 (OW D 0 : Int), .int .u64 (OW D 1 : Int), .int .u64 (OW D 2 : Int), .int .u64 (OW D 3 : Int)] : Array Value)[j]?))) (first | with_reducible exact hkA | with_reducible exact hkAd | with_reducible exact hkB | with_reducible exact hkC | with_reducible exact hkD | fail) (first | (have chk := hb5'; refine step_append_lies _ (by rfl) _ _ _ (by rfl) w2.heap.size 62 i1 _ 10 96 Tryz.underlying24 hi1 hy0 hy1 hy2 rfl (by decide) (.slice p6 nz c6) nz (tes Zk) (by rfl) (HOZ.out _ (belA hb5' _)) ⟨_, 0, none⟩ 1 1 ([.int .i64 (D.length : Int), .int .u64 (FW D 0 : Int), .int .u64 (FW D 1 : Int), .int .u64 (FW D 2 : Int), .int .u64 (FW D 3 : Int), .int .u64 (OW D 0 : Int), .int .u64 (OW D 1 : Int), .int .u64 (OW D 2 : Int), .int .u64 (OW D 3 : Int), .slice pv nv cv]) (by rfl) (by rfl) (World.news_of_block (cs := #[.int .i64 (D.length : Int), .int .u64 (FW D 0 : Int), .int .u64 (FW D 1 : Int), .int .u64 (FW D 2 : Int), .int .u64 (FW D 3 : Int), .int .u64 (OW D 0 : Int), .int .u64 (OW D 1 : Int), .int .u64 (OW D 2 : Int), .int .u64 (OW D 3 : Int), .slice pv nv cv]) (t := 62) (fr := (0, 0)) (alloc_get _ _)) (by simp [Value.oneCell']) (by omega) (by unfold maxLen; omega) (by omega) (by have h5 := hb5'.size; simp; omega) _ rfl ?_; intro g7 c7 w7 o7 gr7 _ _; have hkD : ((∀ j, w7.cell? ⟨w.heap.size + 1, j, none⟩ = (#[.int .i64 (r.length : Int), .int .u64 (FW r 0 : Int), .int .u64 (FW r 1 : Int), .int .u64 (FW r 2 : Int), .int .u64 (FW r 3 : Int), .int .u64 (OW r 0 : Int), .int .u64 (OW r 1 : Int), .int .u64 (OW r 2 : Int), .int .u64 (OW r 3 : Int)] : Array Value)[j]?) ∧ (∀ j, w7.cell? ⟨wo.heap.size, j, none⟩ = (#[.int .i64 (ac.length : Int), .int .u64 (FW ac 0 : Int), .int .u64 (FW ac 1 : Int), .int .u64 (FW ac 2 : Int), .int .u64 (FW ac 3 : Int), .int .u64 (OW ac 0 : Int), .int .u64 (OW ac 1 : Int), .int .u64 (OW ac 2 : Int), .int .u64 (OW ac 3 : Int), .slice aq na ak] : Array Value)[j]?) ∧ (∀ j, w7.cell? ⟨W1.heap.size, j, none⟩ = (#[.int .i64 (D.length : Int), .int .u64 (FW D 0 : Int), .int .u64 (FW D 1 : Int), .int .u64 (FW D 2 : Int), .int .u64 (FW D 3 : Int), .int .u64 (OW D 0 : Int), .int .u64 (OW D 1 : Int), .int .u64 (OW D 2 : Int), .int .u64 (OW D 3 : Int)] : Array Value)[j]?)) := HKX.out _ w7 (belA hb5' _) gr7) | (go_at_call 29; refine (HAB.out _ (by first | exact Below.refl _ _ | exact (Below.refl _ _).drew)).mono ?_; rintro e w5 ⟨v5, rfl, o5, hb5⟩; obtain ⟨pv, cv, rfl⟩ := shapeQ1 o5; have hb5' : Below W9.heap.size W9 w5 := (by first | exact hb5 | exact und hb5); have hkB := HK9.out w5 hb5'; have hkC := HK9.out _ (belA hb5' (.cells #[.int .i64 (D.length : Int), .int .u64 (FW D 0 : Int), .int .u64 (FW D 1 : Int), .int .u64 (FW D 2 : Int), .int .u64 (FW D 3 : Int), .int .u64 (OW D 0 : Int), .int .u64 (OW D 1 : Int), .int .u64 (OW D 2 : Int), .int .u64 (OW D 3 : Int), .slice pv nv cv] 62 (0, 0)))))
            have HX : Hid (Below w2.heap.size w2 w7 ∧ ∃ Zk : List ZT, Zk.map ZT.cont = bfN r ((Z1.map ZT.cont).take (k + 1)) ∧ Zk.length ≤ (k + 1) ∧ w7.ownsRow w2.heap.size 62 10 (Value.slice (some ⟨g7, 0, none⟩) (nz + 1) c7) Zk.length (tes Zk) ∧ ∀ z ∈ Zk, ZOK w7 z) := by
              have oX := HOZ.out (w5.alloc (.cells #[.int .i64 (D.length : Int), .int .u64 (FW D 0 : Int), .int .u64 (FW D 1 : Int), .int .u64 (FW D 2 : Int), .int .u64 (FW D 3 : Int), .int .u64 (OW D 0 : Int), .int .u64 (OW D 1 : Int), .int .u64 (OW D 2 : Int), .int .u64 (OW D 3 : Int), .slice pv nv cv] 62 (0, 0))) (belA hb5' _)
              have hk5 : KC w5 w7 := (KC_below (belA (Below.refl _ _) _)).trans (KC_own oX gr7)
              have hko : KC wo w7 := (KC_below (bel0 HB9.out hb5')).trans hk5
              have hBw : Below w2.heap.size w2 (w5.alloc (.cells #[.int .i64 (D.length : Int), .int .u64 (FW D 0 : Int), .int .u64 (FW D 1 : Int), .int .u64 (FW D 2 : Int), .int .u64 (FW D 3 : Int), .int .u64 (OW D 0 : Int), .int .u64 (OW D 1 : Int), .int .u64 (OW D 2 : Int), .int .u64 (OW D 3 : Int), .slice pv nv cv] 62 (0, 0))) := belA (bel0 HZK.out.2.2.2.2 (bel0 HB9.out hb5')) _
              refine ⟨hBw.grown gr7 hBw.size (fun b e => (HOB.out b e).1), Zk ++ [⟨D, pv, cv, bfL r aL⟩], ?_, ?_, ?_, ?_⟩
              · rw [HST.out, if_pos (by first | rfl | trivial), List.map_append, HZK.out.1]
                rfl
              · rw [List.length_append, HNZ.out]
                simp
                omega
              · rw [tes_snoc, List.length_append, HNZ.out]
                show w7.ownsRow _ _ _ _ _ (tes Zk ++ [.int .i64 (D.length : Int), .int .u64 (FW D 0 : Int), .int .u64 (FW D 1 : Int), .int .u64 (FW D 2 : Int), .int .u64 (FW D 3 : Int), .int .u64 (OW D 0 : Int), .int .u64 (OW D 1 : Int), .int .u64 (OW D 2 : Int), .int .u64 (OW D 3 : Int), .slice pv (bfL r aL).length cv])
                rw [HNV.out.1]
                exact o7
              · intro y hy
                rcases List.mem_append.1 hy with hy | hy
                · exact (HZK.out.2.2.2.1 y hy).later hko
                · obtain rfl := List.mem_singleton.1 hy
                  exact ⟨(IRK_own o5 HNV.out.1).later hk5, by show (bfL r aL).length ≤ 1000000; have := HNV.out; omega, gD.out, bfL_good GR.out HZA.out.2.2.1⟩
            clear hkA hkAd hkB hkC hkD o7 gr7 o5 hb5 hb5'
            go_wp2_with fail
            go_roundw
            case rel => exact ⟨k + 1, by go_num, by omega, HX⟩
            case measure => simp [intOf]; omega
        · have j1 : ¬ (k : Int) < (n1 : Int) := by omega
          obtain ⟨p6, c6, rfl⟩ := shapeQ1 e3
          obtain ⟨nz, hnz⟩ : ∃ n, Zk.length = n := ⟨_, rfl⟩
          rw [hnz] at e3 ⊢
          obtain ⟨hka, hkb⟩ := HK.out wr hB
          obtain ⟨k3, hB1⟩ := HRS.out wr hB
          obtain ⟨hc3, hf3⟩ := cells_block k3
          have HP : Hid ((((wr.setCell ⟨w.heap.size + 1 + 1, 0, none⟩ (.int .i64 b)).setCell ⟨w.heap.size + 1 + 1, 1, none⟩ (.slice p6 nz c6)).setCell ⟨w.heap.size + 1 + 1, 2, none⟩ (.bool true)).heap[w.heap.size + 1 + 1]? = some (.cells #[.int .i64 b, .slice p6 nz c6, .bool true] 26 (0, 0)) ∧ LSP (((wr.setCell ⟨w.heap.size + 1 + 1, 0, none⟩ (.int .i64 b)).setCell ⟨w.heap.size + 1 + 1, 1, none⟩ (.slice p6 nz c6)).setCell ⟨w.heap.size + 1 + 1, 2, none⟩ (.bool true)) (.slice p6 nz c6) (bfN r (Z1.map ZT.cont)) ∧ Below w.heap.size w (((wr.setCell ⟨w.heap.size + 1 + 1, 0, none⟩ (.int .i64 b)).setCell ⟨w.heap.size + 1 + 1, 1, none⟩ (.slice p6 nz c6)).setCell ⟨w.heap.size + 1 + 1, 2, none⟩ (.bool true))) := by
            refine ⟨put3_get _ _ _ k3, ⟨Zk, ?_, ?_, ?_⟩, ((hB1.setCell (by simp; omega) _).setCell (by simp; omega) _).setCell (by simp; omega) _⟩
            · rw [e1, List.take_of_length_le (by rw [List.length_map, HN.out.1]; omega)]
            · rw [hnz]
              exact own_base (e3.kept (gr3 _ _ _ _ _) (.inr (own_notS e3 k3 (by decide)))) (Nat.zero_le _)
            · exact fun z hz => (e4 z hz).later (KC_grown (gr3 _ _ _ _ _) k3 (by decide))
          clear k3 hB1 e1 e2 e3 e4 hZ hB hnz
          go_wp2_with fail
          refine bodyPost_ret (v := .tuple #[.agg #[.int .i64 b, .slice p6 nz c6, .bool true], .int .i64 0]) (res_sp2 _ _ (w.heap.size + 1 + 1) _ _ _ _ Tryz.results8 rfl rfl HP.out.1) rfl ?_
          exact ⟨HP.out.2.2, .inr (.inr ⟨E0.out, _, rfl, HP.out.2.1⟩)⟩
end Go.Proofs.YtekjbpemaohipaaGreatDoor
