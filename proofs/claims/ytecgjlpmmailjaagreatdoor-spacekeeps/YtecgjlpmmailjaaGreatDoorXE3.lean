import Derived.Test.YtecgjlpmmailjaaGreatDoorXE2
namespace Go.Proofs.YtecgjlpmmailjaaGreatDoor
open Go.RowKit
set_option maxRecDepth 100000 in
set_option maxHeartbeats 16000000 in
theorem still_any (p q : Option Addr) (c c' m n : Nat) (sd : List UInt8) (W : World) (h1 : RDC W (.slice p n c) (mks m n)) (h2 : RDC W (.slice q (n + 96) c') (mks m n ++ mkG m 96)) (hm : m ≤ 1000) (hn2 : n ≤ 4096) :
    Calls Tryz.prog 11 #[.agg #[.slice p n c, .slice q (n + 96) c', .int .i64 (m : Int), .string ⟨sd.toArray⟩]] W fun e w' => e = .returned (.bool true) ∧ Below W.heap.size W w' := by
  obtain ⟨b, hb⟩ : ∃ b, W.heap.size = b := ⟨_, rfl⟩
  obtain ⟨W1, hW1⟩ : ∃ W1, W.alloc (.cells #[.slice p n c, .slice q (n + 96) c', .int .i64 (m : Int), .string ⟨sd.toArray⟩] 39 (0, 0)) = W1 := ⟨_, rfl⟩
  have kB : W1.heap[b]? = some (.cells #[.slice p n c, .slice q (n + 96) c', .int .i64 (m : Int), .string ⟨sd.toArray⟩] 39 (0, 0)) := by rw [← hW1, ← hb]; exact alloc_get _ _
  have hB1 : Below W.heap.size W W1 := by rw [← hW1]; exact belA (Below.refl _ _) _
  have HR : Hid (RDC W1 (.slice p n c) (mks m n) ∧ RDC W1 (.slice q (n + 96) c') (mks m n ++ mkG m 96) ∧ Below W.heap.size W W1 ∧ W1.heap[b]? = some (.cells #[.slice p n c, .slice q (n + 96) c', .int .i64 (m : Int), .string ⟨sd.toArray⟩] 39 (0, 0))) := ⟨h1.below hB1, h2.below hB1, hB1, kB⟩
  have hc0 := (cells_block kB).1
  obtain ⟨nn, hnn⟩ : ∃ nn : Nat, n + 96 = nn := ⟨_, rfl⟩
  have e1 : (n : Int) + 96 = (nn : Int) := by omega
  have e2 : IntKind.i64.wrap (nn : Int) = (nn : Int) := by rw [IntKind.wrap_i64]; omega
  have e3 : (((n + 96 : Nat) : Int) != (nn : Int)) = false := by rw [hnn]; simp
  have e4 : (((n : Int) + 96) != (nn : Int)) = false := by rw [e1]; simp
  clear h1 h2 kB hB1 hnn
  go_enter Tryz.func11, Tryz.ntmps11
  go_wp2_with fail
  clear hc0 hW1 e1 e2 e3 e4
  go_loopw [4] (fun v4 wr => ∃ (k : Nat), v4 = .int .i64 (k : Int) ∧ k ≤ n ∧ Hid (Below W1.heap.size W1 wr)) (fun v4 _ => n - (intOf v4).toNat)
  case atStart => exact ⟨0, rfl, Nat.zero_le _, Below.refl _ _⟩
  case round =>
    obtain ⟨k, rfl, hk, HB⟩ := hrel
    by_cases hlt : k < n
    · have j1 : (k : Int) < (n : Int) := by omega
      have j0 : (0 : Int) ≤ (k : Int) := by omega
      have j2 : (k : Int) < ((n + 96 : Nat) : Int) := by omega
      have j3 : (k : Int) < (n : Int) + 96 := by omega
      obtain ⟨M, hM⟩ : ∃ M, mkC m k = M := ⟨_, rfl⟩
      have gM : good M = true := by rw [← hM]; exact mkC_good _ _
      have HMK : Hid (∀ U, Calls Tryz.prog 24 #[.int .i64 (m : Int), .int .i64 (k : Int)] U fun e w' => e = .returned (.agg #[.int .i64 (M.length : Int), .int .u64 (FW M 0 : Int), .int .u64 (FW M 1 : Int), .int .u64 (FW M 2 : Int), .int .u64 (FW M 3 : Int), .int .u64 (OW M 0 : Int), .int .u64 (OW M 1 : Int), .int .u64 (OW M 2 : Int), .int .u64 (OW M 3 : Int)]) ∧ Below U.heap.size U w') := fun U => by
        have := mark_any m k U hm (by omega)
        rw [hM] at this
        exact this
      have eP : ∀ W, (Op.equalIn 10000 58 (.agg #[.int .i64 (M.length : Int), .int .u64 (FW M 0 : Int), .int .u64 (FW M 1 : Int), .int .u64 (FW M 2 : Int), .int .u64 (FW M 3 : Int), .int .u64 (OW M 0 : Int), .int .u64 (OW M 1 : Int), .int .u64 (OW M 2 : Int), .int .u64 (OW M 3 : Int)]) (.agg #[.int .i64 (M.length : Int), .int .u64 (FW M 0 : Int), .int .u64 (FW M 1 : Int), .int .u64 (FW M 2 : Int), .int .u64 (FW M 3 : Int), .int .u64 (OW M 0 : Int), .int .u64 (OW M 1 : Int), .int .u64 (OW M 2 : Int), .int .u64 (OW M 3 : Int)])).run Tryz.prog W = .ok true W := fun W => by
        have := eql_cube M M gM gM W
        rw [this]; simp
      obtain ⟨g1, rfl, -⟩ : ∃ g1, p = some ⟨g1, 0, none⟩ ∧ True := by
        obtain ⟨p', c1, e, hc⟩ := HR.out.1
        injection e with e _ _
        obtain ⟨g, eg, -⟩ := hc k (mkC m k) (mks_at m hlt)
        exact ⟨g, by rw [e]; exact eg, trivial⟩
      obtain ⟨g2, rfl, -⟩ : ∃ g2, q = some ⟨g2, 0, none⟩ ∧ True := by
        obtain ⟨p', c1, e, hc⟩ := HR.out.2.1
        injection e with e _ _
        obtain ⟨g, eg, -⟩ := hc k (mkC m k) (by rw [List.getElem?_append_left (by rw [mks_len]; exact hlt)]; exact mks_at m hlt)
        exact ⟨g, by rw [e]; exact eg, trivial⟩
      have HKQ : Hid (∀ U, Below wr.heap.size wr U → (∀ j, U.cell? ⟨b, j, none⟩ = (#[.slice (some ⟨g1, 0, none⟩) n c, .slice (some ⟨g2, 0, none⟩) (n + 96) c', .int .i64 (m : Int), .string ⟨sd.toArray⟩] : Array Value)[j]?) ∧ (U.cell? ⟨g1, k * 9, none⟩ = some (.int .i64 (M.length : Int)) ∧ U.cell? ⟨g1, k * 9 + 1, none⟩ = some (.int .u64 (FW M 0 : Int)) ∧ U.cell? ⟨g1, k * 9 + 2, none⟩ = some (.int .u64 (FW M 1 : Int)) ∧ U.cell? ⟨g1, k * 9 + 3, none⟩ = some (.int .u64 (FW M 2 : Int)) ∧ U.cell? ⟨g1, k * 9 + 4, none⟩ = some (.int .u64 (FW M 3 : Int)) ∧ U.cell? ⟨g1, k * 9 + 5, none⟩ = some (.int .u64 (OW M 0 : Int)) ∧ U.cell? ⟨g1, k * 9 + 6, none⟩ = some (.int .u64 (OW M 1 : Int)) ∧ U.cell? ⟨g1, k * 9 + 7, none⟩ = some (.int .u64 (OW M 2 : Int)) ∧ U.cell? ⟨g1, k * 9 + 8, none⟩ = some (.int .u64 (OW M 3 : Int))) ∧ (U.cell? ⟨g2, k * 9, none⟩ = some (.int .i64 (M.length : Int)) ∧ U.cell? ⟨g2, k * 9 + 1, none⟩ = some (.int .u64 (FW M 0 : Int)) ∧ U.cell? ⟨g2, k * 9 + 2, none⟩ = some (.int .u64 (FW M 1 : Int)) ∧ U.cell? ⟨g2, k * 9 + 3, none⟩ = some (.int .u64 (FW M 2 : Int)) ∧ U.cell? ⟨g2, k * 9 + 4, none⟩ = some (.int .u64 (FW M 3 : Int)) ∧ U.cell? ⟨g2, k * 9 + 5, none⟩ = some (.int .u64 (OW M 0 : Int)) ∧ U.cell? ⟨g2, k * 9 + 6, none⟩ = some (.int .u64 (OW M 1 : Int)) ∧ U.cell? ⟨g2, k * 9 + 7, none⟩ = some (.int .u64 (OW M 2 : Int)) ∧ U.cell? ⟨g2, k * 9 + 8, none⟩ = some (.int .u64 (OW M 3 : Int)))) := fun U hU => by
        have hb1 := bel0 HB.out hU
        refine ⟨(cells_block (keepblk3 hb1 HR.out.2.2.2)).1, ?_, ?_⟩
        · obtain ⟨p', c1, e, hc⟩ := HR.out.1.below hb1
          injection e with e _ _
          obtain ⟨g, eg, h⟩ := hc k (mkC m k) (mks_at m hlt)
          rw [← e] at eg
          injection eg with eg
          injection eg with eg _ _
          subst eg
          rw [hM] at h
          exact h
        · obtain ⟨p', c1, e, hc⟩ := HR.out.2.1.below hb1
          injection e with e _ _
          obtain ⟨g, eg, h⟩ := hc k (mkC m k) (by rw [List.getElem?_append_left (by rw [mks_len]; exact hlt)]; exact mks_at m hlt)
          rw [← e] at eg
          injection eg with eg
          injection eg with eg _ _
          subst eg
          rw [hM] at h
          exact h
      clear hM gM
      go_wp2_with fail
      refine quiet_litL (C := fun U => Below wr.heap.size wr U) (by kernel_rfl) (by kernel_rfl) (show Below _ _ _ from (Below.refl _ _).drew) ?_
      go_big_quiet_want
      refine ⟨.pointer (some ⟨b, 0, none⟩), fun W hW => ?_, ?_⟩
      · go_simp
      go_big_quiet_on
      simp only [Act.put, List.setIfInBounds_toArray, List.set_cons_zero, List.set_cons_succ]
      go_big_quiet_want
      refine ⟨.slice (some ⟨g1, 0, none⟩) n c, fun W hW => ?_, ?_⟩
      · obtain ⟨s1, ⟨a0, a1, a2, a3, a4, a5, a6, a7, a8⟩, ⟨b0, b1, b2, b3, b4, b5, b6, b7, b8⟩⟩ := HKQ.out W hW
        go_simp
      go_big_quiet_on
      simp only [Act.put, List.setIfInBounds_toArray, List.set_cons_zero, List.set_cons_succ]
      go_big_quiet_want
      go_big_quiet_op
      go_big_quiet_on
      go_big_quiet_want
      refine ⟨.pointer (some ⟨g1, k * 9, none⟩), fun W hW => ?_, ?_⟩
      · go_simp
      go_big_quiet_on
      simp only [Act.put, List.setIfInBounds_toArray, List.set_cons_zero, List.set_cons_succ]
      go_big_quiet_want
      refine ⟨.agg #[.int .i64 (M.length : Int), .int .u64 (FW M 0 : Int), .int .u64 (FW M 1 : Int), .int .u64 (FW M 2 : Int), .int .u64 (FW M 3 : Int), .int .u64 (OW M 0 : Int), .int .u64 (OW M 1 : Int), .int .u64 (OW M 2 : Int), .int .u64 (OW M 3 : Int)], fun W hW => ?_, ?_⟩
      · obtain ⟨s1, ⟨a0, a1, a2, a3, a4, a5, a6, a7, a8⟩, ⟨b0, b1, b2, b3, b4, b5, b6, b7, b8⟩⟩ := HKQ.out W hW
        go_simp
      go_big_quiet_on
      simp only [Act.put, List.setIfInBounds_toArray, List.set_cons_zero, List.set_cons_succ]
      go_big_quiet_want
      refine ⟨.pointer (some ⟨b, 2, none⟩), fun W hW => ?_, ?_⟩
      · go_simp
      go_big_quiet_on
      simp only [Act.put, List.setIfInBounds_toArray, List.set_cons_zero, List.set_cons_succ]
      go_big_quiet_want
      refine ⟨.int .i64 (m : Int), fun W hW => ?_, ?_⟩
      · obtain ⟨s1, ⟨a0, a1, a2, a3, a4, a5, a6, a7, a8⟩, ⟨b0, b1, b2, b3, b4, b5, b6, b7, b8⟩⟩ := HKQ.out W hW
        go_simp
      go_big_quiet_on
      simp only [Act.put, List.setIfInBounds_toArray, List.set_cons_zero, List.set_cons_succ]
      go_big_quiet_want
      go_big_quiet_op
      go_big_quiet_on
      go_big_quiet_want
      refine ⟨.agg #[.int .i64 (M.length : Int), .int .u64 (FW M 0 : Int), .int .u64 (FW M 1 : Int), .int .u64 (FW M 2 : Int), .int .u64 (FW M 3 : Int), .int .u64 (OW M 0 : Int), .int .u64 (OW M 1 : Int), .int .u64 (OW M 2 : Int), .int .u64 (OW M 3 : Int)], fun W hW => ?_, ?_⟩
      · go_simp
        refine (HMK.out W).mono ?_
        rintro e w7 ⟨rfl, hb⟩
        exact ⟨rfl, bel0 hW hb⟩
      go_big_quiet_on
      simp only [Act.put, List.setIfInBounds_toArray, List.set_cons_zero, List.set_cons_succ]
      go_big_quiet_want
      refine ⟨.bool false, fun W hW => ?_, ?_⟩
      · go_simp
      go_big_quiet_on
      simp only [Act.put, List.setIfInBounds_toArray, List.set_cons_zero, List.set_cons_succ]
      go_big_quiet_want
      go_big_quiet_op
      go_big_quiet_on
      go_big_quiet_want
      refine ⟨.pointer (some ⟨b, 1, none⟩), fun W hW => ?_, ?_⟩
      · go_simp
      go_big_quiet_on
      simp only [Act.put, List.setIfInBounds_toArray, List.set_cons_zero, List.set_cons_succ]
      go_big_quiet_want
      refine ⟨.slice (some ⟨g2, 0, none⟩) (n + 96) c', fun W hW => ?_, ?_⟩
      · obtain ⟨s1, ⟨a0, a1, a2, a3, a4, a5, a6, a7, a8⟩, ⟨b0, b1, b2, b3, b4, b5, b6, b7, b8⟩⟩ := HKQ.out W hW
        go_simp
      go_big_quiet_on
      simp only [Act.put, List.setIfInBounds_toArray, List.set_cons_zero, List.set_cons_succ]
      go_big_quiet_want
      go_big_quiet_op
      go_big_quiet_on
      go_big_quiet_want
      refine ⟨.pointer (some ⟨g2, k * 9, none⟩), fun W hW => ?_, ?_⟩
      · go_simp
      go_big_quiet_on
      simp only [Act.put, List.setIfInBounds_toArray, List.set_cons_zero, List.set_cons_succ]
      go_big_quiet_want
      refine ⟨.agg #[.int .i64 (M.length : Int), .int .u64 (FW M 0 : Int), .int .u64 (FW M 1 : Int), .int .u64 (FW M 2 : Int), .int .u64 (FW M 3 : Int), .int .u64 (OW M 0 : Int), .int .u64 (OW M 1 : Int), .int .u64 (OW M 2 : Int), .int .u64 (OW M 3 : Int)], fun W hW => ?_, ?_⟩
      · obtain ⟨s1, ⟨a0, a1, a2, a3, a4, a5, a6, a7, a8⟩, ⟨b0, b1, b2, b3, b4, b5, b6, b7, b8⟩⟩ := HKQ.out W hW
        go_simp
      go_big_quiet_on
      simp only [Act.put, List.setIfInBounds_toArray, List.set_cons_zero, List.set_cons_succ]
      go_big_quiet_want
      refine ⟨.pointer (some ⟨b, 2, none⟩), fun W hW => ?_, ?_⟩
      · go_simp
      go_big_quiet_on
      simp only [Act.put, List.setIfInBounds_toArray, List.set_cons_zero, List.set_cons_succ]
      go_big_quiet_want
      refine ⟨.int .i64 (m : Int), fun W hW => ?_, ?_⟩
      · obtain ⟨s1, ⟨a0, a1, a2, a3, a4, a5, a6, a7, a8⟩, ⟨b0, b1, b2, b3, b4, b5, b6, b7, b8⟩⟩ := HKQ.out W hW
        go_simp
      go_big_quiet_on
      simp only [Act.put, List.setIfInBounds_toArray, List.set_cons_zero, List.set_cons_succ]
      go_big_quiet_want
      go_big_quiet_op
      go_big_quiet_on
      go_big_quiet_want
      refine ⟨.agg #[.int .i64 (M.length : Int), .int .u64 (FW M 0 : Int), .int .u64 (FW M 1 : Int), .int .u64 (FW M 2 : Int), .int .u64 (FW M 3 : Int), .int .u64 (OW M 0 : Int), .int .u64 (OW M 1 : Int), .int .u64 (OW M 2 : Int), .int .u64 (OW M 3 : Int)], fun W hW => ?_, ?_⟩
      · go_simp
        refine (HMK.out W).mono ?_
        rintro e w7 ⟨rfl, hb⟩
        exact ⟨rfl, bel0 hW hb⟩
      go_big_quiet_on
      simp only [Act.put, List.setIfInBounds_toArray, List.set_cons_zero, List.set_cons_succ]
      go_big_quiet_want
      refine ⟨.bool false, fun W hW => ?_, ?_⟩
      · go_simp
      go_big_quiet_on
      simp only [Act.put, List.setIfInBounds_toArray, List.set_cons_zero, List.set_cons_succ]
      go_big_quiet_want
      refine ⟨.bool false, fun W hW => ?_, ?_⟩
      · go_simp
      go_big_quiet_on
      simp only [Act.put, List.setIfInBounds_toArray, List.set_cons_zero, List.set_cons_succ]
      refine wpQuiet_nil ?_
      intro W5 hW5
      have HX : Hid (Below W1.heap.size W1 W5) := bel0 HB.out hW5
      clear hW5 HKQ HMK eP HB
      go_wp2_with fail
      go_roundw
      case rel => exact ⟨k + 1, by go_num, by omega, HX⟩
      case measure => simp [intOf]; omega
    · rename World => wq
      have j1 : ¬ (k : Int) < (n : Int) := by omega
      obtain rfl : k = n := by omega
      go_wp2_with fail
      go_loopw [5] (fun v5 wr => ∃ (i : Nat), v5 = .int .i64 (i : Int) ∧ i ≤ 96 ∧ Hid (Below W1.heap.size W1 wr)) (fun v5 _ => 96 - (intOf v5).toNat)
      case atStart => exact ⟨0, rfl, by omega, HB⟩
      case round =>
        clear HB
        obtain ⟨i, rfl, hi, HB⟩ := hrel
        by_cases hlt : i < 96
        · have j1 : (i : Int) < 96 := by omega
          have j0 : (0 : Int) ≤ (i : Int) := by omega
          obtain ⟨nk, hnk⟩ : ∃ nk : Nat, k + i = nk := ⟨_, rfl⟩
          have e1 : (k : Int) + (i : Int) = (nk : Int) := by omega
          have e2 : IntKind.i64.wrap (nk : Int) = (nk : Int) := by rw [IntKind.wrap_i64]; omega
          have e3 : (0 : Int) ≤ (nk : Int) := by omega
          have e4 : (nk : Int) < ((k + 96 : Nat) : Int) := by omega
          have e4' : (nk : Int) < (k : Int) + 96 := by omega
          obtain ⟨kk, hkk⟩ : ∃ kk : Nat, 131 + i = kk := ⟨_, rfl⟩
          have e5 : (131 : Int) + (i : Int) = (kk : Int) := by omega
          have e6 : IntKind.i64.wrap (kk : Int) = (kk : Int) := by rw [IntKind.wrap_i64]; omega
          obtain ⟨M, hM⟩ : ∃ M, mkC m kk = M := ⟨_, rfl⟩
          have gM : good M = true := by rw [← hM]; exact mkC_good _ _
          have HMK : Hid (∀ U, Calls Tryz.prog 24 #[.int .i64 (m : Int), .int .i64 (kk : Int)] U fun e w' => e = .returned (.agg #[.int .i64 (M.length : Int), .int .u64 (FW M 0 : Int), .int .u64 (FW M 1 : Int), .int .u64 (FW M 2 : Int), .int .u64 (FW M 3 : Int), .int .u64 (OW M 0 : Int), .int .u64 (OW M 1 : Int), .int .u64 (OW M 2 : Int), .int .u64 (OW M 3 : Int)]) ∧ Below U.heap.size U w') := fun U => by
            have := mark_any m kk U hm (by omega)
            rw [hM] at this
            exact this
          have eP : ∀ W, (Op.equalIn 10000 58 (.agg #[.int .i64 (M.length : Int), .int .u64 (FW M 0 : Int), .int .u64 (FW M 1 : Int), .int .u64 (FW M 2 : Int), .int .u64 (FW M 3 : Int), .int .u64 (OW M 0 : Int), .int .u64 (OW M 1 : Int), .int .u64 (OW M 2 : Int), .int .u64 (OW M 3 : Int)]) (.agg #[.int .i64 (M.length : Int), .int .u64 (FW M 0 : Int), .int .u64 (FW M 1 : Int), .int .u64 (FW M 2 : Int), .int .u64 (FW M 3 : Int), .int .u64 (OW M 0 : Int), .int .u64 (OW M 1 : Int), .int .u64 (OW M 2 : Int), .int .u64 (OW M 3 : Int)])).run Tryz.prog W = .ok true W := fun W => by
            have := eql_cube M M gM gM W
            rw [this]; simp
          have hat : (mks m k ++ mkG m 96)[nk]? = some M := by
            rw [← hnk, List.getElem?_append_right (by rw [mks_len]; omega), mks_len, Nat.add_sub_cancel_left, mkG_at m hlt, hkk, hM]
          obtain ⟨g2, rfl, -⟩ : ∃ g2, q = some ⟨g2, 0, none⟩ ∧ True := by
            obtain ⟨p', c1, e, hc⟩ := HR.out.2.1
            injection e with e _ _
            obtain ⟨g, eg, -⟩ := hc nk M hat
            exact ⟨g, by rw [e]; exact eg, trivial⟩
          have HKQ : Hid (∀ U, Below wr.heap.size wr U → (∀ j, U.cell? ⟨b, j, none⟩ = (#[.slice p k c, .slice (some ⟨g2, 0, none⟩) (k + 96) c', .int .i64 (m : Int), .string ⟨sd.toArray⟩] : Array Value)[j]?) ∧ (U.cell? ⟨g2, nk * 9, none⟩ = some (.int .i64 (M.length : Int)) ∧ U.cell? ⟨g2, nk * 9 + 1, none⟩ = some (.int .u64 (FW M 0 : Int)) ∧ U.cell? ⟨g2, nk * 9 + 2, none⟩ = some (.int .u64 (FW M 1 : Int)) ∧ U.cell? ⟨g2, nk * 9 + 3, none⟩ = some (.int .u64 (FW M 2 : Int)) ∧ U.cell? ⟨g2, nk * 9 + 4, none⟩ = some (.int .u64 (FW M 3 : Int)) ∧ U.cell? ⟨g2, nk * 9 + 5, none⟩ = some (.int .u64 (OW M 0 : Int)) ∧ U.cell? ⟨g2, nk * 9 + 6, none⟩ = some (.int .u64 (OW M 1 : Int)) ∧ U.cell? ⟨g2, nk * 9 + 7, none⟩ = some (.int .u64 (OW M 2 : Int)) ∧ U.cell? ⟨g2, nk * 9 + 8, none⟩ = some (.int .u64 (OW M 3 : Int)))) := fun U hU => by
            have hb1 := bel0 HB.out hU
            refine ⟨(cells_block (keepblk3 hb1 HR.out.2.2.2)).1, ?_⟩
            obtain ⟨p', c1, e, hc⟩ := HR.out.2.1.below hb1
            injection e with e _ _
            obtain ⟨g, eg, h⟩ := hc nk M hat
            rw [← e] at eg
            injection eg with eg
            injection eg with eg _ _
            subst eg
            exact h
          clear hM gM hnk hkk hat
          go_wp2_with fail
          refine quiet_litL (C := fun U => Below wr.heap.size wr U) (by kernel_rfl) (by kernel_rfl) (show Below _ _ _ from (Below.refl _ _).drew) ?_
          go_big_quiet_want
          refine ⟨.pointer (some ⟨b, 1, none⟩), fun W hW => ?_, ?_⟩
          · go_simp
          go_big_quiet_on
          simp only [Act.put, List.setIfInBounds_toArray, List.set_cons_zero, List.set_cons_succ]
          go_big_quiet_want
          refine ⟨.slice (some ⟨g2, 0, none⟩) (k + 96) c', fun W hW => ?_, ?_⟩
          · obtain ⟨s1, ⟨a0, a1, a2, a3, a4, a5, a6, a7, a8⟩⟩ := HKQ.out W hW
            go_simp
          go_big_quiet_on
          simp only [Act.put, List.setIfInBounds_toArray, List.set_cons_zero, List.set_cons_succ]
          go_big_quiet_want
          go_big_quiet_op
          go_big_quiet_on
          go_big_quiet_want
          go_big_quiet_op
          go_big_quiet_on
          go_big_quiet_want
          refine ⟨.int .i64 (nk : Int), fun W hW => ?_, ?_⟩
          · go_simp
          go_big_quiet_on
          simp only [Act.put, List.setIfInBounds_toArray, List.set_cons_zero, List.set_cons_succ]
          go_big_quiet_want
          refine ⟨.pointer (some ⟨g2, nk * 9, none⟩), fun W hW => ?_, ?_⟩
          · go_simp
          go_big_quiet_on
          simp only [Act.put, List.setIfInBounds_toArray, List.set_cons_zero, List.set_cons_succ]
          go_big_quiet_want
          refine ⟨.agg #[.int .i64 (M.length : Int), .int .u64 (FW M 0 : Int), .int .u64 (FW M 1 : Int), .int .u64 (FW M 2 : Int), .int .u64 (FW M 3 : Int), .int .u64 (OW M 0 : Int), .int .u64 (OW M 1 : Int), .int .u64 (OW M 2 : Int), .int .u64 (OW M 3 : Int)], fun W hW => ?_, ?_⟩
          · obtain ⟨s1, ⟨a0, a1, a2, a3, a4, a5, a6, a7, a8⟩⟩ := HKQ.out W hW
            go_simp
          go_big_quiet_on
          simp only [Act.put, List.setIfInBounds_toArray, List.set_cons_zero, List.set_cons_succ]
          go_big_quiet_want
          refine ⟨.pointer (some ⟨b, 2, none⟩), fun W hW => ?_, ?_⟩
          · go_simp
          go_big_quiet_on
          simp only [Act.put, List.setIfInBounds_toArray, List.set_cons_zero, List.set_cons_succ]
          go_big_quiet_want
          refine ⟨.int .i64 (m : Int), fun W hW => ?_, ?_⟩
          · obtain ⟨s1, ⟨a0, a1, a2, a3, a4, a5, a6, a7, a8⟩⟩ := HKQ.out W hW
            go_simp
          go_big_quiet_on
          simp only [Act.put, List.setIfInBounds_toArray, List.set_cons_zero, List.set_cons_succ]
          go_big_quiet_want
          go_big_quiet_op
          go_big_quiet_on
          go_big_quiet_want
          refine ⟨.int .i64 (kk : Int), fun W hW => ?_, ?_⟩
          · go_simp
          go_big_quiet_on
          simp only [Act.put, List.setIfInBounds_toArray, List.set_cons_zero, List.set_cons_succ]
          go_big_quiet_want
          refine ⟨.agg #[.int .i64 (M.length : Int), .int .u64 (FW M 0 : Int), .int .u64 (FW M 1 : Int), .int .u64 (FW M 2 : Int), .int .u64 (FW M 3 : Int), .int .u64 (OW M 0 : Int), .int .u64 (OW M 1 : Int), .int .u64 (OW M 2 : Int), .int .u64 (OW M 3 : Int)], fun W hW => ?_, ?_⟩
          · go_simp
            refine (HMK.out W).mono ?_
            rintro e w7 ⟨rfl, hb⟩
            exact ⟨rfl, bel0 hW hb⟩
          go_big_quiet_on
          simp only [Act.put, List.setIfInBounds_toArray, List.set_cons_zero, List.set_cons_succ]
          go_big_quiet_want
          refine ⟨.bool false, fun W hW => ?_, ?_⟩
          · go_simp
          go_big_quiet_on
          simp only [Act.put, List.setIfInBounds_toArray, List.set_cons_zero, List.set_cons_succ]
          refine wpQuiet_nil ?_
          intro W5 hW5
          have HX : Hid (Below W1.heap.size W1 W5) := bel0 HB.out hW5
          clear hW5 HKQ HMK eP HB
          go_wp2_with fail
          go_roundw
          case rel => exact ⟨i + 1, by go_num, by omega, HX⟩
          case measure => simp [intOf]; omega
        · have j1 : ¬ (i : Int) < 96 := by omega
          go_wp2_with fail
          go_ret
          exact ⟨rfl, by rw [← hb]; exact bel0 HR.out.2.2.1 HB.out⟩
end Go.Proofs.YtecgjlpmmailjaaGreatDoor
namespace Go.Proofs.YtecgjlpmmailjaaGreatDoor
open Go.RowKit
/-- one list of the book: where it lies, what it told, as a text -/
structure EN where
  p : Option Addr
  c : Nat
  L : List (List UInt8)
  sd : List UInt8
def EN.v (e : EN) : Value := .slice e.p e.L.length e.c
def disK (x y : Value) : Prop := ∀ b, x.ownBlock = some b → y.ownBlock ≠ some b
theorem disK.off {x y : Value} (h : disK x y) : offK x.ownBlock y := by
  cases hx : x.ownBlock with
  | none => cases hy : y.ownBlock with
    | none => exact .inl hy
    | some b => exact .inr (by rw [hy]; intro e; cases e)
  | some b => exact .inr (h b hx)
theorem offK_none (v : Value) : offK none v := by
  cases h : v.ownBlock with
  | none => exact .inl h
  | some b => exact .inr (by rw [h]; intro e; cases e)
theorem own_neK {W : World} {B1 B2 : Nat} {e1 e2 : TypeId} {s1 s2 n1 n2 : Nat} {a v : Value} {xs ys : List Value} (h1 : W.ownsRow B1 e1 s1 a n1 xs) (h2 : W.ownsRow B2 e2 s2 v n2 ys) (hne : e1 ≠ e2) : offK v.ownBlock a := by
  rcases h1.2 with ⟨rfl, _⟩ | ⟨g, c, cur, rfl, _, hg, _⟩
  · exact .inl rfl
  · refine .inr (fun e => ?_)
    rcases h2.2 with ⟨rfl, _⟩ | ⟨g2, c2, cur2, rfl, _, hg2, _⟩
    · cases e
    · have : g = g2 := by injection e
      subst this
      rw [hg] at hg2
      injection hg2 with h
      injection h with _ h _
      exact hne h
/-- the book's cells -/
def BX (xs : List Value) (K : List EN) (Gf : Nat → Value) (k0 : Nat) : Prop := ∀ (j : Nat) (e : EN), K[j]? = some e → xs[4 * j]? = some e.v ∧ xs[4 * j + 1]? = some (if j < k0 then Gf j else .slice none 0 0) ∧ xs[4 * j + 2]? = some (.int .i64 (j : Int)) ∧ xs[4 * j + 3]? = some (.string ⟨e.sd.toArray⟩)
theorem BX.snoc {xs : List Value} {K : List EN} {Gf : Nat → Value} {e : EN} (h : BX xs K Gf 0) (hl : xs.length = 4 * K.length) : BX (xs ++ [e.v, .slice none 0 0, .int .i64 (K.length : Int), .string ⟨e.sd.toArray⟩]) (K ++ [e]) Gf 0 := fun j f hf => by
  by_cases hj : j < K.length
  · rw [List.getElem?_append_left hj] at hf
    obtain ⟨h1, h2, h3, h4⟩ := h j f hf
    exact ⟨by rw [List.getElem?_append_left (by omega)]; exact h1, by rw [List.getElem?_append_left (by omega)]; exact h2, by rw [List.getElem?_append_left (by omega)]; exact h3, by rw [List.getElem?_append_left (by omega)]; exact h4⟩
  · have hj2 : j = K.length := by
      have := (List.getElem?_eq_some_iff.1 hf).1
      rw [List.length_append] at this
      simp at this
      omega
    subst hj2
    rw [List.getElem?_append_right (Nat.le_refl _), Nat.sub_self] at hf
    have hf2 : e = f := by simpa using hf
    subst hf2
    refine ⟨?_, ?_, ?_, ?_⟩
    · rw [List.getElem?_append_right (by omega), hl, Nat.sub_self]; rfl
    · rw [List.getElem?_append_right (by omega), hl, show 4 * K.length + 1 - 4 * K.length = 1 by omega]; rfl
    · rw [List.getElem?_append_right (by omega), hl, show 4 * K.length + 2 - 4 * K.length = 2 by omega]; rfl
    · rw [List.getElem?_append_right (by omega), hl, show 4 * K.length + 3 - 4 * K.length = 3 by omega]; rfl
def updG (Gf : Nat → Value) (k : Nat) (G : Value) (j : Nat) : Value := if j = k then G else Gf j
theorem BX.put {xs : List Value} {K : List EN} {Gf : Nat → Value} {k : Nat} {e : EN} {G : Value} (h : BX xs K Gf k) (he : K[k]? = some e) (hl : 4 * k + 4 ≤ xs.length) : BX ((((xs.set (4 * k) e.v).set (4 * k + 1) G).set (4 * k + 2) (.int .i64 (k : Int))).set (4 * k + 3) (.string ⟨e.sd.toArray⟩)) K (updG Gf k G) (k + 1) := fun j f hf => by
  by_cases hj : j = k
  · subst hj
    rw [he] at hf
    injection hf with hf
    subst hf
    refine ⟨?_, ?_, ?_, ?_⟩
    · rw [List.getElem?_set_ne (by omega), List.getElem?_set_ne (by omega), List.getElem?_set_ne (by omega), List.getElem?_set_self (by omega)]
    · rw [List.getElem?_set_ne (by omega), List.getElem?_set_ne (by omega), List.getElem?_set_self (by rw [List.length_set]; omega), if_pos (by omega)]
      unfold updG
      rw [if_pos rfl]
    · rw [List.getElem?_set_ne (by omega), List.getElem?_set_self (by rw [List.length_set, List.length_set]; omega)]
    · rw [List.getElem?_set_self (by rw [List.length_set, List.length_set, List.length_set]; omega)]
  · obtain ⟨h1, h2, h3, h4⟩ := h j f hf
    refine ⟨?_, ?_, ?_, ?_⟩
    · rw [List.getElem?_set_ne (by omega), List.getElem?_set_ne (by omega), List.getElem?_set_ne (by omega), List.getElem?_set_ne (by omega)]; exact h1
    · rw [List.getElem?_set_ne (by omega), List.getElem?_set_ne (by omega), List.getElem?_set_ne (by omega), List.getElem?_set_ne (by omega), h2]
      unfold updG
      rw [if_neg hj]
      by_cases hjk : j < k
      · rw [if_pos hjk, if_pos (by omega)]
      · rw [if_neg hjk, if_neg (by omega)]
    · rw [List.getElem?_set_ne (by omega), List.getElem?_set_ne (by omega), List.getElem?_set_ne (by omega), List.getElem?_set_ne (by omega)]; exact h3
    · rw [List.getElem?_set_ne (by omega), List.getElem?_set_ne (by omega), List.getElem?_set_ne (by omega), List.getElem?_set_ne (by omega)]; exact h4
def nilG : Nat → Value := fun _ => .slice none 0 0
/-- what stands while the lists are told, and while they are marked -/
structure SE (wP W : World) (K : List EN) (kE : Nat) (bv : Value) : Prop where
  bo : ∃ xs, W.ownsRow wP.heap.size 39 4 bv K.length xs ∧ BX xs K nilG 0
  own : ∀ (j : Nat) (e : EN), K[j]? = some e → OWC W wP.heap.size e.v (if j < kE then mks j e.L.length else e.L)
  pw : ∀ (i j : Nat) (e f : EN), i ≠ j → K[i]? = some e → K[j]? = some f → disK e.v f.v
  be : Below wP.heap.size wP W
theorem SE.below {wP W X : World} {K : List EN} {kE : Nat} {bv : Value} (h : SE wP W K kE bv) (hb : Below W.heap.size W X) : SE wP X K kE bv := by
  obtain ⟨⟨xs, h1, h2⟩, h3, h4, h5⟩ := h
  exact ⟨⟨xs, own_belQ h1 hb, h2⟩, fun j e he => (h3 j e he).below hb, h4, bel0 h5 hb⟩
theorem SE.start (wP : World) : SE wP wP [] 0 (.slice none 0 0) := ⟨⟨[], World.ownsRow_nil _ _ _ _, fun j e h => by simp at h⟩, fun j e h => by simp at h, fun i j e f _ h _ => by simp at h, Below.refl _ _⟩
theorem bel_grK {w W X : World} {row : Option Nat} (h : Below w.heap.size w W) (hg : W.grownBy X row) (hr : ∀ k, row = some k → w.heap.size ≤ k) : Below w.heap.size w X := h.grown hg h.size hr
/-- one more in the book -/
theorem SE.snoc {wP W X : World} {K : List EN} {bv bv2 : Value} {e : EN} {N : Nat} (h : SE wP W K 0 bv) (hN : OWC W N e.v e.L) (hN1 : wP.heap.size ≤ N) (hd : ∀ (j : Nat) (f : EN), K[j]? = some f → disK f.v e.v) {xs : List Value} (hb : W.ownsRow wP.heap.size 39 4 bv K.length xs) (hx : BX xs K nilG 0) (ho : X.ownsRow wP.heap.size 39 4 bv2 (K.length + 1) (xs ++ [e.v, .slice none 0 0, .int .i64 (K.length : Int), .string ⟨e.sd.toArray⟩])) (hg : W.grownBy X bv.ownBlock) : SE wP X (K ++ [e]) 0 bv2 := by
  have at_ : ∀ (j : Nat) (f : EN), (K ++ [e])[j]? = some f → K[j]? = some f ∨ (j = K.length ∧ f = e) := fun j f hf => by
    by_cases hj : j < K.length
    · rw [List.getElem?_append_left hj] at hf
      exact .inl hf
    · rw [List.getElem?_append_right (by omega)] at hf
      have hj0 : j - K.length = 0 := by
        have := (List.getElem?_eq_some_iff.1 hf).1
        simp at this
        omega
      rw [hj0] at hf
      exact .inr ⟨by omega, by simpa using hf.symm⟩
  refine ⟨⟨_, by rw [List.length_append]; exact ho, hx.snoc (by have := hb.1; omega)⟩, fun j f hf => ?_, fun i j a b hij ha hbb => ?_, bel_grK h.be hg (fun k e => (hb.lt k e).1)⟩
  · rcases at_ j f hf with hf | ⟨rfl, rfl⟩
    · exact (h.own j f hf).kept hg (own_neK (h.own j f hf) hb (by decide))
    · rw [if_neg (Nat.not_lt_zero _)]
      have : OWC W wP.heap.size f.v f.L := own_base hN hN1
      exact this.kept hg (own_neK this hb (by decide))
  · rcases at_ i a ha with ha2 | ⟨e1, e2⟩
    · rcases at_ j b hbb with hb2 | ⟨e3, e4⟩
      · exact h.pw i j a b hij ha2 hb2
      · rw [e4]; exact hd i a ha2
    · rcases at_ j b hbb with hb2 | ⟨e3, e4⟩
      · rw [e2]; exact fun x h1 h2 => hd j b hb2 x h2 h1
      · exact absurd (e1.trans e3.symm) hij
/-- one list marked -/
theorem SE.write {wP W X : World} {K : List EN} {k : Nat} {bv : Value} {e : EN} (h : SE wP W K k bv) (he : K[k]? = some e) (ho : OWC X wP.heap.size e.v (mks k e.L.length)) (hg : W.grownBy X e.v.ownBlock) : SE wP X K (k + 1) bv := by
  obtain ⟨⟨xs, h1, h2⟩, h3, h4, h5⟩ := h
  have hk := h3 k e he
  refine ⟨⟨xs, h1.kept hg (own_neK h1 hk (by decide)), h2⟩, fun j f hf => ?_, h4, bel_grK h5 hg (fun b hb => (hk.lt b hb).1)⟩
  by_cases hj : j = k
  · subst hj
    rw [he] at hf
    injection hf with hf
    subst hf
    rw [if_pos (by omega)]
    exact ho
  · have h6 := (h3 j f hf).kept hg (h4 k j e f (fun e => hj e.symm) he hf).off
    by_cases hjk : j < k
    · rw [if_pos hjk] at h6
      rw [if_pos (by omega)]
      exact h6
    · rw [if_neg hjk] at h6
      rw [if_neg (by omega)]
      exact h6
/-- what stands while the lists are gone on from -/
structure SF (wP W : World) (K : List EN) (NF : Nat) (Gf : Nat → Value) (k0 : Nat) (bv : Value) : Prop where
  bo : ∃ xs, W.ownsRow wP.heap.size 39 4 bv K.length xs ∧ BX xs K Gf k0
  grw : ∀ (j : Nat) (e : EN), K[j]? = some e → j < k0 → ∃ N2, NF ≤ N2 ∧ GRK W wP.heap.size N2 e.v (mks j e.L.length) (Gf j) (mkG j 96)
  own : ∀ (j : Nat) (e : EN), K[j]? = some e → k0 ≤ j → OWC W wP.heap.size e.v (mks j e.L.length)
  pw : ∀ (i j : Nat) (e f : EN), i ≠ j → K[i]? = some e → K[j]? = some f → disK e.v f.v
  vb : ∀ (j : Nat) (e : EN), K[j]? = some e → ∀ b, e.v.ownBlock = some b → b < NF
  nf : NF ≤ W.heap.size
  be : Below wP.heap.size wP W
theorem SE.toF {wP W : World} {K : List EN} {bv : Value} (h : SE wP W K K.length bv) : SF wP W K W.heap.size nilG 0 bv := by
  have h0 : ∀ (j : Nat) (e : EN), K[j]? = some e → OWC W wP.heap.size e.v (mks j e.L.length) := fun j e he => by
    have := h.own j e he
    rw [if_pos (List.getElem?_eq_some_iff.1 he).1] at this
    exact this
  exact ⟨h.bo, fun j e _ hj => by omega, fun j e he _ => h0 j e he, h.pw, fun j e he b hb => ((h0 j e he).lt b hb).2, Nat.le_refl _, h.be⟩
theorem SF.below {wP W X : World} {K : List EN} {NF : Nat} {Gf : Nat → Value} {k0 : Nat} {bv : Value} (h : SF wP W K NF Gf k0 bv) (hb : Below W.heap.size W X) : SF wP X K NF Gf k0 bv := by
  obtain ⟨⟨xs, h1, h2⟩, h3, h4, h5, h6, h7, h8⟩ := h
  refine ⟨⟨xs, own_belQ h1 hb, h2⟩, fun j e he hj => ?_, fun j e he hj => (h4 j e he hj).below hb, h5, h6, Nat.le_trans h7 hb.size, bel0 h8 hb⟩
  obtain ⟨N2, a, b⟩ := h3 j e he hj
  exact ⟨N2, a, b.below hb⟩
/-- one list gone on from: the call, and the book's cells behind it -/
theorem SF.grow {wP W X Y : World} {K : List EN} {NF : Nat} {Gf : Nat → Value} {k : Nat} {bv G : Value} {e : EN} (h : SF wP W K NF Gf k bv) (he : K[k]? = some e) (hG : GRK X wP.heap.size W.heap.size e.v (mks k e.L.length) G (mkG k 96)) (hg : W.grownBy X e.v.ownBlock)
    (hY : X.grownBy Y bv.ownBlock) (hb : ∀ xs, X.ownsRow wP.heap.size 39 4 bv K.length xs → Y.ownsRow wP.heap.size 39 4 bv K.length ((((xs.set (4 * k) e.v).set (4 * k + 1) G).set (4 * k + 2) (.int .i64 (k : Int))).set (4 * k + 3) (.string ⟨e.sd.toArray⟩))) : SF wP Y K NF (updG Gf k G) (k + 1) bv := by
  obtain ⟨⟨xs, h1, h2⟩, h3, h4, h5, h6, h7, h8⟩ := h
  have hk := h4 k e he (Nat.le_refl _)
  have hkl := (List.getElem?_eq_some_iff.1 he).1
  have b1 := h1.kept hg (own_neK h1 hk (by decide))
  have offc : ∀ {B : Nat} {v : Value} {L : List (List UInt8)}, OWC X B v L → offK bv.ownBlock v := fun o => own_neK o b1 (by decide)
  have offg : ∀ {B N2 : Nat} {v G : Value} {A S : List (List UInt8)}, GRK X B N2 v A G S → offK bv.ownBlock v ∧ offK bv.ownBlock G := fun {B N2 v G A S} o => by
    rcases o with ⟨g, c, rfl, rfl, o⟩ | ⟨o, o2⟩
    · exact ⟨offc o.pre, offc o⟩
    · exact ⟨offc o2, offc o⟩
  refine ⟨⟨_, hb xs b1, h2.put he (by have := h1.1; omega)⟩, fun j f hf hj => ?_, fun j f hf hj => ?_, h5, h6, Nat.le_trans h7 (Nat.le_trans hg.size hY.size), bel_grK (bel_grK h8 hg (fun b hb => (hk.lt b hb).1)) hY (fun b hb => (b1.lt b hb).1)⟩
  · by_cases hjk : j = k
    · subst hjk
      rw [he] at hf
      injection hf with hf
      subst hf
      refine ⟨W.heap.size, h7, ?_⟩
      unfold updG
      rw [if_pos rfl]
      exact hG.kept hY (offg hG).1 (offg hG).2
    · obtain ⟨N2, a, g⟩ := h3 j f hf (by omega)
      refine ⟨N2, a, ?_⟩
      unfold updG
      rw [if_neg hjk]
      have hd := h5 k j e f (fun e => hjk e.symm) he hf
      have g1 : GRK X wP.heap.size N2 f.v (mks j f.L.length) (Gf j) (mkG j 96) := g.kept hg hd.off (by
        rcases g.blk with h9 | h9
        · rcases hd.off with h10 | h10
          · exact .inl (by rw [h9]; exact h10)
          · exact .inr (by rw [h9]; exact h10)
        · cases hx : (Gf j).ownBlock with
          | none => exact .inl hx
          | some b =>
            refine .inr (fun e9 => ?_)
            rw [hx] at e9
            have := h9 b hx
            have := h6 k e he b e9.symm
            omega)
      exact g1.kept hY (offg g1).1 (offg g1).2
  · have hjk : k ≠ j := by omega
    have o := (h4 j f hf (by omega)).kept hg (h5 k j e f hjk he hf).off
    exact o.kept hY (offc o)
end Go.Proofs.YtecgjlpmmailjaaGreatDoor
namespace Go.Proofs.YtecgjlpmmailjaaGreatDoor
open Go.RowKit
/-- a space that was read -/
structure XP where
  p : Option Addr
  n : Nat
  c : Nat
  x : List UInt8
def spc (b : Int) (X : XP) : List Value := [.int .i64 b, .slice X.p X.n X.c, .bool false]
def spx (b : Int) (Xs : List XP) : List Value := Xs.flatMap (spc b)
theorem spx_snoc (b : Int) (Xs : List XP) (X : XP) : spx b (Xs ++ [X]) = spx b Xs ++ spc b X := by simp [spx, List.flatMap_append]
theorem spx_at (b : Int) : ∀ (Xs : List XP) (i : Nat) (X : XP), Xs[i]? = some X → (spx b Xs)[i * 3]? = some (.int .i64 b) ∧ (spx b Xs)[i * 3 + 1]? = some (.slice X.p X.n X.c) ∧ (spx b Xs)[i * 3 + 2]? = some (.bool false)
  | [], i, X, h => by simp at h
  | Y :: r, 0, X, h => by
    have e : Y = X := by simpa using h
    subst e
    exact ⟨rfl, rfl, rfl⟩
  | Y :: r, i + 1, X, h => by
    have := spx_at b r i X (by simpa using h)
    have e : spx b (Y :: r) = spc b Y ++ spx b r := rfl
    rw [e, show (i + 1) * 3 = i * 3 + 3 by omega]
    have l : (spc b Y).length = 3 := rfl
    refine ⟨?_, ?_, ?_⟩
    · rw [List.getElem?_append_right (by omega), l, show i * 3 + 3 - 3 = i * 3 by omega]; exact this.1
    · rw [List.getElem?_append_right (by omega), l, show i * 3 + 3 + 1 - 3 = i * 3 + 1 by omega]; exact this.2.1
    · rw [List.getElem?_append_right (by omega), l, show i * 3 + 3 + 2 - 3 = i * 3 + 2 by omega]; exact this.2.2
theorem own_atK {W : World} {B : Nat} {e : TypeId} {s g n c m : Nat} {xs : List Value} {j : Nat} {u : Value} (h : W.ownsRow B e s (.slice (some ⟨g, 0, none⟩) n c) m xs) (hu : xs[j]? = some u) : W.cell? ⟨g, j, none⟩ = some u := by
  have := World.ownsRow.cells h (g := g) rfl j u hu
  have hadd : (⟨g, 0, none⟩ : Addr).add j = ⟨g, j, none⟩ := by unfold Addr.add; split <;> simp_all
  rw [hadd] at this
  exact this
theorem own_someK {W : World} {B : Nat} {e : TypeId} {s n c : Nat} {p : Option Addr} {m : Nat} {xs : List Value} (h : W.ownsRow B e s (.slice p n c) m xs) (hm : m ≠ 0) : ∃ g, p = some ⟨g, 0, none⟩ := by
  rcases h.2 with ⟨e, h2⟩ | ⟨g, c2, cur, e, _⟩
  · exact absurd h2 hm
  · injection e with e _ _
    exact ⟨g, e⟩
def TT (LL : List UInt8 → List (List UInt8)) (EE : List UInt8 → Int) (X : XP) : List UInt8 := tdT (EE X.x) (LL X.x)
def txK (LL : List UInt8 → List (List UInt8)) (EE : List UInt8 → Int) (Xs : List XP) : List Value := Xs.map (fun X => .string ⟨(TT LL EE X).toArray⟩)
theorem txK_at {LL : List UInt8 → List (List UInt8)} {EE : List UInt8 → Int} {Xs : List XP} {i : Nat} {X : XP} (h : Xs[i]? = some X) : (txK LL EE Xs)[i]? = some (.string ⟨(TT LL EE X).toArray⟩) := by simp [txK, h]
theorem txK_succ {LL : List UInt8 → List (List UInt8)} {EE : List UInt8 → Int} {Xs : List XP} {i : Nat} {X : XP} (h : Xs[i]? = some X) : txK LL EE (Xs.take (i + 1)) = txK LL EE (Xs.take i) ++ [.string ⟨(TT LL EE X).toArray⟩] := by simp [txK, List.take_add_one, h]
theorem info_spK : (Tryz.prog.info? 28).map (fun i => (i.zero, i.size, i.bytes)) = some (some (.agg #[.int .i64 0, .slice none 0 0, .bool false]), 3, 40) := by kernel_rfl
theorem info_stK : (Tryz.prog.info? 9).map (fun i => (i.zero, i.size, i.bytes)) = some (some (.string ⟨#[]⟩), 1, 16) := by kernel_rfl
theorem info_kpK : (Tryz.prog.info? 39).map (fun i => (i.zero, i.size, i.bytes)) = some (some (.agg #[.slice none 0 0, .slice none 0 0, .int .i64 0, .string ⟨#[]⟩]), 4, 72) := by kernel_rfl
/-- a row of texts -/
def LSK (w : World) (p : Option Addr) (L : List (List UInt8)) : Prop := ∀ W : World, Below w.heap.size w W → ∀ (i : Nat) (x : List UInt8), L[i]? = some x → ∃ ad, p = some ad ∧ W.cell? (ad.add i) = some (.string ⟨x.toArray⟩)
def ISK (w : World) (p : Option Addr) (n : Nat) : Prop := ∀ W : World, Below w.heap.size w W → ∀ i : Nat, i < n → ∃ ad z, p = some ad ∧ W.cell? (ad.add i) = some (.int .i64 z) ∧ -9223372036854775808 ≤ z ∧ z ≤ 9223372036854775807
theorem place_any (z : Int) (w : World) (h1 : -9223372036854775808 ≤ z) (h2 : z ≤ 9223372036854775807) : Calls Tryz.prog 8 #[.int .i64 z] w fun e w' => ∃ j : Nat, j < 8 ∧ e = .returned (.int .i64 (j : Int)) ∧ Below w.heap.size w w' := by
  by_cases h : z < 0
  · obtain ⟨m, hm⟩ : ∃ m : Nat, -(z + 1) = (m : Int) := ⟨(-(z + 1)).toNat, by omega⟩
    have e1 : IntKind.i64.wrap (z + 1) = z + 1 := by rw [IntKind.wrap_i64]; omega
    have e2 : IntKind.i64.wrap (m : Int) = (m : Int) := by rw [IntKind.wrap_i64]; omega
    obtain ⟨r, hr⟩ : ∃ r : Nat, m % 8 = r := ⟨_, rfl⟩
    have e3 : (m : Int).tmod 8 = (r : Int) := by rw [← hr]; rfl
    have e4 : IntKind.i64.wrap (r : Int) = (r : Int) := by rw [IntKind.wrap_i64]; omega
    have hr8 : r < 8 := by omega
    have HR : Hid (r < 8) := hr8
    clear hr
    go_enter Tryz.func8, Tryz.ntmps8
    go_wp2_with fail
    go_ret
    exact ⟨r, HR.out, rfl, Below.refl _ _⟩
  · obtain ⟨m, rfl⟩ : ∃ m : Nat, z = (m : Int) := ⟨z.toNat, by omega⟩
    obtain ⟨r, hr⟩ : ∃ r : Nat, m % 8 = r := ⟨_, rfl⟩
    have e3 : (m : Int).tmod 8 = (r : Int) := by rw [← hr]; rfl
    have e4 : IntKind.i64.wrap (r : Int) = (r : Int) := by rw [IntKind.wrap_i64]; omega
    have hr8 : r < 8 := by omega
    have HR : Hid (r < 8) := hr8
    clear hr
    go_enter Tryz.func8, Tryz.ntmps8
    go_wp2_with fail
    go_ret
    exact ⟨r, HR.out, rfl, Below.refl _ _⟩
end Go.Proofs.YtecgjlpmmailjaaGreatDoor
