import Derived.Test.YtmdnapognaddbaaGreatDoorXAU
import Derived.Test.YtmdnapognaddbaaGreatDoorXAO
namespace Go.Proofs.YtmdnapognaddbaaGreatDoor
open Go.RowKit Go.Shelf
set_option maxRecDepth 100000 in
theorem dTextL_zero (b : Int) (p : Option Addr) (cp : Nat) (w : World) : Calls Tryz.prog 73 #[.agg #[.int .i64 b, .slice p 0 cp]] w fun e w' => e = .returned (.string ⟨#[110, 111, 110, 101]⟩) ∧ Below w.heap.size w w' := by
  obtain ⟨w2, hw2⟩ : ∃ w2, w.alloc (.cells #[.int .i64 b, .slice p 0 cp] 27 (0, 0)) = w2 := ⟨_, rfl⟩
  have h0 : w2.heap[w.heap.size]? = some (.cells #[.int .i64 b, .slice p 0 cp] 27 (0, 0)) := by rw [← hw2]; exact alloc_get _ _
  have hB : Below w.heap.size w w2 := by rw [← hw2]; exact belA (Below.refl _ _) _
  obtain ⟨hc0, -⟩ := cells_block h0
  clear h0
  go_enter Tryz.func73, Tryz.ntmps73
  go_wp2_with fail
  go_ret
  exact ⟨rfl, hB⟩
set_option maxRecDepth 100000 in
set_option maxHeartbeats 8000000 in
theorem dTextL_pos (b : Int) (p : Option Addr) (cp n : Nat) (Z : List ZT) (w : World) (hn : Z.length = n) (hp : 0 < n) (hN : n ≤ 128) (hr : IRR w p Z) (hz : ∀ z ∈ Z, IRSt w z.q z.L) (ho : ∀ z ∈ Z, z.L.length ≤ 1000000) (gz : ∀ z ∈ Z, good z.c = true ∧ ∀ t ∈ z.L, good t = true) : Calls Tryz.prog 73 #[.agg #[.int .i64 b, .slice p n cp]] w fun e w' => e = .returned (.string ⟨(jn (Z.map txZ)).toArray⟩) ∧ Below w.heap.size w w' := by
  obtain ⟨w2, hw2⟩ : ∃ w2, w.alloc (.cells #[.int .i64 b, .slice p n cp] 27 (0, 0)) = w2 := ⟨_, rfl⟩
  have h0 : w2.heap[w.heap.size]? = some (.cells #[.int .i64 b, .slice p n cp] 27 (0, 0)) := by rw [← hw2]; exact alloc_get _ _
  have hB : Below w.heap.size w w2 := by rw [← hw2]; exact belA (Below.refl _ _) _
  have HCS : Hid (∀ W, Below w2.heap.size w2 W → W.cell? ⟨w.heap.size, 1, none⟩ = some (.slice p n cp)) := fun W hW => (cells_block (keepblk3 hW h0)).1 1
  have HR : Hid (IRR w2 p Z) := hr.later hB
  have HZA : Hid (∀ z ∈ Z, IRSt w2 z.q z.L ∧ z.L.length ≤ 1000000 ∧ good z.c = true ∧ ∀ t ∈ z.L, good t = true) := fun z hm => ⟨(hz z hm).later hB, ho z hm, gz z hm⟩
  have HLB : Hid (∀ i, (jn ((Z.take i).map txZ)).length ≤ 257000000000) := fun i => by
    have h1 := jn_len 128 (256 + 257 * 1000000) ((Z.take i).map txZ) (by rw [List.length_map, List.length_take]; omega) (fun x hx => by
      obtain ⟨z, hz, rfl⟩ := List.mem_map.1 hx
      have hm := List.mem_of_mem_take hz
      have h2 := txL_len (gz z hm).2
      have h3 := good_len (gz z hm).1
      have h4 := ho z hm
      unfold txZ
      rw [List.length_append]
      omega)
    omega
  have HN : Hid (Z.length = n) := hn
  have HB : Hid (Below w.heap.size w w2) := hB
  have hnb : ((n : Int) == 0) = false := by rw [beq_eq_false_iff_ne]; omega
  obtain ⟨i0, hi, hz0, hz1, hz2⟩ := info_parts info_u8
  have c0 := HCS.out w2 (Below.refl _ _)
  clear h0 hr hz ho gz hn hB
  go_enter Tryz.func73, Tryz.ntmps73
  go_wp2_with fail
  clear hw2 c0
  go_loopw [3, 4] (fun v3 v4 wr => ∃ i : Nat, v4 = .int .i64 i ∧ i ≤ n ∧ Hid (DXI w2 wr v3 (jn ((Z.take i).map txZ)))) (fun _ v4 _ => n - (intOf v4).toNat)
  case atStart => exact ⟨0, rfl, Nat.zero_le _, World.ownsRow_nil _ _ _ _, Below.refl _ _⟩
  case round =>
    clear hnb
    obtain ⟨i, rfl, hin, HX⟩ := hrel
    by_cases hlt : i < n
    · obtain ⟨z, hz⟩ : ∃ z, Z[i]? = some z := ⟨_, List.getElem?_eq_getElem (by rw [HN.out]; exact hlt)⟩
      obtain ⟨HZ', HZL', HZG'⟩ := HZA.out z (List.mem_of_getElem? hz)
      have HZ : Hid (IRSt w2 z.q z.L) := HZ'
      have HZL : Hid (z.L.length ≤ 1000000) := HZL'
      have HZG : Hid (good z.c = true ∧ ∀ t ∈ z.L, good t = true) := HZG'
      have hln := HLB.out i
      clear HZ' HZL' HZG'
      by_cases hi0 : i = 0
      · subst hi0
        have HSTP : Hid (jn ((Z.take 1).map txZ) = txZ z) := jnZ_step0 hz
        have j1 : (0 : Int) < (n : Int) := by omega
        obtain ⟨YY, hYY⟩ : ∃ YY, jn ((Z.take 0).map txZ) = YY := ⟨_, rfl⟩
        have HYE : Hid (YY = []) := hYY.symm
        rw [hYY] at HX hln
        clear hYY
        obtain ⟨g, o0, rfl, p0, p1⟩ := HR.out wr HX.out.2 0 z hz
        have HZI : Hid (∀ W, Below w2.heap.size w2 W → W.cell? ⟨w.heap.size, 1, none⟩ = some (.slice (some ⟨g, o0, none⟩) n cp) ∧ W.cell? ⟨g, o0 + 0 * 2, none⟩ = some (.string ⟨z.c.toArray⟩) ∧ W.cell? ⟨g, o0 + 0 * 2 + 1, none⟩ = some (.slice z.q z.L.length z.k)) := fun W hW => by
          obtain ⟨g2, o2, e, h2, h3⟩ := HR.out W hW 0 z hz
          injection e with e
          injection e with e1 e2
          subst e1 e2
          exact ⟨HCS.out W hW, h2, h3⟩
        obtain ⟨c, q, k, R⟩ := z
        simp only at p0 p1 HZ HZL HZG HZI
        rw [Nat.zero_mul, Nat.add_zero] at p0 p1 HZI
        clear hz p0 p1
        have HC : Hid (IRSt w2 q R) := HZ
        have hRl : R.length ≤ 1000000 := HZL.out
        have hcl := good_len HZG.out.1
        have HGR : Hid (∀ t ∈ R, t.length ≤ 256) := fun t ht => good_len (HZG.out.2 t ht)
        have HLN : Hid (∀ j, (txL (R.take j)).length ≤ 257 * R.length) := fun j => by
          have h1 := txL_len (R := R.take j) (fun t ht => HZG.out.2 t (List.mem_of_mem_take ht))
          have h2 : (R.take j).length ≤ R.length := by rw [List.length_take]; omega
          omega
        clear HZ HZG HZL
        obtain ⟨c0, c1, c2⟩ := HZI.out wr HX.out.2
        have hsz := HX.out.2.size
        have oA := HX.out.1
        have HBA : Hid (Below w2.heap.size w2 wr) := HX.out.2
        go_wp2_with (at_builtin; refine Lib.wpList_append_own_string _ rfl _ _ 66 9 rfl w2.heap.size 5 i0 Tryz.underlying66 Tryz.underlying9 hi hz0 hz1 hz2 _ _ _ rfl oA ⟨c.toArray⟩ rfl (by show _ + c.length ≤ _; unfold maxLen; omega) (by show _ + c.length ≤ _; omega) (by omega) ?_)
        intro v5 w5 o5 g5 _
        have h5 : Hid (DXI w2 w5 v5 (YY ++ c)) := by
          refine ⟨?_, HBA.out.grown g5 HBA.out.size (fun b e => (oA.lt b e).1)⟩
          rw [List.length_append, bys_app]
          exact o5
        clear o5 g5 c0 c1 c2 oA HBA HX
        obtain ⟨Y1, hY1⟩ : ∃ Y1, YY ++ c = Y1 := ⟨_, rfl⟩
        have hY1l : Y1.length ≤ 257000000300 := by rw [← hY1]; simp; omega
        have HYT : Hid (YY ++ c = Y1) := hY1
        rw [hY1] at h5
        have H3 : Hid (DXI w2 w5 v5 (Y1 ++ txL (R.take 0))) := by unfold Hid; simpa [txL] using h5.out
        obtain ⟨c0, c1, c2⟩ := HZI.out w5 h5.out.2
        clear h5 hY1
        go_wp2_with fail
        clear c0 c1 c2
        go_loopw [3, 5] (fun v3 vj ws => ∃ j : Nat, vj = .int .i64 j ∧ j ≤ R.length ∧ Hid (DXI w2 ws v3 (Y1 ++ txL (R.take j)))) (fun _ vj _ => R.length - (intOf vj).toNat)
        case atStart => exact ⟨0, rfl, Nat.zero_le _, H3⟩
        case round =>
          clear H3
          obtain ⟨j, rfl, hj, HY⟩ := hrel
          obtain ⟨c0, c1, c2⟩ := HZI.out _ HY.out.2
          by_cases hlt : j < R.length
          · have j1 : (j : Int) < (R.length : Int) := by omega
            have j0 : (0 : Int) ≤ (j : Int) := by omega
            obtain ⟨t, ht⟩ : ∃ t, R[j]? = some t := ⟨_, List.getElem?_eq_getElem hlt⟩
            have htl := HGR.out t (List.mem_of_getElem? ht)
            have HST : Hid (Y1 ++ txL (R.take (j + 1)) = Y1 ++ txL (R.take j) ++ [45] ++ t) := by unfold Hid; rw [txL_step ht]; simp
            have hln := HLN.out j
            obtain ⟨Y, hY⟩ : ∃ Y, Y1 ++ txL (R.take j) = Y := ⟨_, rfl⟩
            have hYl : Y.length ≤ 257000000300 + 257 * 1000000 := by rw [← hY, List.length_append]; omega
            rw [hY] at HST HY
            have HTT : Hid (R[j]? = some t) := ht
            have hsz := HY.out.2.size
            clear ht hY hln
            go_wp2_with (at_builtin; refine wpList_append_own _ rfl _ _ 66 rfl w2.heap.size 5 i0 (.int .u8 0) 1 1 Tryz.underlying66 hi hz0 hz1 hz2 rfl (by decide) _ _ _ rfl (HY.out.1.alloc _) ⟨_, 0, none⟩ 1 1 [.int .u8 45] rfl rfl (cell_one_new _ _ _) (by simp [Value.oneCell']) (by unfold maxLen; omega) (by omega) (by simp; omega) ?_)
            intro v6 w6 o6 g6 _
            have B6 : Below w2.heap.size w2 w6 := app_bel HY.out.2 HY.out.1 g6 (Nat.le_refl _)
            have o6' : w6.ownsRow w2.heap.size 5 1 v6 (Y.length + 1) (bys (Y ++ [45])) := by
              rw [bys_app]
              exact o6
            have B6s := B6.size
            obtain ⟨g2, o2, rfl, hc⟩ := HC.out w6 B6 j t HTT.out
            clear c0 c1 c2 o6 g6 HY
            obtain ⟨c0, c1, c2⟩ := HZI.out w6 B6
            have HB6 : Hid (Below w2.heap.size w2 w6) := B6
            clear B6
            go_wp2_with (at_builtin; refine Lib.wpList_append_own_string _ rfl _ _ 66 9 rfl w2.heap.size 5 i0 Tryz.underlying66 Tryz.underlying9 hi hz0 hz1 hz2 _ _ _ rfl o6' ⟨t.toArray⟩ rfl (by show _ + t.length ≤ _; unfold maxLen; omega) (by show _ + t.length ≤ _; omega) (by omega) ?_)
            intro v7 w7 o7 g7 _
            have h7 : Hid (DXI w2 w7 v7 (Y1 ++ txL (R.take (j + 1)))) := by
              refine ⟨?_, HB6.out.grown g7 HB6.out.size (fun b e => (o6'.lt b e).1)⟩
              rw [HST.out]
              have e2 : (Y ++ [45] ++ t).length = Y.length + 1 + (⟨t.toArray⟩ : ByteArray).size := by
                rw [List.length_append, List.length_append]
                rfl
              rw [e2, bys_app (Y ++ [45]) t]
              exact o7
            clear o7 g7 o6' c0 c1 c2 hc HB6
            go_wp2_with fail
            go_roundw
            case rel => exact ⟨j + 1, by go_num, by omega, h7⟩
            case measure => simp [intOf]; omega
          · have j1 : ¬ (j : Int) < (R.length : Int) := by omega
            have e : R.take j = R := List.take_of_length_le (by omega)
            rw [e] at HY
            have HEQ : Y1 ++ txL R = jn ((Z.take (1)).map txZ) := by
              rw [HSTP.out, ← HYT.out, HYE.out]
              unfold txZ
              simp
            rw [HEQ] at HY
            clear e HEQ
            go_wp2_with fail
            go_roundw
            case rel => exact ⟨1, by go_num, by omega, HY⟩
            case measure => simp [intOf]; omega
      · have HSTP : Hid (jn ((Z.take (i + 1)).map txZ) = jn ((Z.take i).map txZ) ++ [43] ++ txZ z) := jnZ_step hz (by omega)
        have j1 : (i : Int) < (n : Int) := by omega
        have j0 : (0 : Int) ≤ (i : Int) := by omega
        have j2 : (0 : Int) < (i : Int) := by omega
        obtain ⟨YY, hYY⟩ : ∃ YY, jn ((Z.take i).map txZ) = YY := ⟨_, rfl⟩
        rw [hYY] at HX HSTP hln
        clear hYY
        obtain ⟨g, o0, rfl, p0, p1⟩ := HR.out wr HX.out.2 i z hz
        have HZI : Hid (∀ W, Below w2.heap.size w2 W → W.cell? ⟨w.heap.size, 1, none⟩ = some (.slice (some ⟨g, o0, none⟩) n cp) ∧ W.cell? ⟨g, o0 + i * 2, none⟩ = some (.string ⟨z.c.toArray⟩) ∧ W.cell? ⟨g, o0 + i * 2 + 1, none⟩ = some (.slice z.q z.L.length z.k)) := fun W hW => by
          obtain ⟨g2, o2, e, h2, h3⟩ := HR.out W hW i z hz
          injection e with e
          injection e with e1 e2
          subst e1 e2
          exact ⟨HCS.out W hW, h2, h3⟩
        obtain ⟨c, q, k, R⟩ := z
        simp only at p0 p1 HZ HZL HZG HZI
        clear hz p0 p1
        have HC : Hid (IRSt w2 q R) := HZ
        have hRl : R.length ≤ 1000000 := HZL.out
        have hcl := good_len HZG.out.1
        have HGR : Hid (∀ t ∈ R, t.length ≤ 256) := fun t ht => good_len (HZG.out.2 t ht)
        have HLN : Hid (∀ j, (txL (R.take j)).length ≤ 257 * R.length) := fun j => by
          have h1 := txL_len (R := R.take j) (fun t ht => HZG.out.2 t (List.mem_of_mem_take ht))
          have h2 : (R.take j).length ≤ R.length := by rw [List.length_take]; omega
          omega
        clear HZ HZG HZL
        obtain ⟨c0, c1, c2⟩ := HZI.out wr HX.out.2
        have hsz := HX.out.2.size
        go_wp2_with (at_builtin; refine wpList_append_own _ rfl _ _ 66 rfl w2.heap.size 5 i0 (.int .u8 0) 1 1 Tryz.underlying66 hi hz0 hz1 hz2 rfl (by decide) _ _ _ rfl (HX.out.1.alloc _) ⟨_, 0, none⟩ 1 1 [.int .u8 43] rfl rfl (cell_one_new _ _ _) (by simp [Value.oneCell']) (by unfold maxLen; omega) (by omega) (by simp; omega) ?_)
        intro v4 w4 o4 g4 _
        have B4 : Below w2.heap.size w2 w4 := app_bel HX.out.2 HX.out.1 g4 (Nat.le_refl _)
        have oA : w4.ownsRow w2.heap.size 5 1 v4 (YY.length + 1) (bys (YY ++ [43])) := by
          rw [bys_app]
          exact o4
        have B4s := B4.size
        clear c0 c1 c2 o4 g4 HX
        obtain ⟨c0, c1, c2⟩ := HZI.out w4 B4
        have HBA : Hid (Below w2.heap.size w2 w4) := B4
        clear B4
        go_wp2_with (at_builtin; refine Lib.wpList_append_own_string _ rfl _ _ 66 9 rfl w2.heap.size 5 i0 Tryz.underlying66 Tryz.underlying9 hi hz0 hz1 hz2 _ _ _ rfl oA ⟨c.toArray⟩ rfl (by show _ + c.length ≤ _; unfold maxLen; omega) (by show _ + c.length ≤ _; omega) (by omega) ?_)
        intro v5 w5 o5 g5 _
        have h5 : Hid (DXI w2 w5 v5 (YY ++ [43] ++ c)) := by
          refine ⟨?_, HBA.out.grown g5 HBA.out.size (fun b e => (oA.lt b e).1)⟩
          have e2 : (YY ++ [43] ++ c).length = YY.length + 1 + (⟨c.toArray⟩ : ByteArray).size := by
            rw [List.length_append, List.length_append]
            rfl
          rw [e2, bys_app (YY ++ [43]) c]
          exact o5
        clear o5 g5 c0 c1 c2 oA HBA
        obtain ⟨Y1, hY1⟩ : ∃ Y1, (YY ++ [43]) ++ c = Y1 := ⟨_, rfl⟩
        have hY1l : Y1.length ≤ 257000000300 := by rw [← hY1]; simp; omega
        have HYT : Hid ((YY ++ [43]) ++ c = Y1) := hY1
        rw [hY1] at h5
        have H3 : Hid (DXI w2 w5 v5 (Y1 ++ txL (R.take 0))) := by unfold Hid; simpa [txL] using h5.out
        obtain ⟨c0, c1, c2⟩ := HZI.out w5 h5.out.2
        clear h5 hY1
        go_wp2_with fail
        clear c0 c1 c2
        go_loopw [3, 5] (fun v3 vj ws => ∃ j : Nat, vj = .int .i64 j ∧ j ≤ R.length ∧ Hid (DXI w2 ws v3 (Y1 ++ txL (R.take j)))) (fun _ vj _ => R.length - (intOf vj).toNat)
        case atStart => exact ⟨0, rfl, Nat.zero_le _, H3⟩
        case round =>
          clear H3
          obtain ⟨j, rfl, hj, HY⟩ := hrel
          obtain ⟨c0, c1, c2⟩ := HZI.out _ HY.out.2
          by_cases hlt : j < R.length
          · have j1 : (j : Int) < (R.length : Int) := by omega
            have j0 : (0 : Int) ≤ (j : Int) := by omega
            obtain ⟨t, ht⟩ : ∃ t, R[j]? = some t := ⟨_, List.getElem?_eq_getElem hlt⟩
            have htl := HGR.out t (List.mem_of_getElem? ht)
            have HST : Hid (Y1 ++ txL (R.take (j + 1)) = Y1 ++ txL (R.take j) ++ [45] ++ t) := by unfold Hid; rw [txL_step ht]; simp
            have hln := HLN.out j
            obtain ⟨Y, hY⟩ : ∃ Y, Y1 ++ txL (R.take j) = Y := ⟨_, rfl⟩
            have hYl : Y.length ≤ 257000000300 + 257 * 1000000 := by rw [← hY, List.length_append]; omega
            rw [hY] at HST HY
            have HTT : Hid (R[j]? = some t) := ht
            have hsz := HY.out.2.size
            clear ht hY hln
            go_wp2_with (at_builtin; refine wpList_append_own _ rfl _ _ 66 rfl w2.heap.size 5 i0 (.int .u8 0) 1 1 Tryz.underlying66 hi hz0 hz1 hz2 rfl (by decide) _ _ _ rfl (HY.out.1.alloc _) ⟨_, 0, none⟩ 1 1 [.int .u8 45] rfl rfl (cell_one_new _ _ _) (by simp [Value.oneCell']) (by unfold maxLen; omega) (by omega) (by simp; omega) ?_)
            intro v6 w6 o6 g6 _
            have B6 : Below w2.heap.size w2 w6 := app_bel HY.out.2 HY.out.1 g6 (Nat.le_refl _)
            have o6' : w6.ownsRow w2.heap.size 5 1 v6 (Y.length + 1) (bys (Y ++ [45])) := by
              rw [bys_app]
              exact o6
            have B6s := B6.size
            obtain ⟨g2, o2, rfl, hc⟩ := HC.out w6 B6 j t HTT.out
            clear c0 c1 c2 o6 g6 HY
            obtain ⟨c0, c1, c2⟩ := HZI.out w6 B6
            have HB6 : Hid (Below w2.heap.size w2 w6) := B6
            clear B6
            go_wp2_with (at_builtin; refine Lib.wpList_append_own_string _ rfl _ _ 66 9 rfl w2.heap.size 5 i0 Tryz.underlying66 Tryz.underlying9 hi hz0 hz1 hz2 _ _ _ rfl o6' ⟨t.toArray⟩ rfl (by show _ + t.length ≤ _; unfold maxLen; omega) (by show _ + t.length ≤ _; omega) (by omega) ?_)
            intro v7 w7 o7 g7 _
            have h7 : Hid (DXI w2 w7 v7 (Y1 ++ txL (R.take (j + 1)))) := by
              refine ⟨?_, HB6.out.grown g7 HB6.out.size (fun b e => (o6'.lt b e).1)⟩
              rw [HST.out]
              have e2 : (Y ++ [45] ++ t).length = Y.length + 1 + (⟨t.toArray⟩ : ByteArray).size := by
                rw [List.length_append, List.length_append]
                rfl
              rw [e2, bys_app (Y ++ [45]) t]
              exact o7
            clear o7 g7 o6' c0 c1 c2 hc HB6
            go_wp2_with fail
            go_roundw
            case rel => exact ⟨j + 1, by go_num, by omega, h7⟩
            case measure => simp [intOf]; omega
          · have j1 : ¬ (j : Int) < (R.length : Int) := by omega
            have e : R.take j = R := List.take_of_length_le (by omega)
            rw [e] at HY
            have HEQ : Y1 ++ txL R = jn ((Z.take (i + 1)).map txZ) := by
              rw [HSTP.out, ← HYT.out]
              unfold txZ
              simp
            rw [HEQ] at HY
            clear e HEQ
            go_wp2_with fail
            go_roundw
            case rel => exact ⟨i + 1, by go_num, by omega, HY⟩
            case measure => simp [intOf]; omega
    · have j1 : ¬ (i : Int) < (n : Int) := by omega
      have e : Z.take i = Z := List.take_of_length_le (by rw [HN.out]; omega)
      rw [e] at HX
      clear e
      have c0 := HCS.out _ HX.out.2
      have hcv := conv_any _ _ _ _ HX.out.1
      go_wp2_with fail
      go_ret
      exact ⟨rfl, bel0 HB.out HX.out.2⟩
theorem dTextL_any (b : Int) (V : Value) (Ts : List (List UInt8 × List (List UInt8))) (w : World) (h : RSR w V Ts) (ho : szC Ts ≤ 128) (hg : gdC Ts) : Calls Tryz.prog 73 #[.agg #[.int .i64 b, V]] w fun e w' => e = .returned (.string ⟨(txC Ts).toArray⟩) ∧ Below w.heap.size w w' := by
  obtain ⟨Z, p, c, rfl, rfl, h2, h3⟩ := h
  cases hZ : Z with
  | nil => exact dTextL_zero b p c w
  | cons z0 Z0 =>
    rw [← hZ]
    have hne : Z ≠ [] := by rw [hZ]; simp
    have hl := szC_len (Z.map ZT.cont)
    rw [List.length_map] at hl
    have e : txC (Z.map ZT.cont) = jn (Z.map txZ) := by
      unfold txC
      rw [if_neg (by simp [hne]), List.map_map]
      rfl
    rw [e]
    refine dTextL_pos b p c Z.length Z w rfl (by rw [hZ]; simp) (by omega) h2 h3 (fun z hz => ?_) (fun z hz => ?_)
    · have := szC_mem z.cont (List.mem_map_of_mem (f := ZT.cont) hz)
      have e2 : z.cont.2 = z.L := rfl
      rw [e2] at this
      omega
    · exact hg z.cont (List.mem_map_of_mem (f := ZT.cont) hz)
end Go.Proofs.YtmdnapognaddbaaGreatDoor
