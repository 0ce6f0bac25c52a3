import Derived.Test.YtcejejiomhhpgaaGreatDoorXAV
namespace Go.Proofs.YtcejejiomhhpgaaGreatDoor
open Go.RowKit Go.Shelf
set_option maxRecDepth 100000 in
set_option maxHeartbeats 8000000 in
theorem spText_pos (b : Int) (p : Option Addr) (cp n : Nat) (Z : List ZT) (B : Nat) (w : World) (hn : Z.length = n) (hp : 0 < n) (hN : n ≤ 128) (o1 : w.ownsRow B 59 10 (.slice p n cp) n (tes Z)) (hz : ZL w B Z) (ho : ∀ z ∈ Z, z.L.length ≤ 1000000) (gz : ∀ z ∈ Z, good z.c = true ∧ ∀ t ∈ z.L, good t = true) : Calls Tryz.prog 8 #[.agg #[.int .i64 b, .slice p n cp, .bool false]] w fun e w' => e = .returned (.string ⟨(jn (Z.map txZ)).toArray⟩) ∧ Below w.heap.size w w' := by
  obtain ⟨w2, hw2⟩ : ∃ w2, w.alloc (.cells #[.int .i64 b, .slice p n cp, .bool false] 26 (0, 0)) = w2 := ⟨_, rfl⟩
  have h0 : w2.heap[w.heap.size]? = some (.cells #[.int .i64 b, .slice p n cp, .bool false] 26 (0, 0)) := by rw [← hw2]; exact alloc_get _ _
  have hB : Below w.heap.size w w2 := by rw [← hw2]; exact belA (Below.refl _ _) _
  obtain ⟨hc0, -⟩ := cells_block h0
  have HI : Hid (Calls Tryz.prog 24 #[.agg #[.int .i64 b, .slice p n cp, .bool false]] w2 fun e w' => e = .returned (.agg #[.int .i64 b, .slice p n cp, .bool false]) ∧ Below w2.heap.size w2 w') := inForm_any b p n cp w2
  have HT : Hid (∀ W, KT w W → IRZ W p Z) := fun W hW => IRZ_own (own_KT o1 hW (by decide) (by decide)) hn
  have HZA : Hid (∀ z ∈ Z, (∀ W, KT w W → IRC W z.q z.L) ∧ z.L.length ≤ 1000000 ∧ good z.c = true ∧ ∀ t ∈ z.L, good t = true) := fun z hm => ⟨fun W hW => IRC_own (own_KT (hz z hm) hW (by decide) (by decide)) rfl, ho z hm, gz z hm⟩
  have HLB : Hid (∀ i, (jn ((Z.take i).map txZ)).length ≤ 257000000000) := fun i => by
    have h1 := jn_len 128 (256 + 257 * 1000000) ((Z.take i).map txZ) (by rw [List.length_map, List.length_take]; omega) (fun x hx => by
      obtain ⟨z, hz, rfl⟩ := List.mem_map.1 hx
      have hm := List.mem_of_mem_take hz
      have h2 := txL_len (gz z hm).2
      have h3 := good_len (gz z hm).1
      have h4 := ho z hm
      unfold txZ
      rw [List.length_append]
      omega)
    omega
  have HN : Hid (Z.length = n) := hn
  have hnb : ((n : Int) == 0) = false := by rw [beq_eq_false_iff_ne]; omega
  clear h0 o1 hz ho gz hn
  have hfl := fld1
  go_enter Tryz.func8, Tryz.ntmps8
  go_wp2_with fail
  refine HI.out.mono ?_
  rintro e W1 ⟨rfl, hb1⟩
  have KW : Hid (KT w W1 ∧ Below w.heap.size w W1) := ⟨KT_below (bel0 hB hb1), bel0 hB hb1⟩
  have H0 : Hid (TXI W1 (W1.alloc (.cells #[.pointer none, .slice none 0 0] 51 (0, 0))) []) := ⟨.inl ⟨Nat.le_refl _, .slice none 0 0, alloc_get _ _, World.ownsRow_nil _ _ _ _, by simp [Value.ownBlock]⟩, KT_below (belA (Below.refl _ _) _), belA (Below.refl _ _) _⟩
  clear hb1 hB hc0 hw2 HI
  go_wp2_with fail
  go_loopw [17] (fun v17 wr => ∃ i : Nat, v17 = .int .i64 i ∧ i ≤ n ∧ Hid (TXI W1 wr (jn ((Z.take i).map txZ)))) (fun v17 _ => n - (intOf v17).toNat)
  case atStart => exact ⟨0, rfl, Nat.zero_le _, H0⟩
  case round =>
    clear H0 hnb
    obtain ⟨i, rfl, hi, HX⟩ := hrel
    by_cases hlt : i < n
    · obtain ⟨z, hz⟩ : ∃ z, Z[i]? = some z := ⟨_, List.getElem?_eq_getElem (by rw [HN.out]; exact hlt)⟩
      obtain ⟨HZ', HZL', HZG'⟩ := HZA.out z (List.mem_of_getElem? hz)
      have HZ : Hid (∀ W, KT w W → IRC W z.q z.L) := HZ'
      have HZL : Hid (z.L.length ≤ 1000000) := HZL'
      have HZG : Hid (good z.c = true ∧ ∀ t ∈ z.L, good t = true) := HZG'
      have hln := HLB.out i
      clear HZ' HZL' HZG'
      by_cases hi0 : i = 0
      · subst hi0
        have HSTP : Hid (jn ((Z.take 1).map txZ) = txZ z) := jnZ_step0 hz
        have j1 : (0 : Int) < (n : Int) := by omega
        have HX0 : Hid (TXI W1 wr []) := HX
        clear HX hln
        rename Hid (TXI W1 wr []) => HX
        obtain ⟨g, o0, rfl, p0, p1, p2, p3, p4, p5, p6, p7, p8, p9⟩ := HT.out wr (KW.out.1.trans HX.out.2.1) wr (Below.refl _ _) 0 _ hz
        obtain ⟨c, q, k, R⟩ := z
        simp only at p0 p1 p2 p3 p4 p5 p6 p7 p8 p9 HZ HZL HZG
        rw [Nat.zero_mul, Nat.add_zero] at p0 p1 p2 p3 p4 p5 p6 p7 p8 p9
        clear hz
        have HG : Hid (good c = true ∧ ∀ t ∈ R, good t = true) := HZG
        have HC : Hid (∀ W, KT w W → IRC W q R) := HZ
        have hRl : R.length ≤ 1000000 := HZL.out
        have hcl := good_len HG.out.1
        have HLN : Hid (∀ j, (txL (R.take j)).length ≤ 257 * R.length) := fun j => by
          have h1 := txL_len (R := R.take j) (fun t ht => HG.out.2 t (List.mem_of_mem_take ht))
          have h2 : (R.take j).length ≤ R.length := by rw [List.length_take]; omega
          omega
        clear HZ HZG HZL
        obtain ⟨wa, hwa⟩ : ∃ wa, wr.alloc (.cells #[.int .i64 (c.length : Int), .int .u64 (FW c 0 : Int), .int .u64 (FW c 1 : Int), .int .u64 (FW c 2 : Int), .int .u64 (FW c 3 : Int), .int .u64 (OW c 0 : Int), .int .u64 (OW c 1 : Int), .int .u64 (OW c 2 : Int), .int .u64 (OW c 3 : Int), .slice q R.length k] 59 (0, 0)) = wa := ⟨_, rfl⟩
        have hal : Below wr.heap.size wr wa := by rw [← hwa]; exact belA (Below.refl _ _) _
        have hgt : wa.heap[wr.heap.size]? = some (.cells #[.int .i64 (c.length : Int), .int .u64 (FW c 0 : Int), .int .u64 (FW c 1 : Int), .int .u64 (FW c 2 : Int), .int .u64 (FW c 3 : Int), .int .u64 (OW c 0 : Int), .int .u64 (OW c 1 : Int), .int .u64 (OW c 2 : Int), .int .u64 (OW c 3 : Int), .slice q R.length k] 59 (0, 0)) := by rw [← hwa]; exact alloc_get _ _
        have hcw := (cells_block hgt).1
        have HGT : Hid (wa.heap[wr.heap.size]? = some (.cells #[.int .i64 (c.length : Int), .int .u64 (FW c 0 : Int), .int .u64 (FW c 1 : Int), .int .u64 (FW c 2 : Int), .int .u64 (FW c 3 : Int), .int .u64 (OW c 0 : Int), .int .u64 (OW c 1 : Int), .int .u64 (OW c 2 : Int), .int .u64 (OW c 3 : Int), .slice q R.length k] 59 (0, 0))) := hgt
        have HXa : Hid (TXI W1 wa []) := HX.out.below hal
        have HTx : Hid (Calls Tryz.prog 26 #[.agg #[.int .i64 (c.length : Int), .int .u64 (FW c 0 : Int), .int .u64 (FW c 1 : Int), .int .u64 (FW c 2 : Int), .int .u64 (FW c 3 : Int), .int .u64 (OW c 0 : Int), .int .u64 (OW c 1 : Int), .int .u64 (OW c 2 : Int), .int .u64 (OW c 3 : Int)]] wa fun e w' => e = .returned (.string ⟨c.toArray⟩) ∧ Below wa.heap.size wa w') := text_any c wa HG.out.1
        clear hgt HX hal
        go_wp2_with fail
        refine HTx.out.mono ?_
        rintro e W2 ⟨rfl, hb2⟩
        have HX2 := HXa.out.below hb2
        have HW2 : Hid (Calls Tryz.prog 25 #[.pointer (some ⟨W1.heap.size, 0, none⟩), .string ⟨c.toArray⟩] W2 fun e w' => e = .returned (.tuple #[.int .i64 (c.length : Int), .nilIface]) ∧ TXI W1 w' ([] ++ c) ∧ KT W2 w') := HX2.write c (by simp; omega)
        have hg2 := keepblk3 hb2 HGT.out
        have HG2 : Hid (W2.heap[wr.heap.size]? = some (.cells #[.int .i64 (c.length : Int), .int .u64 (FW c 0 : Int), .int .u64 (FW c 1 : Int), .int .u64 (FW c 2 : Int), .int .u64 (FW c 3 : Int), .int .u64 (OW c 0 : Int), .int .u64 (OW c 1 : Int), .int .u64 (OW c 2 : Int), .int .u64 (OW c 3 : Int), .slice q R.length k] 59 (0, 0))) := hg2
        clear hg2 HX2 hb2 hcw HTx HXa hwa p0 p1 p2 p3 p4 p5 p6 p7 p8 p9
        go_wp2_with fail
        refine HW2.out.mono ?_
        rintro e W3 ⟨rfl, HX3, kt3⟩
        have hcw3 := (cells_block (kt3 _ _ _ _ HG2.out (by decide) (by decide))).1
        obtain ⟨Y1, hY1⟩ : ∃ Y1, [] ++ c = Y1 := ⟨_, rfl⟩
        have hY1l : Y1.length ≤ 257000000300 := by rw [← hY1]; simp; omega
        have HYT : Hid ([] ++ c = Y1) := hY1
        rw [hY1] at HX3
        have H3 : Hid (TXI W1 W3 (Y1 ++ txL (R.take 0))) := by unfold Hid; simpa [txL] using HX3
        clear HX3 kt3 HW2 HG2 HGT hY1
        go_wp2_with fail
        go_loopw [32] (fun v32 ws => ∃ j : Nat, v32 = .int .i64 j ∧ j ≤ R.length ∧ Hid (TXI W1 ws (Y1 ++ txL (R.take j)))) (fun v32 _ => R.length - (intOf v32).toNat)
        case atStart => exact ⟨0, rfl, Nat.zero_le _, H3⟩
        case round =>
          clear H3 hcw3
          obtain ⟨j, rfl, hj, HY⟩ := hrel
          by_cases hlt : j < R.length
          · have j1 : (j : Int) < (R.length : Int) := by omega
            have j0 : (0 : Int) ≤ (j : Int) := by omega
            obtain ⟨t, ht⟩ : ∃ t, R[j]? = some t := ⟨_, List.getElem?_eq_getElem hlt⟩
            have hir := HC.out _ (KW.out.1.trans HY.out.2.1)
            obtain ⟨g2, o2, rfl, p0, p1, p2, p3, p4, p5, p6, p7, p8⟩ := hir _ (Below.refl _ _) j t ht
            have gt := HG.out.2 t (List.mem_of_getElem? ht)
            have htl := good_len gt
            have HST : Hid (Y1 ++ txL (R.take (j + 1)) = Y1 ++ txL (R.take j) ++ [45] ++ t) := by unfold Hid; rw [txL_step ht]; simp
            have hln := HLN.out j
            obtain ⟨Y, hY⟩ : ∃ Y, Y1 ++ txL (R.take j) = Y := ⟨_, rfl⟩
            have hYl : Y.length ≤ 257000000300 + 257 * 1000000 := by rw [← hY, List.length_append]; omega
            rw [hY] at HST HY
            clear hir ht hY
            obtain ⟨wb, hwb⟩ : ∃ wb, World.alloc wr (.cells #[.int .i64 (t.length : Int), .int .u64 (FW t 0 : Int), .int .u64 (FW t 1 : Int), .int .u64 (FW t 2 : Int), .int .u64 (FW t 3 : Int), .int .u64 (OW t 0 : Int), .int .u64 (OW t 1 : Int), .int .u64 (OW t 2 : Int), .int .u64 (OW t 3 : Int)] 56 (0, 0)) = wb := ⟨_, rfl⟩
            have hal : Below (World.heap wr).size wr wb := by rw [← hwb]; exact belA (Below.refl _ _) _
            have hgt : wb.heap[(World.heap wr).size]? = some (.cells #[.int .i64 (t.length : Int), .int .u64 (FW t 0 : Int), .int .u64 (FW t 1 : Int), .int .u64 (FW t 2 : Int), .int .u64 (FW t 3 : Int), .int .u64 (OW t 0 : Int), .int .u64 (OW t 1 : Int), .int .u64 (OW t 2 : Int), .int .u64 (OW t 3 : Int)] 56 (0, 0)) := by rw [← hwb]; exact alloc_get _ _
            have HGT : Hid (wb.heap[(World.heap wr).size]? = some (.cells #[.int .i64 (t.length : Int), .int .u64 (FW t 0 : Int), .int .u64 (FW t 1 : Int), .int .u64 (FW t 2 : Int), .int .u64 (FW t 3 : Int), .int .u64 (OW t 0 : Int), .int .u64 (OW t 1 : Int), .int .u64 (OW t 2 : Int), .int .u64 (OW t 3 : Int)] 56 (0, 0))) := hgt
            have HW4 : Hid (Calls Tryz.prog 25 #[.pointer (some ⟨W1.heap.size, 0, none⟩), .string ⟨#[45]⟩] wb fun e w' => e = .returned (.tuple #[.int .i64 1, .nilIface]) ∧ TXI W1 w' (Y ++ [45]) ∧ KT wb w') := (HY.out.below hal).write [45] (by simp; omega)
            clear hgt hal HY
            go_wp2_with fail
            refine HW4.out.mono ?_
            rintro e W4 ⟨rfl, HX4, kt4⟩
            have hcw4 := (cells_block (kt4 _ _ _ _ HGT.out (by decide) (by decide))).1
            have HX4' : Hid (TXI W1 W4 (Y ++ [45])) := HX4
            have HTx : Hid (Calls Tryz.prog 26 #[.agg #[.int .i64 (t.length : Int), .int .u64 (FW t 0 : Int), .int .u64 (FW t 1 : Int), .int .u64 (FW t 2 : Int), .int .u64 (FW t 3 : Int), .int .u64 (OW t 0 : Int), .int .u64 (OW t 1 : Int), .int .u64 (OW t 2 : Int), .int .u64 (OW t 3 : Int)]] W4 fun e w' => e = .returned (.string ⟨t.toArray⟩) ∧ Below W4.heap.size W4 w') := text_any t W4 gt
            clear HX4 kt4 HGT HW4 hwb p0 p1 p2 p3 p4 p5 p6 p7 p8
            go_wp2_with fail
            refine HTx.out.mono ?_
            rintro e W5 ⟨rfl, hb5⟩
            have HW5 : Hid (Calls Tryz.prog 25 #[.pointer (some ⟨W1.heap.size, 0, none⟩), .string ⟨t.toArray⟩] W5 fun e w' => e = .returned (.tuple #[.int .i64 (t.length : Int), .nilIface]) ∧ TXI W1 w' (Y ++ [45] ++ t) ∧ KT W5 w') := (HX4'.out.below hb5).write t (by simp; omega)
            clear hb5 HX4' HTx hcw4
            go_wp2_with fail
            refine HW5.out.mono ?_
            rintro e W6 ⟨rfl, HX6, -⟩
            have HX6' : Hid (TXI W1 W6 (Y1 ++ txL (R.take (j + 1)))) := by unfold Hid; rw [HST.out]; exact HX6
            clear HX6 HW5
            go_wp2_with fail
            go_roundw
            case rel => exact ⟨j + 1, by go_num, by omega, HX6'⟩
            case measure => simp [intOf]; omega
          · have j1 : ¬ (j : Int) < (R.length : Int) := by omega
            have e : R.take j = R := List.take_of_length_le (by omega)
            rw [e] at HY
            have HN : Hid (TXI W1 wr (jn ((Z.take (1)).map txZ))) := by
              unfold Hid
              rw [HSTP.out]
              have h1 := HY.out
              rw [← HYT.out] at h1
              unfold txZ
              simpa using h1
            clear e HY
            go_wp2_with fail
            go_roundw
            case rel => exact ⟨1, by go_num, by omega, HN⟩
            case measure => simp [intOf]; omega
      · have HSTP : Hid (jn ((Z.take (i + 1)).map txZ) = jn ((Z.take i).map txZ) ++ [43] ++ txZ z) := jnZ_step hz (by omega)
        have j1 : (i : Int) < (n : Int) := by omega
        have j0 : (0 : Int) ≤ (i : Int) := by omega
        have j2 : (0 : Int) < (i : Int) := by omega
        obtain ⟨YY, hYY⟩ : ∃ YY, jn ((Z.take i).map txZ) = YY := ⟨_, rfl⟩
        rw [hYY] at HX HSTP hln
        clear hYY
        obtain ⟨g, o0, rfl, p0, p1, p2, p3, p4, p5, p6, p7, p8, p9⟩ := HT.out wr (KW.out.1.trans HX.out.2.1) wr (Below.refl _ _) i _ hz
        obtain ⟨c, q, k, R⟩ := z
        simp only at p0 p1 p2 p3 p4 p5 p6 p7 p8 p9 HZ HZL HZG
        clear hz
        have HG : Hid (good c = true ∧ ∀ t ∈ R, good t = true) := HZG
        have HC : Hid (∀ W, KT w W → IRC W q R) := HZ
        have hRl : R.length ≤ 1000000 := HZL.out
        have hcl := good_len HG.out.1
        have HLN : Hid (∀ j, (txL (R.take j)).length ≤ 257 * R.length) := fun j => by
          have h1 := txL_len (R := R.take j) (fun t ht => HG.out.2 t (List.mem_of_mem_take ht))
          have h2 : (R.take j).length ≤ R.length := by rw [List.length_take]; omega
          omega
        clear HZ HZG HZL
        obtain ⟨wa, hwa⟩ : ∃ wa, wr.alloc (.cells #[.int .i64 (c.length : Int), .int .u64 (FW c 0 : Int), .int .u64 (FW c 1 : Int), .int .u64 (FW c 2 : Int), .int .u64 (FW c 3 : Int), .int .u64 (OW c 0 : Int), .int .u64 (OW c 1 : Int), .int .u64 (OW c 2 : Int), .int .u64 (OW c 3 : Int), .slice q R.length k] 59 (0, 0)) = wa := ⟨_, rfl⟩
        have hal : Below wr.heap.size wr wa := by rw [← hwa]; exact belA (Below.refl _ _) _
        have hgt : wa.heap[wr.heap.size]? = some (.cells #[.int .i64 (c.length : Int), .int .u64 (FW c 0 : Int), .int .u64 (FW c 1 : Int), .int .u64 (FW c 2 : Int), .int .u64 (FW c 3 : Int), .int .u64 (OW c 0 : Int), .int .u64 (OW c 1 : Int), .int .u64 (OW c 2 : Int), .int .u64 (OW c 3 : Int), .slice q R.length k] 59 (0, 0)) := by rw [← hwa]; exact alloc_get _ _
        have HGT0 : Hid (wa.heap[wr.heap.size]? = some (.cells #[.int .i64 (c.length : Int), .int .u64 (FW c 0 : Int), .int .u64 (FW c 1 : Int), .int .u64 (FW c 2 : Int), .int .u64 (FW c 3 : Int), .int .u64 (OW c 0 : Int), .int .u64 (OW c 1 : Int), .int .u64 (OW c 2 : Int), .int .u64 (OW c 3 : Int), .slice q R.length k] 59 (0, 0))) := hgt
        have HW0 : Hid (Calls Tryz.prog 25 #[.pointer (some ⟨W1.heap.size, 0, none⟩), .string ⟨#[43]⟩] wa fun e w' => e = .returned (.tuple #[.int .i64 1, .nilIface]) ∧ TXI W1 w' (YY ++ [43]) ∧ KT wa w') := (HX.out.below hal).write [43] (by simp; omega)
        clear hgt HX hal
        go_wp2_with fail
        refine HW0.out.mono ?_
        rintro e WA ⟨rfl, HXA, ktA⟩
        have hgA := ktA _ _ _ _ HGT0.out (by decide) (by decide)
        have hcw := (cells_block hgA).1
        have HGT : Hid (WA.heap[wr.heap.size]? = some (.cells #[.int .i64 (c.length : Int), .int .u64 (FW c 0 : Int), .int .u64 (FW c 1 : Int), .int .u64 (FW c 2 : Int), .int .u64 (FW c 3 : Int), .int .u64 (OW c 0 : Int), .int .u64 (OW c 1 : Int), .int .u64 (OW c 2 : Int), .int .u64 (OW c 3 : Int), .slice q R.length k] 59 (0, 0))) := hgA
        have HXa : Hid (TXI W1 WA (YY ++ [43])) := HXA
        have HTx : Hid (Calls Tryz.prog 26 #[.agg #[.int .i64 (c.length : Int), .int .u64 (FW c 0 : Int), .int .u64 (FW c 1 : Int), .int .u64 (FW c 2 : Int), .int .u64 (FW c 3 : Int), .int .u64 (OW c 0 : Int), .int .u64 (OW c 1 : Int), .int .u64 (OW c 2 : Int), .int .u64 (OW c 3 : Int)]] WA fun e w' => e = .returned (.string ⟨c.toArray⟩) ∧ Below WA.heap.size WA w') := text_any c WA HG.out.1
        clear hgA HXA ktA HW0 HGT0
        go_wp2_with fail
        refine HTx.out.mono ?_
        rintro e W2 ⟨rfl, hb2⟩
        have HX2 := HXa.out.below hb2
        have HW2 : Hid (Calls Tryz.prog 25 #[.pointer (some ⟨W1.heap.size, 0, none⟩), .string ⟨c.toArray⟩] W2 fun e w' => e = .returned (.tuple #[.int .i64 (c.length : Int), .nilIface]) ∧ TXI W1 w' ((YY ++ [43]) ++ c) ∧ KT W2 w') := HX2.write c (by simp; omega)
        have hg2 := keepblk3 hb2 HGT.out
        have HG2 : Hid (W2.heap[wr.heap.size]? = some (.cells #[.int .i64 (c.length : Int), .int .u64 (FW c 0 : Int), .int .u64 (FW c 1 : Int), .int .u64 (FW c 2 : Int), .int .u64 (FW c 3 : Int), .int .u64 (OW c 0 : Int), .int .u64 (OW c 1 : Int), .int .u64 (OW c 2 : Int), .int .u64 (OW c 3 : Int), .slice q R.length k] 59 (0, 0))) := hg2
        clear hg2 HX2 hb2 hcw HTx HXa hwa p0 p1 p2 p3 p4 p5 p6 p7 p8 p9
        go_wp2_with fail
        refine HW2.out.mono ?_
        rintro e W3 ⟨rfl, HX3, kt3⟩
        have hcw3 := (cells_block (kt3 _ _ _ _ HG2.out (by decide) (by decide))).1
        obtain ⟨Y1, hY1⟩ : ∃ Y1, (YY ++ [43]) ++ c = Y1 := ⟨_, rfl⟩
        have hY1l : Y1.length ≤ 257000000300 := by rw [← hY1]; simp; omega
        have HYT : Hid ((YY ++ [43]) ++ c = Y1) := hY1
        rw [hY1] at HX3
        have H3 : Hid (TXI W1 W3 (Y1 ++ txL (R.take 0))) := by unfold Hid; simpa [txL] using HX3
        clear HX3 kt3 HW2 HG2 HGT hY1
        go_wp2_with fail
        go_loopw [32] (fun v32 ws => ∃ j : Nat, v32 = .int .i64 j ∧ j ≤ R.length ∧ Hid (TXI W1 ws (Y1 ++ txL (R.take j)))) (fun v32 _ => R.length - (intOf v32).toNat)
        case atStart => exact ⟨0, rfl, Nat.zero_le _, H3⟩
        case round =>
          clear H3 hcw3
          obtain ⟨j, rfl, hj, HY⟩ := hrel
          by_cases hlt : j < R.length
          · have j1 : (j : Int) < (R.length : Int) := by omega
            have j0 : (0 : Int) ≤ (j : Int) := by omega
            obtain ⟨t, ht⟩ : ∃ t, R[j]? = some t := ⟨_, List.getElem?_eq_getElem hlt⟩
            have hir := HC.out _ (KW.out.1.trans HY.out.2.1)
            obtain ⟨g2, o2, rfl, p0, p1, p2, p3, p4, p5, p6, p7, p8⟩ := hir _ (Below.refl _ _) j t ht
            have gt := HG.out.2 t (List.mem_of_getElem? ht)
            have htl := good_len gt
            have HST : Hid (Y1 ++ txL (R.take (j + 1)) = Y1 ++ txL (R.take j) ++ [45] ++ t) := by unfold Hid; rw [txL_step ht]; simp
            have hln := HLN.out j
            obtain ⟨Y, hY⟩ : ∃ Y, Y1 ++ txL (R.take j) = Y := ⟨_, rfl⟩
            have hYl : Y.length ≤ 257000000300 + 257 * 1000000 := by rw [← hY, List.length_append]; omega
            rw [hY] at HST HY
            clear hir ht hY
            obtain ⟨wb, hwb⟩ : ∃ wb, World.alloc wr (.cells #[.int .i64 (t.length : Int), .int .u64 (FW t 0 : Int), .int .u64 (FW t 1 : Int), .int .u64 (FW t 2 : Int), .int .u64 (FW t 3 : Int), .int .u64 (OW t 0 : Int), .int .u64 (OW t 1 : Int), .int .u64 (OW t 2 : Int), .int .u64 (OW t 3 : Int)] 56 (0, 0)) = wb := ⟨_, rfl⟩
            have hal : Below (World.heap wr).size wr wb := by rw [← hwb]; exact belA (Below.refl _ _) _
            have hgt : wb.heap[(World.heap wr).size]? = some (.cells #[.int .i64 (t.length : Int), .int .u64 (FW t 0 : Int), .int .u64 (FW t 1 : Int), .int .u64 (FW t 2 : Int), .int .u64 (FW t 3 : Int), .int .u64 (OW t 0 : Int), .int .u64 (OW t 1 : Int), .int .u64 (OW t 2 : Int), .int .u64 (OW t 3 : Int)] 56 (0, 0)) := by rw [← hwb]; exact alloc_get _ _
            have HGT : Hid (wb.heap[(World.heap wr).size]? = some (.cells #[.int .i64 (t.length : Int), .int .u64 (FW t 0 : Int), .int .u64 (FW t 1 : Int), .int .u64 (FW t 2 : Int), .int .u64 (FW t 3 : Int), .int .u64 (OW t 0 : Int), .int .u64 (OW t 1 : Int), .int .u64 (OW t 2 : Int), .int .u64 (OW t 3 : Int)] 56 (0, 0))) := hgt
            have HW4 : Hid (Calls Tryz.prog 25 #[.pointer (some ⟨W1.heap.size, 0, none⟩), .string ⟨#[45]⟩] wb fun e w' => e = .returned (.tuple #[.int .i64 1, .nilIface]) ∧ TXI W1 w' (Y ++ [45]) ∧ KT wb w') := (HY.out.below hal).write [45] (by simp; omega)
            clear hgt hal HY
            go_wp2_with fail
            refine HW4.out.mono ?_
            rintro e W4 ⟨rfl, HX4, kt4⟩
            have hcw4 := (cells_block (kt4 _ _ _ _ HGT.out (by decide) (by decide))).1
            have HX4' : Hid (TXI W1 W4 (Y ++ [45])) := HX4
            have HTx : Hid (Calls Tryz.prog 26 #[.agg #[.int .i64 (t.length : Int), .int .u64 (FW t 0 : Int), .int .u64 (FW t 1 : Int), .int .u64 (FW t 2 : Int), .int .u64 (FW t 3 : Int), .int .u64 (OW t 0 : Int), .int .u64 (OW t 1 : Int), .int .u64 (OW t 2 : Int), .int .u64 (OW t 3 : Int)]] W4 fun e w' => e = .returned (.string ⟨t.toArray⟩) ∧ Below W4.heap.size W4 w') := text_any t W4 gt
            clear HX4 kt4 HGT HW4 hwb p0 p1 p2 p3 p4 p5 p6 p7 p8
            go_wp2_with fail
            refine HTx.out.mono ?_
            rintro e W5 ⟨rfl, hb5⟩
            have HW5 : Hid (Calls Tryz.prog 25 #[.pointer (some ⟨W1.heap.size, 0, none⟩), .string ⟨t.toArray⟩] W5 fun e w' => e = .returned (.tuple #[.int .i64 (t.length : Int), .nilIface]) ∧ TXI W1 w' (Y ++ [45] ++ t) ∧ KT W5 w') := (HX4'.out.below hb5).write t (by simp; omega)
            clear hb5 HX4' HTx hcw4
            go_wp2_with fail
            refine HW5.out.mono ?_
            rintro e W6 ⟨rfl, HX6, -⟩
            have HX6' : Hid (TXI W1 W6 (Y1 ++ txL (R.take (j + 1)))) := by unfold Hid; rw [HST.out]; exact HX6
            clear HX6 HW5
            go_wp2_with fail
            go_roundw
            case rel => exact ⟨j + 1, by go_num, by omega, HX6'⟩
            case measure => simp [intOf]; omega
          · have j1 : ¬ (j : Int) < (R.length : Int) := by omega
            have e : R.take j = R := List.take_of_length_le (by omega)
            rw [e] at HY
            have HN : Hid (TXI W1 wr (jn ((Z.take (i + 1)).map txZ))) := by
              unfold Hid
              rw [HSTP.out]
              have h1 := HY.out
              rw [← HYT.out] at h1
              unfold txZ
              simpa using h1
            clear e HY
            go_wp2_with fail
            go_roundw
            case rel => exact ⟨i + 1, by go_num, by omega, HN⟩
            case measure => simp [intOf]; omega
    · have j1 : ¬ (i : Int) < (n : Int) := by omega
      have e : Z.take i = Z := List.take_of_length_le (by rw [HN.out]; omega)
      rw [e] at HX
      clear e
      have HS : Hid (Calls Tryz.prog 27 #[.pointer (some ⟨W1.heap.size, 0, none⟩)] wr fun e w' => e = .returned (.string ⟨(jn (Z.map txZ)).toArray⟩) ∧ Below W1.heap.size wr w') := bstr_any W1.heap.size W1.heap.size _ wr HX.out.1 HX.out.2.2.size
      go_wp2_with fail
      refine HS.out.mono ?_
      rintro e W7 ⟨rfl, hb7⟩
      go_wp2_with fail
      go_ret
      exact ⟨rfl, KW.out.2.trans ((HX.out.2.2.trans hb7).mono KW.out.2.size)⟩
end Go.Proofs.YtcejejiomhhpgaaGreatDoor
