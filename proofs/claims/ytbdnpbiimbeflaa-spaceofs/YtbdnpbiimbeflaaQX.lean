import Derived.Test.YtbdnpbiimbeflaaQW
namespace Go.Proofs.Ytbdnpbiimbeflaa
open Go.RowKit Go.Shelf
def gdO : Option (List UInt8 × List (List UInt8)) → Prop
  | none => True
  | some (c, R) => good c = true ∧ ∀ t ∈ R, good t = true
set_option maxRecDepth 100000 in
theorem sText_none (b : Int) (w : World) : Calls Try.prog 34 #[.agg #[.int .i64 b, .slice none 0 0, .bool false]] w fun e w' => e = .returned (.string ⟨#[110, 111, 110, 101]⟩) ∧ Below w.heap.size w w' := by
  obtain ⟨w2, hw2⟩ : ∃ w2, w.alloc (.cells #[.int .i64 b, .slice none 0 0, .bool false] 34 (0, 0)) = w2 := ⟨_, rfl⟩
  have h0 : w2.heap[w.heap.size]? = some (.cells #[.int .i64 b, .slice none 0 0, .bool false] 34 (0, 0)) := by rw [← hw2]; exact alloc_get _ _
  have hB : Below w.heap.size w w2 := by rw [← hw2]; exact belA (Below.refl _ _) _
  obtain ⟨hc0, -⟩ := cells_block h0
  have HI : Hid (Calls Try.prog 50 #[.agg #[.int .i64 b, .slice none 0 0, .bool false]] w2 fun e w' => e = .returned (.agg #[.int .i64 b, .slice none 0 0, .bool false]) ∧ Below w2.heap.size w2 w') := inForm_any b none 0 0 w2
  clear h0
  have hfl := fld1
  go_enter Try.func34, Try.ntmps34
  go_wp2_with fail
  refine HI.out.mono ?_
  rintro e W1 ⟨rfl, hb1⟩
  go_wp2_with fail
  go_ret
  exact ⟨rfl, bel0 hB hb1⟩
/-- what stands while Text writes -/
def TXI (W1 wr : World) (l : List UInt8) : Prop := Lib.IsBuilder 102 5 W1.heap.size W1.heap.size (Lib.byteCells l) wr ∧ KT W1 wr ∧ Below W1.heap.size W1 wr
theorem TXI.below {W1 wr X : World} {l : List UInt8} (h : TXI W1 wr l) (hb : Below wr.heap.size wr X) : TXI W1 X l := ⟨isB_below h.1 hb, h.2.1.trans (KT_below hb), bel0 h.2.2 hb⟩
theorem TXI.write {W1 wr : World} {l : List UInt8} (h : TXI W1 wr l) (t : List UInt8) (hlen : l.length + t.length ≤ 140737488355328) :
    Calls Try.prog 51 #[.pointer (some ⟨W1.heap.size, 0, none⟩), .string ⟨t.toArray⟩] wr fun e w' => e = .returned (.tuple #[.int .i64 (t.length : Int), .nilIface]) ∧ TXI W1 w' (l ++ t) ∧ KT wr w' := by
  refine (ws_text W1.heap.size W1.heap.size l t wr h.1 hlen h.2.2.size).mono ?_
  rintro e w' ⟨rfl, h1, h2, h3⟩
  exact ⟨rfl, ⟨h1, h.2.1.trans h3, h.2.2.trans h2⟩, h3⟩
set_option maxRecDepth 100000 in
set_option maxHeartbeats 4000000 in
theorem sText_some (b : Int) (V : Value) (c : List UInt8) (R : List (List UInt8)) (B : Nat) (w : World) (h : SPV w B V (some (c, R))) (ho : R.length ≤ 1000000) (gc : good c = true) (gR : ∀ t ∈ R, good t = true) : Calls Try.prog 34 #[.agg #[.int .i64 b, V, .bool false]] w fun e w' => e = .returned (.string ⟨(c ++ txL R).toArray⟩) ∧ Below w.heap.size w w' := by
  obtain ⟨v, o1, o2⟩ := h
  obtain ⟨q, k, rfl⟩ := shapeQ1 o2
  obtain ⟨p, cp, rfl⟩ := shapeQ1 o1
  obtain ⟨w2, hw2⟩ : ∃ w2, w.alloc (.cells #[.int .i64 b, .slice p 1 cp, .bool false] 34 (0, 0)) = w2 := ⟨_, rfl⟩
  have h0 : w2.heap[w.heap.size]? = some (.cells #[.int .i64 b, .slice p 1 cp, .bool false] 34 (0, 0)) := by rw [← hw2]; exact alloc_get _ _
  have hB : Below w.heap.size w w2 := by rw [← hw2]; exact belA (Below.refl _ _) _
  obtain ⟨hc0, -⟩ := cells_block h0
  have HI : Hid (Calls Try.prog 50 #[.agg #[.int .i64 b, .slice p 1 cp, .bool false]] w2 fun e w' => e = .returned (.agg #[.int .i64 b, .slice p 1 cp, .bool false]) ∧ Below w2.heap.size w2 w') := inForm_any b p 1 cp w2
  have HT : Hid (∀ W, KT w W → IRT W p [⟨c, q, R.length, k⟩]) := fun W hW => IRT_one (own_KT o1 hW (by decide) (by decide))
  have HC : Hid (∀ W, KT w W → IRC W q R) := fun W hW => IRC_own (own_KT o2 hW (by decide) (by decide)) rfl
  have HG : Hid (good c = true ∧ ∀ t ∈ R, good t = true) := ⟨gc, gR⟩
  have HLN : Hid (∀ j, (txL (R.take j)).length ≤ 257 * R.length) := fun j => by
    have h1 := txL_len (R := R.take j) (fun t ht => gR t (List.mem_of_mem_take ht))
    have h2 : (R.take j).length ≤ R.length := by rw [List.length_take]; omega
    omega
  have hcl := good_len gc
  clear h0 o1 o2 gc gR
  have hfl := fld1
  go_enter Try.func34, Try.ntmps34
  go_wp2_with fail
  refine HI.out.mono ?_
  rintro e W1 ⟨rfl, hb1⟩
  have KW : Hid (KT w W1 ∧ Below w.heap.size w W1) := ⟨KT_below (bel0 hB hb1), bel0 hB hb1⟩
  have H0 : Hid (TXI W1 (W1.alloc (.cells #[.pointer none, .slice none 0 0] 102 (0, 0))) []) := ⟨.inl ⟨Nat.le_refl _, .slice none 0 0, alloc_get _ _, World.ownsRow_nil _ _ _ _, by simp [Value.ownBlock]⟩, KT_below (belA (Below.refl _ _) _), belA (Below.refl _ _) _⟩
  clear hb1 hB hc0 hw2 HI
  go_wp2_with fail
  go_loopw [17] (fun v17 wr => (v17 = .int .i64 0 ∧ Hid (TXI W1 wr [])) ∨ (v17 = .int .i64 1 ∧ Hid (TXI W1 wr (c ++ txL R)))) (fun v17 _ => 1 - (intOf v17).toNat)
  case atStart => exact .inl ⟨rfl, H0⟩
  case round =>
    clear H0
    obtain ⟨rfl, HX⟩ | ⟨rfl, HX⟩ := hrel
    · obtain ⟨g, o0, rfl, ⟨p0, p1, p2, p3, p4, p5, p6, p7, p8⟩, p9⟩ := HT.out wr (KW.out.1.trans HX.out.2.1) wr (Below.refl _ _) 0 _ rfl
      simp only at p0 p1 p2 p3 p4 p5 p6 p7 p8 p9
      rw [Nat.zero_mul, Nat.add_zero] at p0 p1 p2 p3 p4 p5 p6 p7 p8 p9
      obtain ⟨wa, hwa⟩ : ∃ wa, wr.alloc (.cells #[.int .i64 (c.length : Int), .int .u64 (FW c 0 : Int), .int .u64 (FW c 1 : Int), .int .u64 (FW c 2 : Int), .int .u64 (FW c 3 : Int), .int .u64 (OW c 0 : Int), .int .u64 (OW c 1 : Int), .int .u64 (OW c 2 : Int), .int .u64 (OW c 3 : Int), .slice q R.length k] 54 (0, 0)) = wa := ⟨_, rfl⟩
      have hal : Below wr.heap.size wr wa := by rw [← hwa]; exact belA (Below.refl _ _) _
      have hgt : wa.heap[wr.heap.size]? = some (.cells #[.int .i64 (c.length : Int), .int .u64 (FW c 0 : Int), .int .u64 (FW c 1 : Int), .int .u64 (FW c 2 : Int), .int .u64 (FW c 3 : Int), .int .u64 (OW c 0 : Int), .int .u64 (OW c 1 : Int), .int .u64 (OW c 2 : Int), .int .u64 (OW c 3 : Int), .slice q R.length k] 54 (0, 0)) := by rw [← hwa]; exact alloc_get _ _
      have hcw := (cells_block hgt).1
      have HGT : Hid (wa.heap[wr.heap.size]? = some (.cells #[.int .i64 (c.length : Int), .int .u64 (FW c 0 : Int), .int .u64 (FW c 1 : Int), .int .u64 (FW c 2 : Int), .int .u64 (FW c 3 : Int), .int .u64 (OW c 0 : Int), .int .u64 (OW c 1 : Int), .int .u64 (OW c 2 : Int), .int .u64 (OW c 3 : Int), .slice q R.length k] 54 (0, 0))) := hgt
      have HXa : Hid (TXI W1 wa []) := HX.out.below hal
      have HTx : Hid (Calls Try.prog 28 #[.agg #[.int .i64 (c.length : Int), .int .u64 (FW c 0 : Int), .int .u64 (FW c 1 : Int), .int .u64 (FW c 2 : Int), .int .u64 (FW c 3 : Int), .int .u64 (OW c 0 : Int), .int .u64 (OW c 1 : Int), .int .u64 (OW c 2 : Int), .int .u64 (OW c 3 : Int)]] wa fun e w' => e = .returned (.string ⟨c.toArray⟩) ∧ Below wa.heap.size wa w') := text_any c wa HG.out.1
      clear hgt HX hal
      go_wp2_with fail
      refine HTx.out.mono ?_
      rintro e W2 ⟨rfl, hb2⟩
      have HX2 := HXa.out.below hb2
      have HW2 : Hid (Calls Try.prog 51 #[.pointer (some ⟨W1.heap.size, 0, none⟩), .string ⟨c.toArray⟩] W2 fun e w' => e = .returned (.tuple #[.int .i64 (c.length : Int), .nilIface]) ∧ TXI W1 w' ([] ++ c) ∧ KT W2 w') := HX2.write c (by simp; omega)
      have hg2 := keepblk3 hb2 HGT.out
      have HG2 : Hid (W2.heap[wr.heap.size]? = some (.cells #[.int .i64 (c.length : Int), .int .u64 (FW c 0 : Int), .int .u64 (FW c 1 : Int), .int .u64 (FW c 2 : Int), .int .u64 (FW c 3 : Int), .int .u64 (OW c 0 : Int), .int .u64 (OW c 1 : Int), .int .u64 (OW c 2 : Int), .int .u64 (OW c 3 : Int), .slice q R.length k] 54 (0, 0))) := hg2
      clear hg2 HX2 hb2 hcw HTx HXa hwa p0 p1 p2 p3 p4 p5 p6 p7 p8 p9
      go_wp2_with fail
      refine HW2.out.mono ?_
      rintro e W3 ⟨rfl, HX3, kt3⟩
      have hcw3 := (cells_block (kt3 _ _ _ _ HG2.out (by decide) (by decide))).1
      have H3 : Hid (TXI W1 W3 (c ++ txL (R.take 0))) := by unfold Hid; rw [List.nil_append] at HX3; simpa [txL] using HX3
      clear HX3 kt3 HW2 HG2 HGT
      go_wp2_with fail
      go_loopw [32] (fun v32 ws => ∃ j : Nat, v32 = .int .i64 j ∧ j ≤ R.length ∧ Hid (TXI W1 ws (c ++ txL (R.take j)))) (fun v32 _ => R.length - (intOf v32).toNat)
      case atStart => exact ⟨0, rfl, Nat.zero_le _, H3⟩
      case round =>
        clear H3 hcw3
        obtain ⟨j, rfl, hj, HY⟩ := hrel
        by_cases hlt : j < R.length
        · have j1 : (j : Int) < (R.length : Int) := by omega
          have j0 : (0 : Int) ≤ (j : Int) := by omega
          obtain ⟨t, ht⟩ : ∃ t, R[j]? = some t := ⟨_, List.getElem?_eq_getElem hlt⟩
          have hir := HC.out _ (KW.out.1.trans HY.out.2.1)
          obtain ⟨g2, o2, rfl, p0, p1, p2, p3, p4, p5, p6, p7, p8⟩ := hir _ (Below.refl _ _) j t ht
          have gt := HG.out.2 t (List.mem_of_getElem? ht)
          have htl := good_len gt
          have HST : Hid (c ++ txL (R.take (j + 1)) = c ++ txL (R.take j) ++ [45] ++ t) := by unfold Hid; rw [txL_step ht]; simp
          have hln := HLN.out j
          obtain ⟨Y, hY⟩ : ∃ Y, c ++ txL (R.take j) = Y := ⟨_, rfl⟩
          have hYl : Y.length ≤ 256 + 257 * 1000000 := by rw [← hY, List.length_append]; omega
          rw [hY] at HST HY
          clear hir ht hY
          obtain ⟨wb, hwb⟩ : ∃ wb, World.alloc wr (.cells #[.int .i64 (t.length : Int), .int .u64 (FW t 0 : Int), .int .u64 (FW t 1 : Int), .int .u64 (FW t 2 : Int), .int .u64 (FW t 3 : Int), .int .u64 (OW t 0 : Int), .int .u64 (OW t 1 : Int), .int .u64 (OW t 2 : Int), .int .u64 (OW t 3 : Int)] 28 (0, 0)) = wb := ⟨_, rfl⟩
          have hal : Below (World.heap wr).size wr wb := by rw [← hwb]; exact belA (Below.refl _ _) _
          have hgt : wb.heap[(World.heap wr).size]? = some (.cells #[.int .i64 (t.length : Int), .int .u64 (FW t 0 : Int), .int .u64 (FW t 1 : Int), .int .u64 (FW t 2 : Int), .int .u64 (FW t 3 : Int), .int .u64 (OW t 0 : Int), .int .u64 (OW t 1 : Int), .int .u64 (OW t 2 : Int), .int .u64 (OW t 3 : Int)] 28 (0, 0)) := by rw [← hwb]; exact alloc_get _ _
          have HGT : Hid (wb.heap[(World.heap wr).size]? = some (.cells #[.int .i64 (t.length : Int), .int .u64 (FW t 0 : Int), .int .u64 (FW t 1 : Int), .int .u64 (FW t 2 : Int), .int .u64 (FW t 3 : Int), .int .u64 (OW t 0 : Int), .int .u64 (OW t 1 : Int), .int .u64 (OW t 2 : Int), .int .u64 (OW t 3 : Int)] 28 (0, 0))) := hgt
          have HW4 : Hid (Calls Try.prog 51 #[.pointer (some ⟨W1.heap.size, 0, none⟩), .string ⟨#[45]⟩] wb fun e w' => e = .returned (.tuple #[.int .i64 1, .nilIface]) ∧ TXI W1 w' (Y ++ [45]) ∧ KT wb w') := (HY.out.below hal).write [45] (by simp; omega)
          clear hgt hal HY
          go_wp2_with fail
          refine HW4.out.mono ?_
          rintro e W4 ⟨rfl, HX4, kt4⟩
          have hcw4 := (cells_block (kt4 _ _ _ _ HGT.out (by decide) (by decide))).1
          have HX4' : Hid (TXI W1 W4 (Y ++ [45])) := HX4
          have HTx : Hid (Calls Try.prog 28 #[.agg #[.int .i64 (t.length : Int), .int .u64 (FW t 0 : Int), .int .u64 (FW t 1 : Int), .int .u64 (FW t 2 : Int), .int .u64 (FW t 3 : Int), .int .u64 (OW t 0 : Int), .int .u64 (OW t 1 : Int), .int .u64 (OW t 2 : Int), .int .u64 (OW t 3 : Int)]] W4 fun e w' => e = .returned (.string ⟨t.toArray⟩) ∧ Below W4.heap.size W4 w') := text_any t W4 gt
          clear HX4 kt4 HGT HW4 hwb p0 p1 p2 p3 p4 p5 p6 p7 p8
          go_wp2_with fail
          refine HTx.out.mono ?_
          rintro e W5 ⟨rfl, hb5⟩
          have HW5 : Hid (Calls Try.prog 51 #[.pointer (some ⟨W1.heap.size, 0, none⟩), .string ⟨t.toArray⟩] W5 fun e w' => e = .returned (.tuple #[.int .i64 (t.length : Int), .nilIface]) ∧ TXI W1 w' (Y ++ [45] ++ t) ∧ KT W5 w') := (HX4'.out.below hb5).write t (by simp; omega)
          clear hb5 HX4' HTx hcw4
          go_wp2_with fail
          refine HW5.out.mono ?_
          rintro e W6 ⟨rfl, HX6, -⟩
          have HX6' : Hid (TXI W1 W6 (c ++ txL (R.take (j + 1)))) := by unfold Hid; rw [HST.out]; exact HX6
          clear HX6 HW5
          go_wp2_with fail
          go_roundw
          case rel => exact ⟨j + 1, by go_num, by omega, HX6'⟩
          case measure => simp [intOf]; omega
        · have j1 : ¬ (j : Int) < (R.length : Int) := by omega
          have e : R.take j = R := List.take_of_length_le (by omega)
          rw [e] at HY
          clear e
          go_wp2_with fail
          go_roundw
          case rel => exact .inr ⟨by go_num, HY⟩
          case measure => simp [intOf]
    · have HS : Hid (Calls Try.prog 52 #[.pointer (some ⟨W1.heap.size, 0, none⟩)] wr fun e w' => e = .returned (.string ⟨(c ++ txL R).toArray⟩) ∧ Below W1.heap.size wr w') := bstr_any W1.heap.size W1.heap.size _ wr HX.out.1 HX.out.2.2.size
      go_wp2_with fail
      refine HS.out.mono ?_
      rintro e W7 ⟨rfl, hb7⟩
      go_wp2_with fail
      go_ret
      exact ⟨rfl, KW.out.2.trans ((HX.out.2.2.trans hb7).mono KW.out.2.size)⟩
theorem sText_any (b : Int) (V : Value) (o : Option (List UInt8 × List (List UInt8))) (B : Nat) (w : World) (h : SPV w B V o) (ho : szO o ≤ 1000000) (hg : gdO o) : Calls Try.prog 34 #[.agg #[.int .i64 b, V, .bool false]] w fun e w' => e = .returned (.string ⟨(txO o).toArray⟩) ∧ Below w.heap.size w w' := by
  match o, h, hg with
  | none, h, _ =>
    obtain rfl : V = .slice none 0 0 := h
    exact sText_none b w
  | some (c, R), h, hg =>
    have ho' : 1 + R.length ≤ 1000000 := ho
    exact sText_some b V c R B w h (by omega) hg.1 hg.2
end Go.Proofs.Ytbdnpbiimbeflaa
