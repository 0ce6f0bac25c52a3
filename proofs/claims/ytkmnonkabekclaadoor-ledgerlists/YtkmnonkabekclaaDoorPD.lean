import Derived.Test.YtkmnonkabekclaaDoorPC
namespace Go.Proofs.YtkmnonkabekclaaDoor
open Go.RowKit Go.Shelf
set_option maxRecDepth 100000 in
set_option maxHeartbeats 8000000 in
theorem dpack_any (L : List (List UInt8)) (p : Option Addr) (n c : Nat) (w : World) (hn : L.length = n) (hL : n ≤ 281474976710656) (ht : TBL w) (hr : TR w p L) (hx : LB L) :
    Calls Tryd.prog 11 #[.slice p n c] w (PKQ L w) := by
  have HT : Hid (TBL w) := ht
  have HR : Hid (TR w p L) := hr
  have HX : Hid (LB L) := hx
  have HN : Hid (L.length = n) := hn
  clear ht hr hx hn
  go_enter Tryd.func11, Tryd.ntmps11
  go_wp2_with fail
  go_loopw [4, 5] (fun vn vi wr => ∃ i : Nat, vi = .int .i64 i ∧ vn = .int .i64 ((pkT (L.take i)).length : Int) ∧ i ≤ n ∧ Hid (Below w.heap.size w wr) ∧ (pkT (L.take i)).length ≤ 16384) (fun _ vi _ => n - (intOf vi).toNat)
  case atStart => exact ⟨0, rfl, by simp [pkT], Nat.zero_le _, Below.refl _ _, by simp [pkT]⟩
  case round =>
    obtain ⟨i, rfl, rfl, hi, HB, hle⟩ := hrel
    by_cases hlt : i < n
    · obtain ⟨x, hxi⟩ : ∃ x, L[i]? = some x := ⟨_, List.getElem?_eq_getElem (by rw [HN.out]; omega)⟩
      have j1 : (i : Int) < (n : Int) := by omega
      have j0 : (0 : Int) ≤ (i : Int) := by omega
      obtain ⟨g, o, rfl, cx⟩ := HR.out i x hxi
      have HC : Hid (∀ U, Below wr.heap.size wr U → U.cell? ⟨g, o + i, none⟩ = some (.string ⟨x.toArray⟩)) := fun U hU => ((bel0Z HB.out hU).cell (World.block_lt_of_cell? w _ cx)).trans cx
      have hxl := HX.out.at hxi
      obtain ⟨A, hA⟩ : ∃ A, pkT (L.take i) = A := ⟨_, rfl⟩
      have HS : Hid (pkT (L.take (i + 1)) = A ++ pk1 x ∧ (pkT (L.take (i + 1))).length ≤ (pkT L).length) := ⟨by rw [pkT_succ hxi, hA], pkT_le _ _⟩
      have hil := Lib.itoa_length_le (x.length : Int) (by omega) (by omega)
      obtain ⟨T, hT⟩ : ∃ T, itL (x.length : Int) = T := ⟨_, rfl⟩
      have hil' : T.length ≤ 21 := by rw [← hT]; exact hil
      have HI : Hid (∀ U, Below wr.heap.size wr U → Calls Tryd.prog 24 #[.int .i64 (x.length : Int)] U fun e w' => e = .returned (.string ⟨T.toArray⟩) ∧ Below U.heap.size U w') := fun U hU => by
        rw [← hT]
        exact itoaU (x.length : Int) (by omega) (by omega) U (HT.out.below (bel0Z HB.out hU))
      have HPK : Hid (pk1 x = T ++ [58] ++ x) := by rw [← hT]; rfl
      rw [hA] at hle ⊢
      have e1 : IntKind.i64.wrap ((A.length : Int) + (T.length : Int)) = (A.length : Int) + (T.length : Int) := by rw [IntKind.wrap_i64]; omega
      have e2 : IntKind.i64.wrap ((A.length : Int) + (T.length : Int) + 1) = (A.length : Int) + (T.length : Int) + 1 := by rw [IntKind.wrap_i64]; omega
      have e3 : IntKind.i64.wrap ((A.length : Int) + (T.length : Int) + 1 + (x.length : Int)) = (A.length : Int) + (T.length : Int) + 1 + (x.length : Int) := by rw [IntKind.wrap_i64]; omega
      clear hil hA hT hxi cx
      go_wp2_with fail
      refine quiet_lit3 (C := fun U => Below wr.heap.size wr U) (by kernel_rfl) (by kernel_rfl) (show Below _ _ _ from (Below.refl _ _).drew) ?_
      go_big_quiet_want
      go_big_quiet_op
      go_big_quiet_on
      go_big_quiet_want
      go_big_quiet_op
      go_big_quiet_on
      go_big_quiet_want
      go_big_quiet_op
      go_big_quiet_on
      go_big_quiet_want
      refine ⟨.pointer (some ⟨g, o + i, none⟩), fun W hW => ?_, ?_⟩
      · go_simp
      go_big_quiet_on
      simp only [Act.put, List.setIfInBounds_toArray, List.set_cons_zero, List.set_cons_succ]
      go_big_quiet_want
      refine ⟨.string ⟨x.toArray⟩, fun W hW => ?_, ?_⟩
      · have cx := HC.out W hW
        go_simp
      go_big_quiet_on
      simp only [Act.put, List.setIfInBounds_toArray, List.set_cons_zero, List.set_cons_succ]
      go_big_quiet_want
      refine ⟨.int .i64 (x.length : Int), fun W hW => ?_, ?_⟩
      · go_simp
      go_big_quiet_on
      simp only [Act.put, List.setIfInBounds_toArray, List.set_cons_zero, List.set_cons_succ]
      go_big_quiet_want
      refine ⟨.string ⟨T.toArray⟩, fun W hW => ?_, ?_⟩
      · go_simp
        refine (HI.out W hW).mono ?_
        rintro e w7 ⟨rfl, hb⟩
        exact ⟨rfl, bel0Z hW hb⟩
      go_big_quiet_on
      simp only [Act.put, List.setIfInBounds_toArray, List.set_cons_zero, List.set_cons_succ]
      go_big_quiet_want
      refine ⟨.int .i64 (T.length : Int), fun W hW => ?_, ?_⟩
      · go_simp
      go_big_quiet_on
      simp only [Act.put, List.setIfInBounds_toArray, List.set_cons_zero, List.set_cons_succ]
      go_big_quiet_want
      refine ⟨.int .i64 ((A.length : Int) + (T.length : Int)), fun W hW => ?_, ?_⟩
      · go_simp
      go_big_quiet_on
      simp only [Act.put, List.setIfInBounds_toArray, List.set_cons_zero, List.set_cons_succ]
      go_big_quiet_want
      refine ⟨.int .i64 ((A.length : Int) + (T.length : Int) + 1), fun W hW => ?_, ?_⟩
      · go_simp
      go_big_quiet_on
      simp only [Act.put, List.setIfInBounds_toArray, List.set_cons_zero, List.set_cons_succ]
      go_big_quiet_want
      go_big_quiet_op
      go_big_quiet_on
      go_big_quiet_want
      go_big_quiet_op
      go_big_quiet_on
      go_big_quiet_want
      refine ⟨.pointer (some ⟨g, o + i, none⟩), fun W hW => ?_, ?_⟩
      · go_simp
      go_big_quiet_on
      simp only [Act.put, List.setIfInBounds_toArray, List.set_cons_zero, List.set_cons_succ]
      go_big_quiet_want
      refine ⟨.string ⟨x.toArray⟩, fun W hW => ?_, ?_⟩
      · have cx := HC.out W hW
        go_simp
      go_big_quiet_on
      simp only [Act.put, List.setIfInBounds_toArray, List.set_cons_zero, List.set_cons_succ]
      go_big_quiet_want
      refine ⟨.int .i64 (x.length : Int), fun W hW => ?_, ?_⟩
      · go_simp
      go_big_quiet_on
      simp only [Act.put, List.setIfInBounds_toArray, List.set_cons_zero, List.set_cons_succ]
      go_big_quiet_want
      refine ⟨.int .i64 ((A.length : Int) + (T.length : Int) + 1 + (x.length : Int)), fun W hW => ?_, ?_⟩
      · go_simp
      go_big_quiet_on
      simp only [Act.put, List.setIfInBounds_toArray, List.set_cons_zero, List.set_cons_succ]
      go_big_quiet_want
      go_big_quiet_op
      go_big_quiet_on
      refine wpQuiet_nil ?_
      intro W5 hW5
      have HB5 : Hid (Below w.heap.size w W5) := bel0Z HB.out hW5
      clear HC HI hW5 HB
      by_cases hbig : 16384 < A.length + T.length + 1 + x.length
      · have hb' : (16384 : Int) < (A.length : Int) + (T.length : Int) + 1 + (x.length : Int) := by omega
        have HE : Hid (PKQ L w (.returned (.tuple #[.string ⟨#[]⟩, .int .i64 2])) W5) := by
          have h3 : ¬ (pkT L).length ≤ 16384 := by
            have h4 := HS.out.2
            rw [HS.out.1, HPK.out] at h4
            simp only [List.length_append, List.length_cons, List.length_nil] at h4
            omega
          exact ⟨by unfold pkS pkE; rw [if_neg h3, if_neg h3]; rfl, HB5.out⟩
        go_wp2_with fail
        go_ret2
        exact HE.out
      · have hb' : ¬ (16384 : Int) < (A.length : Int) + (T.length : Int) + 1 + (x.length : Int) := by omega
        have hle2 : (pkT (L.take (i + 1))).length = A.length + T.length + 1 + x.length := by rw [HS.out.1, HPK.out]; simp only [List.length_append, List.length_cons, List.length_nil]; omega
        go_wp2_with fail
        exact ⟨⟨i + 1, rfl, by rw [hle2]; simp only [Int.natCast_add, Int.natCast_one], by omega, HB5, by omega⟩, by simp only [intOf]; omega⟩
    · obtain rfl : i = n := by omega
      have HTL : Hid (L.take i = L) := List.take_of_length_le (by rw [HN.out]; exact Nat.le_refl _)
      rw [HTL.out] at hle ⊢
      have HLE : Hid ((pkT L).length ≤ 16384) := hle
      clear hle HTL
      rename World => w9
      go_wp2_with fail
      go_loopw [6, 7] (fun vs vi wr => ∃ i2 : Nat, vi = .int .i64 i2 ∧ vs = .string ⟨(pkT (L.take i2)).toArray⟩ ∧ i2 ≤ i ∧ Hid (Below w.heap.size w wr)) (fun _ vi _ => i - (intOf vi).toNat)
      case atStart => exact ⟨0, rfl, by simp [pkT], Nat.zero_le _, HB⟩
      case round =>
        clear HB hlt hi
        obtain ⟨i2, rfl, rfl, hi, HB⟩ := hrel
        by_cases hlt : i2 < i
        · obtain ⟨x, hxi⟩ : ∃ x, L[i2]? = some x := ⟨_, List.getElem?_eq_getElem (by rw [HN.out]; omega)⟩
          have j1 : (i2 : Int) < (i : Int) := by omega
          have j0 : (0 : Int) ≤ (i2 : Int) := by omega
          obtain ⟨g, o, rfl, cx⟩ := HR.out i2 x hxi
          have HC : Hid (∀ U, Below wr.heap.size wr U → U.cell? ⟨g, o + i2, none⟩ = some (.string ⟨x.toArray⟩)) := fun U hU => ((bel0Z HB.out hU).cell (World.block_lt_of_cell? w _ cx)).trans cx
          have hxl := HX.out.at hxi
          obtain ⟨A, hA⟩ : ∃ A, pkT (L.take i2) = A := ⟨_, rfl⟩
          have HS : Hid (pkT (L.take (i2 + 1)) = A ++ pk1 x ∧ (pkT (L.take (i2 + 1))).length ≤ (pkT L).length) := ⟨by rw [pkT_succ hxi, hA], pkT_le _ _⟩
          have hil := Lib.itoa_length_le (x.length : Int) (by omega) (by omega)
          obtain ⟨T, hT⟩ : ∃ T, itL (x.length : Int) = T := ⟨_, rfl⟩
          have hil' : T.length ≤ 21 := by rw [← hT]; exact hil
          have HI : Hid (∀ U, Below wr.heap.size wr U → Calls Tryd.prog 24 #[.int .i64 (x.length : Int)] U fun e w' => e = .returned (.string ⟨T.toArray⟩) ∧ Below U.heap.size U w') := fun U hU => by
            rw [← hT]
            exact itoaU (x.length : Int) (by omega) (by omega) U (HT.out.below (bel0Z HB.out hU))
          have HPK : Hid (pk1 x = T ++ [58] ++ x) := by rw [← hT]; rfl
          have hAl : A.length + T.length + 1 + x.length ≤ 16384 := by
            have h4 := HS.out.2
            rw [HS.out.1, HPK.out] at h4
            simp only [List.length_append, List.length_cons, List.length_nil] at h4
            have := HLE.out
            omega
          rw [hA]
          have l1 : ¬ 9223372036854775807 < A.length + T.length := by omega
          have l2 : ¬ 9223372036854775807 < A.length + T.length + 1 := by omega
          have l3 : ¬ 9223372036854775807 < A.length + T.length + 1 + x.length := by omega
          have HE3 : Hid ((((⟨A.toArray⟩ : ByteArray) ++ ⟨T.toArray⟩) ++ ⟨#[58]⟩) ++ ⟨x.toArray⟩ = ⟨(pkT (L.take (i2 + 1))).toArray⟩) := by
            rw [HS.out.1, HPK.out, baA' A T, baA' (A ++ T) [58], baA' (A ++ T ++ [58]) x]
            simp only [List.append_assoc]
            exact trivial
          clear hil hA hT hxi cx
          go_wp2_with fail
          refine quiet_lit3 (C := fun U => Below wr.heap.size wr U) (by kernel_rfl) (by kernel_rfl) (show Below _ _ _ from (Below.refl _ _).drew) ?_
          go_big_quiet_want
          go_big_quiet_op
          go_big_quiet_on
          go_big_quiet_want
          go_big_quiet_op
          go_big_quiet_on
          go_big_quiet_want
          go_big_quiet_op
          go_big_quiet_on
          go_big_quiet_want
          refine ⟨.pointer (some ⟨g, o + i2, none⟩), fun W hW => ?_, ?_⟩
          · go_simp
          go_big_quiet_on
          simp only [Act.put, List.setIfInBounds_toArray, List.set_cons_zero, List.set_cons_succ]
          go_big_quiet_want
          refine ⟨.string ⟨x.toArray⟩, fun W hW => ?_, ?_⟩
          · have cx := HC.out W hW
            go_simp
          go_big_quiet_on
          simp only [Act.put, List.setIfInBounds_toArray, List.set_cons_zero, List.set_cons_succ]
          go_big_quiet_want
          refine ⟨.int .i64 (x.length : Int), fun W hW => ?_, ?_⟩
          · go_simp
          go_big_quiet_on
          simp only [Act.put, List.setIfInBounds_toArray, List.set_cons_zero, List.set_cons_succ]
          go_big_quiet_want
          refine ⟨.string ⟨T.toArray⟩, fun W hW => ?_, ?_⟩
          · go_simp
            refine (HI.out W hW).mono ?_
            rintro e w7 ⟨rfl, hb⟩
            exact ⟨rfl, bel0Z hW hb⟩
          go_big_quiet_on
          simp only [Act.put, List.setIfInBounds_toArray, List.set_cons_zero, List.set_cons_succ]
          go_big_quiet_want
          refine ⟨.string ((⟨A.toArray⟩ : ByteArray) ++ ⟨T.toArray⟩), fun W hW => ?_, ?_⟩
          · go_simp
          go_big_quiet_on
          simp only [Act.put, List.setIfInBounds_toArray, List.set_cons_zero, List.set_cons_succ]
          go_big_quiet_want
          refine ⟨.string (((⟨A.toArray⟩ : ByteArray) ++ ⟨T.toArray⟩) ++ ⟨#[58]⟩), fun W hW => ?_, ?_⟩
          · go_simp
          go_big_quiet_on
          simp only [Act.put, List.setIfInBounds_toArray, List.set_cons_zero, List.set_cons_succ]
          go_big_quiet_want
          go_big_quiet_op
          go_big_quiet_on
          go_big_quiet_want
          go_big_quiet_op
          go_big_quiet_on
          go_big_quiet_want
          refine ⟨.pointer (some ⟨g, o + i2, none⟩), fun W hW => ?_, ?_⟩
          · go_simp
          go_big_quiet_on
          simp only [Act.put, List.setIfInBounds_toArray, List.set_cons_zero, List.set_cons_succ]
          go_big_quiet_want
          refine ⟨.string ⟨x.toArray⟩, fun W hW => ?_, ?_⟩
          · have cx := HC.out W hW
            go_simp
          go_big_quiet_on
          simp only [Act.put, List.setIfInBounds_toArray, List.set_cons_zero, List.set_cons_succ]
          go_big_quiet_want
          refine ⟨.string ((((⟨A.toArray⟩ : ByteArray) ++ ⟨T.toArray⟩) ++ ⟨#[58]⟩) ++ ⟨x.toArray⟩), fun W hW => ?_, ?_⟩
          · go_simp
          go_big_quiet_on
          simp only [Act.put, List.setIfInBounds_toArray, List.set_cons_zero, List.set_cons_succ]
          go_big_quiet_want
          go_big_quiet_op
          go_big_quiet_on
          refine wpQuiet_nil ?_
          intro W5 hW5
          have HB5 : Hid (Below w.heap.size w W5) := bel0Z HB.out hW5
          clear HC HI hW5 HB
          rw [HE3.out]
          go_wp2_with fail
          exact ⟨⟨i2 + 1, rfl, rfl, by omega, HB5⟩, by simp only [intOf]; omega⟩
        · obtain rfl : i2 = i := by omega
          have HTL : Hid (L.take i2 = L) := List.take_of_length_le (by rw [HN.out]; exact Nat.le_refl _)
          rw [HTL.out]
          have HE : Hid (∀ w', Below w.heap.size w w' → PKQ L w (.returned (.tuple #[.string ⟨(pkT L).toArray⟩, .int .i64 0])) w') := fun w' h => ⟨by unfold pkS pkE; rw [if_pos HLE.out, if_pos HLE.out]; rfl, h⟩
          clear HTL
          go_wp2_with fail
          go_ret2
          exact HE.out _ HB.out
end Go.Proofs.YtkmnonkabekclaaDoor
