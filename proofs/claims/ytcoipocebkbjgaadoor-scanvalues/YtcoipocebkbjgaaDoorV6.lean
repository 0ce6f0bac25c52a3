import Derived.Test.YtcoipocebkbjgaaDoorV5
namespace Go.Proofs.YtcoipocebkbjgaaDoor
open Go.RowKit
def quadK : Nat → Nat → List UInt8 → Option Nat
  | 0, n, l => match decN l 255 with
    | some v => some (256 * n + v)
    | none => none
  | k + 1, n, l => if Lib.indexByte l 46 < 0 then none else match decN (l.take (Lib.indexByte l 46).toNat) 255 with
    | some v => quadK k (256 * n + v) (l.drop ((Lib.indexByte l 46).toNat + 1))
    | none => none
theorem decN_le {l : List UInt8} {t v : Nat} (h : decN l t = some v) : v ≤ t := by
  unfold decN at h
  split at h
  · rename_i hc; obtain rfl := Option.some.inj h; exact hc.2.2.2.2
  · cases h
theorem idx_lt (l : List UInt8) (c : UInt8) : Lib.indexByte l c < l.length := by
  rcases Int.lt_or_le (Lib.indexByte l c) 0 with hi | hi
  · omega
  · obtain ⟨o, ho⟩ : ∃ o : Nat, Lib.indexByte l c = o := ⟨(Lib.indexByte l c).toNat, by omega⟩
    have := (List.getElem?_eq_some_iff.1 (Lib.indexByte_some ho).1).1
    omega
theorem ext_take (l : List UInt8) (i : Nat) : (ByteArray.mk l.toArray).extract 0 i = ⟨(l.take i).toArray⟩ := ByteArray.ext (by simp)
theorem ext_drop (l : List UInt8) (i : Nat) : (ByteArray.mk l.toArray).extract i l.length = ⟨(l.drop i).toArray⟩ := ByteArray.ext (by simp; exact List.take_of_length_le (by simp))
set_option maxRecDepth 100000 in
theorem refQuad_any (l : List UInt8) (w : World) (hs : l.length ≤ 16384) :
    Calls Tryd.prog 51 #[.string ⟨l.toArray⟩] w fun e w' => e = .returned (.int .i64 (optI (quadK 3 0 l))) ∧ Below w.heap.size w w' := by
  go_enter Tryd.func51, Tryd.ntmps51
  go_wp2_with fail
  go_loopw [0, 3, 4] (fun s n k wr => ∃ (l' : List UInt8) (m j : Nat), s = .string ⟨l'.toArray⟩ ∧ n = .int .i64 m ∧ k = .int .i64 j ∧ j ≤ 4 ∧ l'.length ≤ 16384 ∧ m < 256 ^ j ∧ (j < 4 → quadK (3 - j) m l' = quadK 3 0 l) ∧ (j = 4 → quadK 3 0 l = some m) ∧ Below w.heap.size w wr) (fun _ _ k _ => 4 - (intOf k).toNat)
  case atStart => exact ⟨l, 0, 0, rfl, rfl, rfl, by omega, hs, by decide, fun _ => rfl, fun h => by omega, Below.refl _ _⟩
  case round =>
    obtain ⟨l', m, j, rfl, rfl, rfl, hj, hs', hm, hq1, hq2, hB⟩ := hrel
    have hm2 : j ≤ 3 → m < 16777216 := fun h => Nat.lt_of_lt_of_le hm (Nat.pow_le_pow_right (j := 3) (show 256 > 0 by decide) h)
    by_cases h4 : j < 4
    · have hm3 := hm2 (by omega)
      have i4 : (j : Int) < 4 := by omega
      have hq := hq1 h4
      clear hq1 hq2
      have HD := dot_any l' wr hs'
      obtain ⟨di, hdi⟩ : ∃ di, Lib.indexByte l' 46 = di := ⟨_, rfl⟩
      have hd1 : -1 ≤ di := by rw [← hdi]; exact Lib.indexByte_ge _ _
      have hd2 : di < l'.length := by rw [← hdi]; exact idx_lt _ _
      rw [hdi] at HD
      by_cases h3 : j < 3
      · have i3 : (j : Int) < 3 := by omega
        obtain ⟨r, hr⟩ : ∃ r, 3 - j = r + 1 := ⟨2 - j, by omega⟩
        rw [hr] at hq
        by_cases hneg : di < 0
        · have HQ : Hid (quadK 3 0 l = none) := by unfold Hid; rw [← hq, quadK, hdi, if_pos hneg]
          clear hq hdi
          go_wp2_with fail
          refine HD.mono ?_
          rintro e w1 ⟨rfl, hb1⟩
          go_wp2_with fail
          go_ret
          exact ⟨by rw [HQ.out]; rfl, bel0 hB hb1⟩
        · obtain ⟨i, rfl⟩ : ∃ i : Nat, di = i := ⟨di.toNat, by omega⟩
          have hnn : ¬ (i : Int) < 0 := by omega
          have hE1 : (ByteArray.mk l'.toArray).extract 0 i = ⟨(l'.take i).toArray⟩ := ext_take l' i
          have hE2 : (ByteArray.mk l'.toArray).extract (i + 1) l'.length = ⟨(l'.drop (i + 1)).toArray⟩ := ext_drop l' (i + 1)
          go_wp2_with fail
          refine HD.mono ?_
          rintro e w1 ⟨rfl, hb1⟩
          go_wp2_with fail
          refine (refDecimal_any _ 255 w1 (by simp; omega)).mono ?_
          rintro e w2 ⟨rfl, hb2⟩
          cases hD : decN (l'.take i) 255 with
          | none =>
            have HQ : Hid (quadK 3 0 l = none) := by unfold Hid; rw [← hq, quadK, hdi, if_neg (show ¬ (i : Int) < 0 by omega), show ((i : Int)).toNat = i from Int.toNat_natCast i, hD]
            clear hq hdi
            simp only [optI]
            go_wp2_with fail
            go_ret
            exact ⟨by rw [HQ.out]; rfl, bel0 hB (bel0 hb1 hb2)⟩
          | some v =>
            have hv := decN_le hD
            simp only [optI]
            have hvv : ¬ (v : Int) < 0 := by omega
            have hwr : IntKind.i64.wrap (256 * (m : Int)) = 256 * (m : Int) := by rw [IntKind.wrap_i64]; omega
            have hwr2 : IntKind.i64.wrap (256 * (m : Int) + (v : Int)) = 256 * (m : Int) + (v : Int) := by rw [IntKind.wrap_i64]; omega
            have HM : Hid (256 * m + v < 256 ^ (j + 1)) := by unfold Hid; rw [Nat.pow_succ]; omega
            have HQ1 : Hid (j + 1 < 4 → quadK (3 - (j + 1)) (256 * m + v) (l'.drop (i + 1)) = quadK 3 0 l) := by
              unfold Hid
              intro _
              rw [show 3 - (j + 1) = r by omega, ← hq, quadK, hdi, if_neg (show ¬ (i : Int) < 0 by omega), show ((i : Int)).toNat = i from Int.toNat_natCast i, hD]
            have HQ2 : Hid (j + 1 = 4 → quadK 3 0 l = some (256 * m + v)) := by unfold Hid; intro h; omega
            clear hq hdi hD
            go_wp2_with fail
            go_roundw
            case rel => exact ⟨_, 256 * m + v, j + 1, rfl, by go_num, by go_num, by omega, by simp; omega, HM.out, HQ1.out, HQ2.out, bel0 hB (bel0 hb1 hb2)⟩
            case measure => simp [intOf]; omega
      · have i3 : ¬ (j : Int) < 3 := by omega
        obtain rfl : j = 3 := by omega
        go_wp2_with fail
        refine HD.mono ?_
        rintro e w1 ⟨rfl, hb1⟩
        go_wp2_with fail
        refine (refDecimal_any _ 255 w1 hs').mono ?_
        rintro e w2 ⟨rfl, hb2⟩
        cases hD : decN (l') 255 with
        | none =>
          have HQ : Hid (quadK 3 0 l = none) := by unfold Hid; rw [← hq, quadK, hD]
          clear hq hdi
          simp only [optI]
          go_wp2_with fail
          go_ret
          exact ⟨by rw [HQ.out]; rfl, bel0 hB (bel0 hb1 hb2)⟩
        | some v =>
          have hv := decN_le hD
          simp only [optI]
          have hvv : ¬ (v : Int) < 0 := by omega
          have hwr : IntKind.i64.wrap (256 * (m : Int)) = 256 * (m : Int) := by rw [IntKind.wrap_i64]; omega
          have hwr2 : IntKind.i64.wrap (256 * (m : Int) + (v : Int)) = 256 * (m : Int) + (v : Int) := by rw [IntKind.wrap_i64]; omega
          have HM : Hid (256 * m + v < 256 ^ (3 + 1)) := by unfold Hid; rw [Nat.pow_succ]; omega
          have HQ1 : Hid (3 + 1 < 4 → quadK (3 - (3 + 1)) (256 * m + v) l' = quadK 3 0 l) := by unfold Hid; intro h; omega
          have HQ2 : Hid (3 + 1 = 4 → quadK 3 0 l = some (256 * m + v)) := by unfold Hid; intro _; rw [← hq, quadK, hD]
          clear hq hdi hD
          go_wp2_with fail
          go_roundw
          case rel => exact ⟨_, 256 * m + v, 3 + 1, rfl, by go_num, by go_num, by omega, hs', HM.out, HQ1.out, HQ2.out, bel0 hB (bel0 hb1 hb2)⟩
          case measure => simp [intOf]
    · have i4 : ¬ (j : Int) < 4 := by omega
      have HQ : Hid (quadK 3 0 l = some m) := hq2 (by omega)
      clear hq1 hq2
      go_wp2_with fail
      go_ret
      exact ⟨by rw [HQ.out]; rfl, hB⟩
end Go.Proofs.YtcoipocebkbjgaaDoor
