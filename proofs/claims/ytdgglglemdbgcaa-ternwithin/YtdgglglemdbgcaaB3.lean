import Derived.Test.YtdgglglemdbgcaaR5
import Derived.Test.YtdgglglemdbgcaaB1
namespace Go.Proofs.Ytdgglglemdbgcaa
open Go.RowKit

theorem within55 (w : World) : Calls Try.prog 8 #[cubeV (allT 5), cubeV (allT 5)] w fun e w' => e = .returned (.bool true) ∧ Below w.heap.size w w' :=
  within_D (allT 5) (allT 5) true w (good_allT 5) (good_allT 5) (by decide)

set_option maxRecDepth 100000 in
set_option maxHeartbeats 2000000 in
theorem ternWithin_raw (a b : ByteArray) (A B : List UInt8) (q : Bool) (w : World) (ha : a.size ≤ maxLen) (hb : b.size ≤ maxLen) (gA : good A = true) (gB : good B = true)
    (hA0 : cubeT a.data.toList = A) (hB0 : cubeT b.data.toList = B) (hq0 : wiB A B = q) :
    Calls Try.prog 3 #[.string a, .string b] w fun e w' => e = .returned (.bool true) ∧ Below w.heap.size w w' := by
  have hA : Hid (cubeT a.data.toList = A) := hA0
  have hB : Hid (cubeT b.data.toList = B) := hB0
  clear hA0 hB0
  have hq : Hid (wiB A B = q) := hq0
  clear hq0
  have qq : (q == q) = true := by simp
  go_enter Try.func3, Try.ntmps3
  go_wp2_with fail
  refine (made_D a A _ ha hA.out).mono ?_
  rintro e w1 ⟨rfl, hb1⟩
  have B1 := hb1
  unfold cubeV cv
  go_wp2_with fail
  refine (made_D b B _ hb hB.out).mono ?_
  rintro e w2 ⟨rfl, hb2⟩
  have kX : w2.heap[w1.heap.size]? = some (.cells (#[.int .i64 (A.length : Int), .int .u64 (FW A 0 : Int), .int .u64 (FW A 1 : Int), .int .u64 (FW A 2 : Int), .int .u64 (FW A 3 : Int), .int .u64 (OW A 0 : Int), .int .u64 (OW A 1 : Int), .int .u64 (OW A 2 : Int), .int .u64 (OW A 3 : Int)]) 26 (0, 0)) := keepblk hb2 (alloc_get _ _)
  have cX_2 := (cells_block kX).1
  have zX_2 := lt_of_get kX
  have B2 := bel0 (belA B1 _) hb2
  unfold cubeV cv
  go_wp2_with fail
  refine (within_D A B q _ gA gB hq.out).mono ?_
  rintro e w3 ⟨rfl, hb3⟩
  replace kX := keepblk hb3 (allocblk kX _)
  have kY : w3.heap[w2.heap.size]? = some (.cells (#[.int .i64 (B.length : Int), .int .u64 (FW B 0 : Int), .int .u64 (FW B 1 : Int), .int .u64 (FW B 2 : Int), .int .u64 (FW B 3 : Int), .int .u64 (OW B 0 : Int), .int .u64 (OW B 1 : Int), .int .u64 (OW B 2 : Int), .int .u64 (OW B 3 : Int)]) 26 (0, 0)) := keepblk hb3 (alloc_get _ _)
  have cX_3 := (cells_block kX).1
  have zX_3 := lt_of_get kX
  have cY_3 := (cells_block kY).1
  have zY_3 := lt_of_get kY
  have B3 := bel0 (belA B2 _) hb3
  go_wp2_with fail
  refine (refC_S a A _ ha hA.out).mono ?_
  rintro e w' ⟨rfl, rfl⟩
  go_wp2_with fail
  refine (refC_S b B _ hb hB.out).mono ?_
  rintro e w' ⟨rfl, rfl⟩
  go_wp2_with fail
  refine (rWithin_D A B q _ gA gB hq.out).mono ?_
  rintro e w4 ⟨rfl, hb4⟩
  replace kX := keepblk hb4 kX
  replace kY := keepblk hb4 kY
  have cX_4 := (cells_block kX).1
  have zX_4 := lt_of_get kX
  have cY_4 := (cells_block kY).1
  have zY_4 := lt_of_get kY
  have B4 := bel0 (B3) hb4
  go_wp2_with fail
  refine (allV 5 _).mono ?_
  rintro e w5 ⟨rfl, hb5⟩
  replace kX := keepblk hb5 kX
  replace kY := keepblk hb5 kY
  have cX_5 := (cells_block kX).1
  have zX_5 := lt_of_get kX
  have cY_5 := (cells_block kY).1
  have zY_5 := lt_of_get kY
  have B5 := bel0 (B4) hb5
  go_wp2_with fail
  refine (allV 5 _).mono ?_
  rintro e w6 ⟨rfl, hb6⟩
  replace kX := keepblk hb6 kX
  replace kY := keepblk hb6 kY
  have cX_6 := (cells_block kX).1
  have zX_6 := lt_of_get kX
  have cY_6 := (cells_block kY).1
  have zY_6 := lt_of_get kY
  have B6 := bel0 (B5) hb6
  go_wp2_with fail
  refine (within55 _).mono ?_
  rintro e w7 ⟨rfl, hb7⟩
  replace kX := keepblk hb7 kX
  replace kY := keepblk hb7 kY
  have cX_7 := (cells_block kX).1
  have zX_7 := lt_of_get kX
  have cY_7 := (cells_block kY).1
  have zY_7 := lt_of_get kY
  have B7 := bel0 (B6) hb7
  go_wp2_with fail
  go_ret
  exact ⟨rfl, B7⟩

theorem ternWithin_walk (a b : ByteArray) (w : World) (ha : a.size ≤ maxLen) (hb : b.size ≤ maxLen) :
    Calls Try.prog 3 #[.string a, .string b] w fun e w' => e = .returned (.bool true) ∧ Below w.heap.size w w' :=
  ternWithin_raw a b _ _ _ w ha hb (good_cubeT _) (good_cubeT _) rfl rfl rfl
end Go.Proofs.Ytdgglglemdbgcaa
