import Derived.Test.YtmblloddhpcdeabR3
import Derived.Test.YtmblloddhpcdeabW15
import Derived.Test.YtmblloddhpcdeabB1
namespace Go.Proofs.Ytmblloddhpcdeab
open Go.RowKit

theorem write22 (w : World) : Calls Try.prog 22 #[cubeV (allT 2), cubeV (allT 2)] w fun e w' => e = .returned (cubeV (allT 2)) ∧ Below w.heap.size w w' :=
  write_D (allT 2) (allT 2) (allT 2) w (by decide)
theorem isX2 (w : World) : Calls Try.prog 21 #[cubeV (allT 2), .string ⟨#[120, 120]⟩] w fun e w' => e = .returned (.bool true) ∧ Below w.heap.size w w' :=
  is_self (allT 2) w (good_allT 2)

set_option maxRecDepth 100000 in
set_option maxHeartbeats 2000000 in
theorem ternWrites_raw (a b : ByteArray) (A B : List UInt8) (M : List UInt8) (w : World) (ha : a.size ≤ maxLen) (hb : b.size ≤ maxLen) (gA : good A = true) (gB : good B = true)
    (hA0 : cubeT a.data.toList = A) (hB0 : cubeT b.data.toList = B) (gM : good M = true) (hM0 : wtT A B = M) :
    Calls Try.prog 5 #[.string a, .string b] w fun e w' => e = .returned (.bool true) ∧ Below w.heap.size w w' := by
  have hA : Hid (cubeT a.data.toList = A) := hA0
  have hB : Hid (cubeT b.data.toList = B) := hB0
  clear hA0 hB0
  have hM : Hid (wtT A B = M) := hM0
  clear hM0
  go_enter Try.func5, Try.ntmps5
  go_wp2_with fail
  refine (made_D a A _ ha hA.out).mono ?_
  rintro e w1 ⟨rfl, hb1⟩
  have B1 := hb1
  unfold cubeV cv
  go_wp2_with fail
  refine (made_D b B _ hb hB.out).mono ?_
  rintro e w2 ⟨rfl, hb2⟩
  have kX : w2.heap[w1.heap.size]? = some (.cells (#[.int .i64 (A.length : Int), .int .u64 (FW A 0 : Int), .int .u64 (FW A 1 : Int), .int .u64 (FW A 2 : Int), .int .u64 (FW A 3 : Int), .int .u64 (OW A 0 : Int), .int .u64 (OW A 1 : Int), .int .u64 (OW A 2 : Int), .int .u64 (OW A 3 : Int)]) 26 (0, 0)) := keepblk hb2 (alloc_get _ _)
  have cX_2 := (cells_block kX).1
  have zX_2 := lt_of_get kX
  have B2 := bel0 (belA B1 _) hb2
  unfold cubeV cv
  go_wp2_with fail
  refine (write_D A B M _ hM.out).mono ?_
  rintro e w3 ⟨rfl, hb3⟩
  replace kX := keepblk hb3 (allocblk kX _)
  have kY : w3.heap[w2.heap.size]? = some (.cells (#[.int .i64 (B.length : Int), .int .u64 (FW B 0 : Int), .int .u64 (FW B 1 : Int), .int .u64 (FW B 2 : Int), .int .u64 (FW B 3 : Int), .int .u64 (OW B 0 : Int), .int .u64 (OW B 1 : Int), .int .u64 (OW B 2 : Int), .int .u64 (OW B 3 : Int)]) 26 (0, 0)) := keepblk hb3 (alloc_get _ _)
  have cX_3 := (cells_block kX).1
  have zX_3 := lt_of_get kX
  have cY_3 := (cells_block kY).1
  have zY_3 := lt_of_get kY
  have B3 := bel0 (belA B2 _) hb3
  go_wp2_with fail
  refine (refC_S a A _ ha hA.out).mono ?_
  rintro e w' ⟨rfl, rfl⟩
  go_wp2_with fail
  refine (refC_S b B _ hb hB.out).mono ?_
  rintro e w' ⟨rfl, rfl⟩
  go_wp2_with fail
  refine (rWrite_D A B M _ gA gB hM.out).mono ?_
  rintro e w4 ⟨rfl, hb4⟩
  replace kX := keepblk hb4 kX
  replace kY := keepblk hb4 kY
  have cX_4 := (cells_block kX).1
  have zX_4 := lt_of_get kX
  have cY_4 := (cells_block kY).1
  have zY_4 := lt_of_get kY
  have B4 := bel0 (B3) hb4
  go_wp2_with fail
  refine (is_self M _ gM).mono ?_
  rintro e w5 ⟨rfl, hb5⟩
  replace kX := keepblk hb5 kX
  replace kY := keepblk hb5 kY
  have cX_5 := (cells_block kX).1
  have zX_5 := lt_of_get kX
  have cY_5 := (cells_block kY).1
  have zY_5 := lt_of_get kY
  have B5 := bel0 (B4) hb5
  go_wp2_with fail
  refine (allV 2 _).mono ?_
  rintro e w6 ⟨rfl, hb6⟩
  replace kX := keepblk hb6 kX
  replace kY := keepblk hb6 kY
  have cX_6 := (cells_block kX).1
  have zX_6 := lt_of_get kX
  have cY_6 := (cells_block kY).1
  have zY_6 := lt_of_get kY
  have B6 := bel0 (B5) hb6
  go_wp2_with fail
  refine (allV 2 _).mono ?_
  rintro e w7 ⟨rfl, hb7⟩
  replace kX := keepblk hb7 kX
  replace kY := keepblk hb7 kY
  have cX_7 := (cells_block kX).1
  have zX_7 := lt_of_get kX
  have cY_7 := (cells_block kY).1
  have zY_7 := lt_of_get kY
  have B7 := bel0 (B6) hb7
  go_wp2_with fail
  refine (write22 _).mono ?_
  rintro e w8 ⟨rfl, hb8⟩
  replace kX := keepblk hb8 kX
  replace kY := keepblk hb8 kY
  have cX_8 := (cells_block kX).1
  have zX_8 := lt_of_get kX
  have cY_8 := (cells_block kY).1
  have zY_8 := lt_of_get kY
  have B8 := bel0 (B7) hb8
  go_wp2_with fail
  refine (isX2 _).mono ?_
  rintro e w9 ⟨rfl, hb9⟩
  replace kX := keepblk hb9 kX
  replace kY := keepblk hb9 kY
  have cX_9 := (cells_block kX).1
  have zX_9 := lt_of_get kX
  have cY_9 := (cells_block kY).1
  have zY_9 := lt_of_get kY
  have B9 := bel0 (B8) hb9
  go_wp2_with fail
  go_ret
  exact ⟨rfl, B9⟩

theorem ternWrites_walk (a b : ByteArray) (w : World) (ha : a.size ≤ maxLen) (hb : b.size ≤ maxLen) :
    Calls Try.prog 5 #[.string a, .string b] w fun e w' => e = .returned (.bool true) ∧ Below w.heap.size w w' :=
  ternWrites_raw a b _ _ _ w ha hb (good_cubeT _) (good_cubeT _) rfl rfl (good_wtT _ _ (good_cubeT _) (good_cubeT _)) rfl
end Go.Proofs.Ytmblloddhpcdeab
