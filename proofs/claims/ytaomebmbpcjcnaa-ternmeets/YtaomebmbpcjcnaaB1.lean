import Derived.Test.YtaomebmbpcjcnaaR2
import Derived.Test.YtaomebmbpcjcnaaW8
namespace Go.Proofs.Ytaomebmbpcjcnaa
open Go.RowKit

theorem refC_S (s : ByteArray) (D : List UInt8) (w : World) (hs : s.size ≤ maxLen) (h : cubeT s.data.toList = D) :
    Calls Try.prog 11 #[.string s] w fun e w' => e = .returned (.string ⟨D.toArray⟩) ∧ w = w' := (refC_D s D w hs h).mono (fun _ _ h => ⟨h.1, h.2.symm⟩)
theorem is_self (a : List UInt8) (w : World) (ha : good a = true) :
    Calls Try.prog 13 #[cubeV a, .string ⟨a.toArray⟩] w fun e w' => e = .returned (.bool true) ∧ Below w.heap.size w w' := by
  have h := is_list a a w ha (good_len ha)
  rw [show (a == a) = true by simp] at h
  exact h

theorem meet33 (X : List UInt8) (w : World) (h : allT 3 = X) : Calls Try.prog 9 #[cubeV (allT 3), cubeV (allT 3)] w fun e w' => e = .returned (.tuple #[cubeV X, .bool true]) ∧ Below w.heap.size w w' :=
  meet_D (allT 3) (allT 3) X true w (good_allT 3) (by rw [← h]; decide) (by decide)
theorem isX3 (X : List UInt8) (w : World) (h : allT 3 = X) : Calls Try.prog 13 #[cubeV X, .string ⟨#[120, 120, 120]⟩] w fun e w' => e = .returned (.bool true) ∧ Below w.heap.size w w' := by
  subst h; exact is_self (allT 3) w (good_allT 3)

set_option maxRecDepth 100000 in
set_option maxHeartbeats 2000000 in
theorem ternMeets_raw (a b : ByteArray) (A B : List UInt8) (M X3 : List UInt8) (q : Bool) (w : World) (ha : a.size ≤ maxLen) (hb : b.size ≤ maxLen) (gA : good A = true) (gB : good B = true)
    (hA0 : cubeT a.data.toList = A) (hB0 : cubeT b.data.toList = B) (gM : good M = true) (hM0 : mtT A B = M) (hq0 : agB A B = q) (hX30 : allT 3 = X3) :
    Calls Try.prog 3 #[.string a, .string b] w fun e w' => e = .returned (.bool true) ∧ Below w.heap.size w w' := by
  have hA : Hid (cubeT a.data.toList = A) := hA0
  have hB : Hid (cubeT b.data.toList = B) := hB0
  clear hA0 hB0
  have hM : Hid (mtT A B = M) := hM0
  have hq : Hid (agB A B = q) := hq0
  have hX3 : Hid (allT 3 = X3) := hX30
  clear hM0 hq0 hX30
  have qq : (q == q) = true := by simp
  go_enter Try.func3, Try.ntmps3
  go_wp2_with fail
  refine (made_D a A _ ha hA.out).mono ?_
  rintro e w1 ⟨rfl, hb1⟩
  have B1 := hb1
  unfold cubeV cv
  go_wp2_with fail
  refine (made_D b B _ hb hB.out).mono ?_
  rintro e w2 ⟨rfl, hb2⟩
  have kX : w2.heap[w1.heap.size]? = some (.cells (#[.int .i64 (A.length : Int), .int .u64 (FW A 0 : Int), .int .u64 (FW A 1 : Int), .int .u64 (FW A 2 : Int), .int .u64 (FW A 3 : Int), .int .u64 (OW A 0 : Int), .int .u64 (OW A 1 : Int), .int .u64 (OW A 2 : Int), .int .u64 (OW A 3 : Int)]) 26 (0, 0)) := keepblk hb2 (alloc_get _ _)
  have cX_2 := (cells_block kX).1
  have zX_2 := lt_of_get kX
  have B2 := bel0 (belA B1 _) hb2
  unfold cubeV cv
  go_wp2_with fail
  refine (meet_D A B M q _ gA hM.out hq.out).mono ?_
  rintro e w3 ⟨rfl, hb3⟩
  replace kX := keepblk hb3 (allocblk kX _)
  have kY : w3.heap[w2.heap.size]? = some (.cells (#[.int .i64 (B.length : Int), .int .u64 (FW B 0 : Int), .int .u64 (FW B 1 : Int), .int .u64 (FW B 2 : Int), .int .u64 (FW B 3 : Int), .int .u64 (OW B 0 : Int), .int .u64 (OW B 1 : Int), .int .u64 (OW B 2 : Int), .int .u64 (OW B 3 : Int)]) 26 (0, 0)) := keepblk hb3 (alloc_get _ _)
  have cX_3 := (cells_block kX).1
  have zX_3 := lt_of_get kX
  have cY_3 := (cells_block kY).1
  have zY_3 := lt_of_get kY
  have B3 := bel0 (belA B2 _) hb3
  unfold cubeV cv
  go_wp2_with fail
  refine (refC_S a A _ ha hA.out).mono ?_
  rintro e w' ⟨rfl, rfl⟩
  go_wp2_with fail
  refine (refC_S b B _ hb hB.out).mono ?_
  rintro e w' ⟨rfl, rfl⟩
  go_wp2_with fail
  refine (rMeet_D A B M q _ gA gB hM.out hq.out).mono ?_
  rintro e w4 ⟨rfl, hb4⟩
  replace kX := keepblk hb4 (allocblk kX _)
  replace kY := keepblk hb4 (allocblk kY _)
  have kM : w4.heap[w3.heap.size]? = some (.cells (#[.int .i64 (M.length : Int), .int .u64 (FW M 0 : Int), .int .u64 (FW M 1 : Int), .int .u64 (FW M 2 : Int), .int .u64 (FW M 3 : Int), .int .u64 (OW M 0 : Int), .int .u64 (OW M 1 : Int), .int .u64 (OW M 2 : Int), .int .u64 (OW M 3 : Int)]) 26 (0, 0)) := keepblk hb4 (alloc_get _ _)
  have cX_4 := (cells_block kX).1
  have zX_4 := lt_of_get kX
  have cY_4 := (cells_block kY).1
  have zY_4 := lt_of_get kY
  have cM_4 := (cells_block kM).1
  have zM_4 := lt_of_get kM
  have B4 := bel0 (belA B3 _) hb4
  go_wp2_with fail
  refine (allV 3 _).mono ?_
  rintro e w5 ⟨rfl, hb5⟩
  replace kX := keepblk hb5 kX
  replace kY := keepblk hb5 kY
  replace kM := keepblk hb5 kM
  have cX_5 := (cells_block kX).1
  have zX_5 := lt_of_get kX
  have cY_5 := (cells_block kY).1
  have zY_5 := lt_of_get kY
  have cM_5 := (cells_block kM).1
  have zM_5 := lt_of_get kM
  have B5 := bel0 (B4) hb5
  go_wp2_with fail
  refine (allV 3 _).mono ?_
  rintro e w6 ⟨rfl, hb6⟩
  replace kX := keepblk hb6 kX
  replace kY := keepblk hb6 kY
  replace kM := keepblk hb6 kM
  have cX_6 := (cells_block kX).1
  have zX_6 := lt_of_get kX
  have cY_6 := (cells_block kY).1
  have zY_6 := lt_of_get kY
  have cM_6 := (cells_block kM).1
  have zM_6 := lt_of_get kM
  have B6 := bel0 (B5) hb6
  go_wp2_with fail
  refine (meet33 X3 _ hX3.out).mono ?_
  rintro e w7 ⟨rfl, hb7⟩
  replace kX := keepblk hb7 kX
  replace kY := keepblk hb7 kY
  replace kM := keepblk hb7 kM
  have cX_7 := (cells_block kX).1
  have zX_7 := lt_of_get kX
  have cY_7 := (cells_block kY).1
  have zY_7 := lt_of_get kY
  have cM_7 := (cells_block kM).1
  have zM_7 := lt_of_get kM
  have B7 := bel0 (B6) hb7
  unfold cubeV cv
  go_wp2_with fail
  refine (is_self M _ gM).mono ?_
  rintro e w8 ⟨rfl, hb8⟩
  replace kX := keepblk hb8 (allocblk kX _)
  replace kY := keepblk hb8 (allocblk kY _)
  replace kM := keepblk hb8 (allocblk kM _)
  have kO : w8.heap[w7.heap.size]? = some (.cells (#[.int .i64 (X3.length : Int), .int .u64 (FW X3 0 : Int), .int .u64 (FW X3 1 : Int), .int .u64 (FW X3 2 : Int), .int .u64 (FW X3 3 : Int), .int .u64 (OW X3 0 : Int), .int .u64 (OW X3 1 : Int), .int .u64 (OW X3 2 : Int), .int .u64 (OW X3 3 : Int)]) 26 (0, 0)) := keepblk hb8 (alloc_get _ _)
  have cX_8 := (cells_block kX).1
  have zX_8 := lt_of_get kX
  have cY_8 := (cells_block kY).1
  have zY_8 := lt_of_get kY
  have cM_8 := (cells_block kM).1
  have zM_8 := lt_of_get kM
  have cO_8 := (cells_block kO).1
  have zO_8 := lt_of_get kO
  have B8 := bel0 (belA B7 _) hb8
  go_wp2_with fail
  refine (isX3 X3 _ hX3.out).mono ?_
  rintro e w9 ⟨rfl, hb9⟩
  replace kX := keepblk hb9 kX
  replace kY := keepblk hb9 kY
  replace kM := keepblk hb9 kM
  replace kO := keepblk hb9 kO
  have cX_9 := (cells_block kX).1
  have zX_9 := lt_of_get kX
  have cY_9 := (cells_block kY).1
  have zY_9 := lt_of_get kY
  have cM_9 := (cells_block kM).1
  have zM_9 := lt_of_get kM
  have cO_9 := (cells_block kO).1
  have zO_9 := lt_of_get kO
  have B9 := bel0 (B8) hb9
  go_wp2_with fail
  go_ret
  exact ⟨rfl, B9⟩

theorem ternMeets_walk (a b : ByteArray) (w : World) (ha : a.size ≤ maxLen) (hb : b.size ≤ maxLen) :
    Calls Try.prog 3 #[.string a, .string b] w fun e w' => e = .returned (.bool true) ∧ Below w.heap.size w w' :=
  ternMeets_raw a b _ _ _ _ _ w ha hb (good_cubeT _) (good_cubeT _) rfl rfl (good_mtT _ _ (good_cubeT _) (good_cubeT _)) rfl rfl rfl
end Go.Proofs.Ytaomebmbpcjcnaa
