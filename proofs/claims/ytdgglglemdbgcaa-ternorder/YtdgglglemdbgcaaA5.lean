import Derived.Test.YtdgglglemdbgcaaA4
import Derived.Deep.DeepCutAuto
namespace Go.Proofs.Ytdgglglemdbgcaa
open Go.RowKit

set_option maxHeartbeats 2000000 in
theorem ternOrder_off (a b d : ByteArray) (A B D : List UInt8) (EA EB ED : Int) (w : World) (ha : a.size ≤ maxLen) (hb : b.size ≤ maxLen) (hd : d.size ≤ maxLen)
    (hA0 : cubeT a.data.toList = A) (hB0 : cubeT b.data.toList = B) (hD0 : cubeT d.data.toList = D) (hEA0 : refP a.data.toList = EA) (hEB0 : refP b.data.toList = EB) (hED0 : refP d.data.toList = ED) (qa qb qd : Bool) (hqa0 : cubB a.data.toList = qa) (hqb0 : cubB b.data.toList = qb) (hqd0 : cubB d.data.toList = qd)
    (h : qa = false ∨ qb = false ∨ qd = false ∨ a.size ≠ b.size ∨ a.size ≠ d.size) :
    Calls Try.prog 5 #[.string a, .string b, .string d] w fun e w' => e = .returned (.bool true) ∧ Below w.heap.size w w' := by
  have hA : Hid (cubeT a.data.toList = A) := hA0
  have hB : Hid (cubeT b.data.toList = B) := hB0
  have hD : Hid (cubeT d.data.toList = D) := hD0
  have hEA : Hid (refP a.data.toList = EA) := hEA0
  have hEB : Hid (refP b.data.toList = EB) := hEB0
  have hED : Hid (refP d.data.toList = ED) := hED0
  clear hA0 hB0 hD0 hEA0 hEB0 hED0
  have hqa : Hid (cubB a.data.toList = qa) := hqa0
  have hqb : Hid (cubB b.data.toList = qb) := hqb0
  have hqd : Hid (cubB d.data.toList = qd) := hqd0
  clear hqa0 hqb0 hqd0
  have H : Hid (qa = false ∨ qb = false ∨ qd = false ∨ a.size ≠ b.size ∨ a.size ≠ d.size) := h
  clear h
  unfold maxLen at ha hb hd
  go_enter Try.func5, Try.ntmps5
  go_wp2_with fail
  refine (parse_D a _ ha A EA hA.out hEA.out).mono ?_
  rintro e w1 ⟨rfl, hb1⟩
  have B1 := hb1
  unfold cubeV cv
  go_wp2_with fail
  refine (parse_D b _ hb B EB hB.out hEB.out).mono ?_
  rintro e w2 ⟨rfl, hb2⟩
  have kX : w2.heap[w1.heap.size]? = some (.cells (#[.int .i64 (A.length : Int), .int .u64 (FW A 0 : Int), .int .u64 (FW A 1 : Int), .int .u64 (FW A 2 : Int), .int .u64 (FW A 3 : Int), .int .u64 (OW A 0 : Int), .int .u64 (OW A 1 : Int), .int .u64 (OW A 2 : Int), .int .u64 (OW A 3 : Int)]) 26 (0, 0)) := keepblk hb2 (alloc_get _ _)
  have cX_2 := (cells_block kX).1
  have zX_2 := lt_of_get kX
  have B2 := bel0 (belA B1 _) hb2
  unfold cubeV cv
  go_wp2_with fail
  refine (parse_D d _ hd D ED hD.out hED.out).mono ?_
  rintro e w3 ⟨rfl, hb3⟩
  replace kX := keepblk hb3 (allocblk kX _)
  have kY : w3.heap[w2.heap.size]? = some (.cells (#[.int .i64 (B.length : Int), .int .u64 (FW B 0 : Int), .int .u64 (FW B 1 : Int), .int .u64 (FW B 2 : Int), .int .u64 (FW B 3 : Int), .int .u64 (OW B 0 : Int), .int .u64 (OW B 1 : Int), .int .u64 (OW B 2 : Int), .int .u64 (OW B 3 : Int)]) 26 (0, 0)) := keepblk hb3 (alloc_get _ _)
  have cX_3 := (cells_block kX).1
  have zX_3 := lt_of_get kX
  have cY_3 := (cells_block kY).1
  have zY_3 := lt_of_get kY
  have B3 := bel0 (belA B2 _) hb3
  unfold cubeV cv
  clear kX kY cX_2 cX_3 cY_3 zX_2 zX_3 zY_3 hb1 hb2 hb3 B1 B2
  go_wp2_with fail
  refine (cube_D a qa _ ha hqa.out).mono ?_
  rintro e w' ⟨rfl, rfl⟩
  cases qa
  · clear H
    go_wp2_with fail
    refine (allV 2 _).mono ?_
    rintro e wA ⟨rfl, hbA⟩
    go_wp2_with fail
    refine (text_xx _).mono ?_
    rintro e wT ⟨rfl, hbT⟩
    go_wp2_with fail
    go_ret
    exact ⟨rfl, bel0 (bel0 (belA B3 _) hbA) hbT⟩
  go_wp2_with fail
  refine (cube_D b qb _ hb hqb.out).mono ?_
  rintro e w' ⟨rfl, rfl⟩
  cases qb
  · clear H
    go_wp2_with fail
    refine (allV 2 _).mono ?_
    rintro e wA ⟨rfl, hbA⟩
    go_wp2_with fail
    refine (text_xx _).mono ?_
    rintro e wT ⟨rfl, hbT⟩
    go_wp2_with fail
    go_ret
    exact ⟨rfl, bel0 (bel0 (belA B3 _) hbA) hbT⟩
  go_wp2_with fail
  refine (cube_D d qd _ hd hqd.out).mono ?_
  rintro e w' ⟨rfl, rfl⟩
  cases qd
  · clear H
    go_wp2_with fail
    refine (allV 2 _).mono ?_
    rintro e wA ⟨rfl, hbA⟩
    go_wp2_with fail
    refine (text_xx _).mono ?_
    rintro e wT ⟨rfl, hbT⟩
    go_wp2_with fail
    go_ret
    exact ⟨rfl, bel0 (bel0 (belA B3 _) hbA) hbT⟩
  by_cases h1 : a.size = b.size
  · have h2 : a.size ≠ d.size := by
      rcases H.out with h | h | h | h | h
      · cases h
      · cases h
      · cases h
      · exact absurd h1 h
      · exact h
    have e1 : ((a.size : Int) != (b.size : Int)) = false := by simp [h1]
    have e2 : ((a.size : Int) != (d.size : Int)) = true := by simp; omega
    clear H h1 h2
    go_wp2_with fail
    refine (allV 2 _).mono ?_
    rintro e wA ⟨rfl, hbA⟩
    go_wp2_with fail
    refine (text_xx _).mono ?_
    rintro e wT ⟨rfl, hbT⟩
    go_wp2_with fail
    go_ret
    exact ⟨rfl, bel0 (bel0 (belA B3 _) hbA) hbT⟩
  · have e1 : ((a.size : Int) != (b.size : Int)) = true := by simp; omega
    clear H h1
    go_wp2_with fail
    refine (allV 2 _).mono ?_
    rintro e wA ⟨rfl, hbA⟩
    go_wp2_with fail
    refine (text_xx _).mono ?_
    rintro e wT ⟨rfl, hbT⟩
    go_wp2_with fail
    go_ret
    exact ⟨rfl, bel0 (bel0 (belA B3 _) hbA) hbT⟩
end Go.Proofs.Ytdgglglemdbgcaa
