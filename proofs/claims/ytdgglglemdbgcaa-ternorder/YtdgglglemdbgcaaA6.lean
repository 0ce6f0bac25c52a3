import Derived.Test.YtdgglglemdbgcaaA5
import Derived.Deep.RegionHeld3
import Derived.Deep.DeepCutAuto
namespace Go.Proofs.Ytdgglglemdbgcaa
open Go.RowKit

theorem cellkeep {W w' : World} {b : Nat} {cs : Array Value} (hb : Below W.heap.size W w') (hlt : b < W.heap.size) (h : ∀ j, W.cell? ⟨b, j, none⟩ = cs[j]?) : ∀ j, w'.cell? ⟨b, j, none⟩ = cs[j]? :=
  fun j => (hb.cell (p := ⟨b, j, none⟩) hlt).trans (h j)

theorem quiet_lit {P : Program} {id : Nat} {Q : Exit → Act → World → Prop} {a : Act} {w : World} {l : List Oper} {C : World → Prop} (hm : P.follows .mixedOrders = true) (hB : Region.lexB .any l.toArray = true) (hC : C w.drew)
    (h : wpQuiet P l.toArray C (fun a' => ∀ w', C w' → Q .normal a' w') l a) : (Code.region id l.toArray true).wp P Q a w :=
  wp_region_quiet (C := C) hm hB hC (by simpa using h)

/-- the worlds in which the cubes A and B lie at x and y, and all below is as in w -/
def twoC (x y : Nat) (A B : List UInt8) (w W : World) : Prop :=
  (∀ j, W.cell? ⟨x, j, none⟩ = (#[.int .i64 (A.length : Int), .int .u64 (FW A 0 : Int), .int .u64 (FW A 1 : Int), .int .u64 (FW A 2 : Int), .int .u64 (FW A 3 : Int), .int .u64 (OW A 0 : Int), .int .u64 (OW A 1 : Int), .int .u64 (OW A 2 : Int), .int .u64 (OW A 3 : Int)] : Array Value)[j]?) ∧ (∀ j, W.cell? ⟨y, j, none⟩ = (#[.int .i64 (B.length : Int), .int .u64 (FW B 0 : Int), .int .u64 (FW B 1 : Int), .int .u64 (FW B 2 : Int), .int .u64 (FW B 3 : Int), .int .u64 (OW B 0 : Int), .int .u64 (OW B 1 : Int), .int .u64 (OW B 2 : Int), .int .u64 (OW B 3 : Int)] : Array Value)[j]?) ∧ x < W.heap.size ∧ y < W.heap.size ∧ Below w.heap.size w W
theorem twoC.keep {x y : Nat} {A B : List UInt8} {w W w' : World} (h : twoC x y A B w W) (hb : Below W.heap.size W w') : twoC x y A B w w' :=
  ⟨cellkeep hb h.2.2.1 h.1, cellkeep hb h.2.2.2.1 h.2.1, Nat.lt_of_lt_of_le h.2.2.1 hb.size, Nat.lt_of_lt_of_le h.2.2.2.1 hb.size, bel0 h.2.2.2.2 hb⟩

set_option maxRecDepth 100000 in
set_option maxHeartbeats 4000000 in
theorem ternOrder_on (a b d : ByteArray) (A B D : List UInt8) (EA EB ED : Int) (w : World) (ha : a.size ≤ maxLen) (hb : b.size ≤ maxLen) (hd : d.size ≤ maxLen)
    (hA0 : cubeT a.data.toList = A) (hB0 : cubeT b.data.toList = B) (hD0 : cubeT d.data.toList = D) (hEA0 : refP a.data.toList = EA) (hEB0 : refP b.data.toList = EB) (hED0 : refP d.data.toList = ED) (M : List UInt8) (q b1 b2 b3 b4 b5 e : Bool)
    (hqa0 : cubB a.data.toList = true) (hqb0 : cubB b.data.toList = true) (hqd0 : cubB d.data.toList = true) (gA : good A = true) (gB : good B = true) (gD : good D = true) (gM : good M = true)
    (hM0 : mtT A B = M) (hq0 : agB A B = q) (h10 : wiB D A = b1) (h20 : wiB D B = b2) (h30 : wiB D M = b3) (h40 : wiB A B = b4) (h50 : wiB B A = b5) (hAA0 : wiB A A = true)
    (bb : Bool) (hbb0 : (b1 && b2) = bb) (hm0 : bb = (q && b3)) (he0 : (b4 && b5) = e) (e1 : ((a.size : Int) != (b.size : Int)) = false) (e2 : ((a.size : Int) != (d.size : Int)) = false)
    (eq1 : ∀ W, (Op.equalIn 10000 26 (.agg #[.int .i64 (A.length : Int), .int .u64 (FW A 0 : Int), .int .u64 (FW A 1 : Int), .int .u64 (FW A 2 : Int), .int .u64 (FW A 3 : Int), .int .u64 (OW A 0 : Int), .int .u64 (OW A 1 : Int), .int .u64 (OW A 2 : Int), .int .u64 (OW A 3 : Int)]) (.agg #[.int .i64 (B.length : Int), .int .u64 (FW B 0 : Int), .int .u64 (FW B 1 : Int), .int .u64 (FW B 2 : Int), .int .u64 (FW B 3 : Int), .int .u64 (OW B 0 : Int), .int .u64 (OW B 1 : Int), .int .u64 (OW B 2 : Int), .int .u64 (OW B 3 : Int)])).run Try.prog W = .ok e W) (eq2 : (a.toList == b.toList) = e) :
    Calls Try.prog 5 #[.string a, .string b, .string d] w fun e w' => e = .returned (.bool true) ∧ Below w.heap.size w w' := by
  have hA : Hid (cubeT a.data.toList = A) := hA0
  have hB : Hid (cubeT b.data.toList = B) := hB0
  have hD : Hid (cubeT d.data.toList = D) := hD0
  have hEA : Hid (refP a.data.toList = EA) := hEA0
  have hEB : Hid (refP b.data.toList = EB) := hEB0
  have hED : Hid (refP d.data.toList = ED) := hED0
  clear hA0 hB0 hD0 hEA0 hEB0 hED0
  have hqa : Hid (cubB a.data.toList = true) := hqa0
  have hqb : Hid (cubB b.data.toList = true) := hqb0
  have hqd : Hid (cubB d.data.toList = true) := hqd0
  have hM : Hid (mtT A B = M) := hM0
  have hq : Hid (agB A B = q) := hq0
  have hb1W : Hid (wiB D A = b1) := h10
  have hb2W : Hid (wiB D B = b2) := h20
  have hb3W : Hid (wiB D M = b3) := h30
  have hb4W : Hid (wiB A B = b4) := h40
  have hb5W : Hid (wiB B A = b5) := h50
  have hAA : Hid (wiB A A = true) := hAA0
  have hbb : Hid ((b1 && b2) = bb) := hbb0
  have hm : Hid (bb = (q && b3)) := hm0
  have he : Hid ((b4 && b5) = e) := he0
  clear hqa0 hqb0 hqd0 hM0 hq0 h10 h20 h30 h40 h50 hAA0 hm0 hbb0 he0
  unfold maxLen at ha hb hd
  go_enter Try.func5, Try.ntmps5
  go_wp2_with fail
  refine (parse_D a _ ha A EA hA.out hEA.out).mono ?_
  rintro e' w1 ⟨rfl, hb1⟩
  have B1 := hb1
  unfold cubeV cv
  go_wp2_with fail
  refine (parse_D b _ hb B EB hB.out hEB.out).mono ?_
  rintro e' w2 ⟨rfl, hb2⟩
  have kX : w2.heap[w1.heap.size]? = some (.cells (#[.int .i64 (A.length : Int), .int .u64 (FW A 0 : Int), .int .u64 (FW A 1 : Int), .int .u64 (FW A 2 : Int), .int .u64 (FW A 3 : Int), .int .u64 (OW A 0 : Int), .int .u64 (OW A 1 : Int), .int .u64 (OW A 2 : Int), .int .u64 (OW A 3 : Int)]) 26 (0, 0)) := keepblk hb2 (alloc_get _ _)
  have cX_2 := (cells_block kX).1
  have zX_2 := lt_of_get kX
  have B2 := bel0 (belA B1 _) hb2
  unfold cubeV cv
  go_wp2_with fail
  refine (parse_D d _ hd D ED hD.out hED.out).mono ?_
  rintro e' w3 ⟨rfl, hb3⟩
  replace kX := keepblk hb3 (allocblk kX _)
  have kY : w3.heap[w2.heap.size]? = some (.cells (#[.int .i64 (B.length : Int), .int .u64 (FW B 0 : Int), .int .u64 (FW B 1 : Int), .int .u64 (FW B 2 : Int), .int .u64 (FW B 3 : Int), .int .u64 (OW B 0 : Int), .int .u64 (OW B 1 : Int), .int .u64 (OW B 2 : Int), .int .u64 (OW B 3 : Int)]) 26 (0, 0)) := keepblk hb3 (alloc_get _ _)
  have cX_3 := (cells_block kX).1
  have zX_3 := lt_of_get kX
  have cY_3 := (cells_block kY).1
  have zY_3 := lt_of_get kY
  have B3 := bel0 (belA B2 _) hb3
  unfold cubeV cv
  go_wp2_with fail
  refine (cube_D a true _ ha hqa.out).mono ?_
  rintro e' w' ⟨rfl, rfl⟩
  go_wp2_with fail
  refine (cube_D b true _ hb hqb.out).mono ?_
  rintro e' w' ⟨rfl, rfl⟩
  go_wp2_with fail
  refine (cube_D d true _ hd hqd.out).mono ?_
  rintro e' w' ⟨rfl, rfl⟩
  go_wp2_with fail
  refine (meet_D A B M q _ gA hM.out hq.out).mono ?_
  rintro e' w4 ⟨rfl, hb4⟩
  replace kX := keepblk hb4 (allocblk kX _)
  replace kY := keepblk hb4 (allocblk kY _)
  have kZ : w4.heap[w3.heap.size]? = some (.cells (#[.int .i64 (D.length : Int), .int .u64 (FW D 0 : Int), .int .u64 (FW D 1 : Int), .int .u64 (FW D 2 : Int), .int .u64 (FW D 3 : Int), .int .u64 (OW D 0 : Int), .int .u64 (OW D 1 : Int), .int .u64 (OW D 2 : Int), .int .u64 (OW D 3 : Int)]) 26 (0, 0)) := keepblk hb4 (alloc_get _ _)
  have cX_4 := (cells_block kX).1
  have zX_4 := lt_of_get kX
  have cY_4 := (cells_block kY).1
  have zY_4 := lt_of_get kY
  have cZ_4 := (cells_block kZ).1
  have zZ_4 := lt_of_get kZ
  have B4 := bel0 (belA B3 _) hb4
  unfold cubeV cv
  replace kX := allocblk kX (.cells #[.int .i64 (M.length : Int), .int .u64 (FW M 0 : Int), .int .u64 (FW M 1 : Int), .int .u64 (FW M 2 : Int), .int .u64 (FW M 3 : Int), .int .u64 (OW M 0 : Int), .int .u64 (OW M 1 : Int), .int .u64 (OW M 2 : Int), .int .u64 (OW M 3 : Int)] 26)
  replace kY := allocblk kY (.cells #[.int .i64 (M.length : Int), .int .u64 (FW M 0 : Int), .int .u64 (FW M 1 : Int), .int .u64 (FW M 2 : Int), .int .u64 (FW M 3 : Int), .int .u64 (OW M 0 : Int), .int .u64 (OW M 1 : Int), .int .u64 (OW M 2 : Int), .int .u64 (OW M 3 : Int)] 26)
  replace kZ := allocblk kZ (.cells #[.int .i64 (M.length : Int), .int .u64 (FW M 0 : Int), .int .u64 (FW M 1 : Int), .int .u64 (FW M 2 : Int), .int .u64 (FW M 3 : Int), .int .u64 (OW M 0 : Int), .int .u64 (OW M 1 : Int), .int .u64 (OW M 2 : Int), .int .u64 (OW M 3 : Int)] 26)
  have kM : (w4.alloc (.cells #[.int .i64 (M.length : Int), .int .u64 (FW M 0 : Int), .int .u64 (FW M 1 : Int), .int .u64 (FW M 2 : Int), .int .u64 (FW M 3 : Int), .int .u64 (OW M 0 : Int), .int .u64 (OW M 1 : Int), .int .u64 (OW M 2 : Int), .int .u64 (OW M 3 : Int)] 26)).heap[w4.heap.size]? = some (.cells (#[.int .i64 (M.length : Int), .int .u64 (FW M 0 : Int), .int .u64 (FW M 1 : Int), .int .u64 (FW M 2 : Int), .int .u64 (FW M 3 : Int), .int .u64 (OW M 0 : Int), .int .u64 (OW M 1 : Int), .int .u64 (OW M 2 : Int), .int .u64 (OW M 3 : Int)]) 26 (0, 0)) := alloc_get _ _
  have BB := belA B4 (.cells #[.int .i64 (M.length : Int), .int .u64 (FW M 0 : Int), .int .u64 (FW M 1 : Int), .int .u64 (FW M 2 : Int), .int .u64 (FW M 3 : Int), .int .u64 (OW M 0 : Int), .int .u64 (OW M 1 : Int), .int .u64 (OW M 2 : Int), .int .u64 (OW M 3 : Int)] 26)
  go_upto_region 7 with fail
  go_cut [15] (fun s wc => s = .bool bb ∧ wc.heap[w1.heap.size]? = some (.cells (#[.int .i64 (A.length : Int), .int .u64 (FW A 0 : Int), .int .u64 (FW A 1 : Int), .int .u64 (FW A 2 : Int), .int .u64 (FW A 3 : Int), .int .u64 (OW A 0 : Int), .int .u64 (OW A 1 : Int), .int .u64 (OW A 2 : Int), .int .u64 (OW A 3 : Int)]) 26 (0, 0)) ∧ wc.heap[w2.heap.size]? = some (.cells (#[.int .i64 (B.length : Int), .int .u64 (FW B 0 : Int), .int .u64 (FW B 1 : Int), .int .u64 (FW B 2 : Int), .int .u64 (FW B 3 : Int), .int .u64 (OW B 0 : Int), .int .u64 (OW B 1 : Int), .int .u64 (OW B 2 : Int), .int .u64 (OW B 3 : Int)]) 26 (0, 0)) ∧ wc.heap[w3.heap.size]? = some (.cells (#[.int .i64 (D.length : Int), .int .u64 (FW D 0 : Int), .int .u64 (FW D 1 : Int), .int .u64 (FW D 2 : Int), .int .u64 (FW D 3 : Int), .int .u64 (OW D 0 : Int), .int .u64 (OW D 1 : Int), .int .u64 (OW D 2 : Int), .int .u64 (OW D 3 : Int)]) 26 (0, 0)) ∧ wc.heap[w4.heap.size]? = some (.cells (#[.int .i64 (M.length : Int), .int .u64 (FW M 0 : Int), .int .u64 (FW M 1 : Int), .int .u64 (FW M 2 : Int), .int .u64 (FW M 3 : Int), .int .u64 (OW M 0 : Int), .int .u64 (OW M 1 : Int), .int .u64 (OW M 2 : Int), .int .u64 (OW M 3 : Int)]) 26 (0, 0)) ∧ Below w.heap.size w wc)
  case first =>
    have cX0 := (cells_block kX).1; have zX0 := lt_of_get kX; have cY0 := (cells_block kY).1; have zY0 := lt_of_get kY; have cZ0 := (cells_block kZ).1; have zZ0 := lt_of_get kZ; have cM0 := (cells_block kM).1; have zM0 := lt_of_get kM; skip
    go_wp2_with fail
    refine (within_D D A b1 _ gD gA hb1W.out).mono ?_
    rintro e' wU ⟨rfl, hbU⟩
    replace kX := keepblk hbU kX; replace kY := keepblk hbU kY; replace kZ := keepblk hbU kZ; replace kM := keepblk hbU kM; skip
    have cX1 := (cells_block kX).1; have zX1 := lt_of_get kX; have cY1 := (cells_block kY).1; have zY1 := lt_of_get kY; have cZ1 := (cells_block kZ).1; have zZ1 := lt_of_get kZ; have cM1 := (cells_block kM).1; have zM1 := lt_of_get kM; skip
    have BU := bel0 BB hbU
    cases b1
    · obtain rfl : bb = false := hbb.out.symm
      go_wp2_with fail
      go_meet
      exact ⟨rfl, kX, kY, kZ, kM, BU⟩
    · obtain rfl : b2 = bb := hbb.out
      go_wp2_with fail
      refine (within_D D B b2 _ gD gB hb2W.out).mono ?_
      rintro e' wV ⟨rfl, hbV⟩
      replace kX := keepblk hbV kX; replace kY := keepblk hbV kY; replace kZ := keepblk hbV kZ; replace kM := keepblk hbV kM; skip
      go_wp2_with fail
      go_meet
      exact ⟨rfl, kX, kY, kZ, kM, bel0 BU hbV⟩
  case rest =>
    clear kX kY kZ kM BB cX_2 zX_2 cX_3 zX_3 cX_4 zX_4 cY_3 zY_3 cY_4 zY_4 cZ_4 zZ_4 hb1 hb2 hb3 hb4 B1 B2 B3 B4
    obtain ⟨rfl, kX, kY, kZ, kM, BB⟩ := hcut
    have cX0 := (cells_block kX).1; have zX0 := lt_of_get kX; have cY0 := (cells_block kY).1; have zY0 := lt_of_get kY; have cZ0 := (cells_block kZ).1; have zZ0 := lt_of_get kZ; have cM0 := (cells_block kM).1; have zM0 := lt_of_get kM; skip
    go_upto_region 8 with fail
    go_cut [88] (fun s wc => s = .bool false ∧ wc.heap[w1.heap.size]? = some (.cells (#[.int .i64 (A.length : Int), .int .u64 (FW A 0 : Int), .int .u64 (FW A 1 : Int), .int .u64 (FW A 2 : Int), .int .u64 (FW A 3 : Int), .int .u64 (OW A 0 : Int), .int .u64 (OW A 1 : Int), .int .u64 (OW A 2 : Int), .int .u64 (OW A 3 : Int)]) 26 (0, 0)) ∧ wc.heap[w2.heap.size]? = some (.cells (#[.int .i64 (B.length : Int), .int .u64 (FW B 0 : Int), .int .u64 (FW B 1 : Int), .int .u64 (FW B 2 : Int), .int .u64 (FW B 3 : Int), .int .u64 (OW B 0 : Int), .int .u64 (OW B 1 : Int), .int .u64 (OW B 2 : Int), .int .u64 (OW B 3 : Int)]) 26 (0, 0)) ∧ wc.heap[w3.heap.size]? = some (.cells (#[.int .i64 (D.length : Int), .int .u64 (FW D 0 : Int), .int .u64 (FW D 1 : Int), .int .u64 (FW D 2 : Int), .int .u64 (FW D 3 : Int), .int .u64 (OW D 0 : Int), .int .u64 (OW D 1 : Int), .int .u64 (OW D 2 : Int), .int .u64 (OW D 3 : Int)]) 26 (0, 0)) ∧ wc.heap[w4.heap.size]? = some (.cells (#[.int .i64 (M.length : Int), .int .u64 (FW M 0 : Int), .int .u64 (FW M 1 : Int), .int .u64 (FW M 2 : Int), .int .u64 (FW M 3 : Int), .int .u64 (OW M 0 : Int), .int .u64 (OW M 1 : Int), .int .u64 (OW M 2 : Int), .int .u64 (OW M 3 : Int)]) 26 (0, 0)) ∧ Below w.heap.size w wc)
    case first =>
      cases q
      · obtain rfl : bb = false := hm.out
        go_wp2_with fail
        refine (within_D A A true _ gA gA hAA.out).mono ?_
        rintro e' wU ⟨rfl, hbU⟩
        replace kX := keepblk hbU kX; replace kY := keepblk hbU kY; replace kZ := keepblk hbU kZ; replace kM := keepblk hbU kM; skip
        go_wp2_with fail
        go_meet
        exact ⟨rfl, kX, kY, kZ, kM, bel0 BB hbU⟩
      · obtain rfl : bb = b3 := hm.out
        go_wp2_with fail
        refine (within_D D M bb _ gD gM hb3W.out).mono ?_
        rintro e' wU ⟨rfl, hbU⟩
        replace kX := keepblk hbU kX; replace kY := keepblk hbU kY; replace kZ := keepblk hbU kZ; replace kM := keepblk hbU kM; skip
        have cX1 := (cells_block kX).1; have zX1 := lt_of_get kX; have cY1 := (cells_block kY).1; have zY1 := lt_of_get kY; have cZ1 := (cells_block kZ).1; have zZ1 := lt_of_get kZ; have cM1 := (cells_block kM).1; have zM1 := lt_of_get kM; skip
        cases bb
        all_goals
          go_wp2_with fail
          refine (within_D A A true _ gA gA hAA.out).mono ?_
          rintro e' wV ⟨rfl, hbV⟩
          replace kX := keepblk hbV kX; replace kY := keepblk hbV kY; replace kZ := keepblk hbV kZ; replace kM := keepblk hbV kM; skip
          go_wp2_with fail
          go_meet
          exact ⟨rfl, kX, kY, kZ, kM, bel0 (bel0 BB hbU) hbV⟩
    case rest =>
      clear kX kY kZ kM BB cX0 cY0 cZ0 cM0 zX0 zY0 zZ0 zM0
      obtain ⟨rfl, kX, kY, kZ, kM, BB⟩ := hcut
      clear kZ kM
      have cX := (cells_block kX).1
      have cY := (cells_block kY).1
      have zX := lt_of_get kX
      have zY := lt_of_get kY
      go_upto_region 10 with fail
      cases b4
      · obtain rfl : e = false := he.out.symm
        refine quiet_lit (C := twoC w1.heap.size w2.heap.size A B w) (by kernel_rfl) (by kernel_rfl) ⟨cX, cY, zX, zY, BB.drew⟩ ?_
        go_big_quiet_want
        refine ⟨(.agg #[.int .i64 (A.length : Int), .int .u64 (FW A 0 : Int), .int .u64 (FW A 1 : Int), .int .u64 (FW A 2 : Int), .int .u64 (FW A 3 : Int), .int .u64 (OW A 0 : Int), .int .u64 (OW A 1 : Int), .int .u64 (OW A 2 : Int), .int .u64 (OW A 3 : Int)]), fun W hW => ?_, ?_⟩
        · obtain ⟨hx, hy, _, _, _⟩ := hW
          go_simp
        go_big_quiet_on
        simp only [Act.put, List.setIfInBounds_toArray, List.set_cons_zero, List.set_cons_succ]
        go_big_quiet_want
        refine ⟨(.agg #[.int .i64 (B.length : Int), .int .u64 (FW B 0 : Int), .int .u64 (FW B 1 : Int), .int .u64 (FW B 2 : Int), .int .u64 (FW B 3 : Int), .int .u64 (OW B 0 : Int), .int .u64 (OW B 1 : Int), .int .u64 (OW B 2 : Int), .int .u64 (OW B 3 : Int)]), fun W hW => ?_, ?_⟩
        · obtain ⟨hx, hy, _, _, _⟩ := hW
          go_simp
        go_big_quiet_on
        simp only [Act.put, List.setIfInBounds_toArray, List.set_cons_zero, List.set_cons_succ]
        go_big_quiet_want
        refine ⟨.bool false, fun W hW => ?_, ?_⟩
        · go_simp
          refine (within_D A B false _ gA gB hb4W.out).mono ?_
          rintro e' w' ⟨rfl, hb⟩
          exact ⟨rfl, hW.keep hb⟩
        go_big_quiet_on
        simp only [Act.put, List.setIfInBounds_toArray, List.set_cons_zero, List.set_cons_succ]
        go_big_quiet_want
        refine ⟨.bool false, fun W hW => ?_, ?_⟩
        · obtain ⟨hx, hy, _, _, _⟩ := hW
          go_simp
        go_big_quiet_on
        simp only [Act.put, List.setIfInBounds_toArray, List.set_cons_zero, List.set_cons_succ]
        go_big_quiet_skip
        go_big_quiet_skip
        go_big_quiet_skip
        go_big_quiet_want
        refine ⟨.bool false, fun W hW => ?_, ?_⟩
        · obtain ⟨hx, hy, _, _, _⟩ := hW
          go_simp
        go_big_quiet_on
        simp only [Act.put, List.setIfInBounds_toArray, List.set_cons_zero, List.set_cons_succ]
        go_big_quiet_want
        refine ⟨(.agg #[.int .i64 (A.length : Int), .int .u64 (FW A 0 : Int), .int .u64 (FW A 1 : Int), .int .u64 (FW A 2 : Int), .int .u64 (FW A 3 : Int), .int .u64 (OW A 0 : Int), .int .u64 (OW A 1 : Int), .int .u64 (OW A 2 : Int), .int .u64 (OW A 3 : Int)]), fun W hW => ?_, ?_⟩
        · obtain ⟨hx, hy, _, _, _⟩ := hW
          go_simp
        go_big_quiet_on
        simp only [Act.put, List.setIfInBounds_toArray, List.set_cons_zero, List.set_cons_succ]
        go_big_quiet_want
        refine ⟨(.agg #[.int .i64 (B.length : Int), .int .u64 (FW B 0 : Int), .int .u64 (FW B 1 : Int), .int .u64 (FW B 2 : Int), .int .u64 (FW B 3 : Int), .int .u64 (OW B 0 : Int), .int .u64 (OW B 1 : Int), .int .u64 (OW B 2 : Int), .int .u64 (OW B 3 : Int)]), fun W hW => ?_, ?_⟩
        · obtain ⟨hx, hy, _, _, _⟩ := hW
          go_simp
        go_big_quiet_on
        simp only [Act.put, List.setIfInBounds_toArray, List.set_cons_zero, List.set_cons_succ]
        go_big_quiet_want
        refine ⟨.bool false, fun W hW => ?_, ?_⟩
        · obtain ⟨hx, hy, _, _, _⟩ := hW
          go_simp
        go_big_quiet_on
        simp only [Act.put, List.setIfInBounds_toArray, List.set_cons_zero, List.set_cons_succ]
        go_big_quiet_want
        refine ⟨.bool true, fun W hW => ?_, ?_⟩
        · obtain ⟨hx, hy, _, _, _⟩ := hW
          go_simp
        go_big_quiet_on
        simp only [Act.put, List.setIfInBounds_toArray, List.set_cons_zero, List.set_cons_succ]
        go_big_quiet_want
        refine ⟨.bool true, fun W hW => ?_, ?_⟩
        · obtain ⟨hx, hy, _, _, _⟩ := hW
          go_simp
        go_big_quiet_on
        simp only [Act.put, List.setIfInBounds_toArray, List.set_cons_zero, List.set_cons_succ]
        go_big_quiet_want
        refine ⟨(.agg #[.int .i64 (A.length : Int), .int .u64 (FW A 0 : Int), .int .u64 (FW A 1 : Int), .int .u64 (FW A 2 : Int), .int .u64 (FW A 3 : Int), .int .u64 (OW A 0 : Int), .int .u64 (OW A 1 : Int), .int .u64 (OW A 2 : Int), .int .u64 (OW A 3 : Int)]), fun W hW => ?_, ?_⟩
        · obtain ⟨hx, hy, _, _, _⟩ := hW
          go_simp
        go_big_quiet_on
        simp only [Act.put, List.setIfInBounds_toArray, List.set_cons_zero, List.set_cons_succ]
        go_big_quiet_want
        refine ⟨(.agg #[.int .i64 (B.length : Int), .int .u64 (FW B 0 : Int), .int .u64 (FW B 1 : Int), .int .u64 (FW B 2 : Int), .int .u64 (FW B 3 : Int), .int .u64 (OW B 0 : Int), .int .u64 (OW B 1 : Int), .int .u64 (OW B 2 : Int), .int .u64 (OW B 3 : Int)]), fun W hW => ?_, ?_⟩
        · obtain ⟨hx, hy, _, _, _⟩ := hW
          go_simp
        go_big_quiet_on
        simp only [Act.put, List.setIfInBounds_toArray, List.set_cons_zero, List.set_cons_succ]
        go_big_quiet_want
        refine ⟨.bool false, fun W hW => ?_, ?_⟩
        · obtain ⟨hx, hy, _, _, _⟩ := hW
          go_simp
        go_big_quiet_on
        simp only [Act.put, List.setIfInBounds_toArray, List.set_cons_zero, List.set_cons_succ]
        go_big_quiet_want
        refine ⟨.string a, fun W hW => ?_, ?_⟩
        · obtain ⟨hx, hy, _, _, _⟩ := hW
          go_simp
        go_big_quiet_on
        simp only [Act.put, List.setIfInBounds_toArray, List.set_cons_zero, List.set_cons_succ]
        go_big_quiet_want
        refine ⟨.string b, fun W hW => ?_, ?_⟩
        · obtain ⟨hx, hy, _, _, _⟩ := hW
          go_simp
        go_big_quiet_on
        simp only [Act.put, List.setIfInBounds_toArray, List.set_cons_zero, List.set_cons_succ]
        go_big_quiet_want
        refine ⟨.bool false, fun W hW => ?_, ?_⟩
        · obtain ⟨hx, hy, _, _, _⟩ := hW
          go_simp
        go_big_quiet_on
        simp only [Act.put, List.setIfInBounds_toArray, List.set_cons_zero, List.set_cons_succ]
        go_big_quiet_want
        refine ⟨.bool true, fun W hW => ?_, ?_⟩
        · obtain ⟨hx, hy, _, _, _⟩ := hW
          go_simp
        go_big_quiet_on
        simp only [Act.put, List.setIfInBounds_toArray, List.set_cons_zero, List.set_cons_succ]
        go_big_quiet_want
        refine ⟨.bool true, fun W hW => ?_, ?_⟩
        · obtain ⟨hx, hy, _, _, _⟩ := hW
          go_simp
        go_big_quiet_on
        simp only [Act.put, List.setIfInBounds_toArray, List.set_cons_zero, List.set_cons_succ]
        go_big_quiet_want
        refine ⟨.bool true, fun W hW => ?_, ?_⟩
        · obtain ⟨hx, hy, _, _, _⟩ := hW
          go_simp
        go_big_quiet_on
        simp only [Act.put, List.setIfInBounds_toArray, List.set_cons_zero, List.set_cons_succ]
        refine wpQuiet_nil ?_
        intro W hW
        go_wp2
        go_ret
        exact ⟨rfl, hW.2.2.2.2⟩
      · obtain rfl : b5 = e := he.out
        cases b5
        · skip
          refine quiet_lit (C := twoC w1.heap.size w2.heap.size A B w) (by kernel_rfl) (by kernel_rfl) ⟨cX, cY, zX, zY, BB.drew⟩ ?_
          go_big_quiet_want
          refine ⟨(.agg #[.int .i64 (A.length : Int), .int .u64 (FW A 0 : Int), .int .u64 (FW A 1 : Int), .int .u64 (FW A 2 : Int), .int .u64 (FW A 3 : Int), .int .u64 (OW A 0 : Int), .int .u64 (OW A 1 : Int), .int .u64 (OW A 2 : Int), .int .u64 (OW A 3 : Int)]), fun W hW => ?_, ?_⟩
          · obtain ⟨hx, hy, _, _, _⟩ := hW
            go_simp
          go_big_quiet_on
          simp only [Act.put, List.setIfInBounds_toArray, List.set_cons_zero, List.set_cons_succ]
          go_big_quiet_want
          refine ⟨(.agg #[.int .i64 (B.length : Int), .int .u64 (FW B 0 : Int), .int .u64 (FW B 1 : Int), .int .u64 (FW B 2 : Int), .int .u64 (FW B 3 : Int), .int .u64 (OW B 0 : Int), .int .u64 (OW B 1 : Int), .int .u64 (OW B 2 : Int), .int .u64 (OW B 3 : Int)]), fun W hW => ?_, ?_⟩
          · obtain ⟨hx, hy, _, _, _⟩ := hW
            go_simp
          go_big_quiet_on
          simp only [Act.put, List.setIfInBounds_toArray, List.set_cons_zero, List.set_cons_succ]
          go_big_quiet_want
          refine ⟨.bool true, fun W hW => ?_, ?_⟩
          · go_simp
            refine (within_D A B true _ gA gB hb4W.out).mono ?_
            rintro e' w' ⟨rfl, hb⟩
            exact ⟨rfl, hW.keep hb⟩
          go_big_quiet_on
          simp only [Act.put, List.setIfInBounds_toArray, List.set_cons_zero, List.set_cons_succ]
          go_big_quiet_want
          refine ⟨.bool true, fun W hW => ?_, ?_⟩
          · obtain ⟨hx, hy, _, _, _⟩ := hW
            go_simp
          go_big_quiet_on
          simp only [Act.put, List.setIfInBounds_toArray, List.set_cons_zero, List.set_cons_succ]
          go_big_quiet_want
          refine ⟨(.agg #[.int .i64 (B.length : Int), .int .u64 (FW B 0 : Int), .int .u64 (FW B 1 : Int), .int .u64 (FW B 2 : Int), .int .u64 (FW B 3 : Int), .int .u64 (OW B 0 : Int), .int .u64 (OW B 1 : Int), .int .u64 (OW B 2 : Int), .int .u64 (OW B 3 : Int)]), fun W hW => ?_, ?_⟩
          · obtain ⟨hx, hy, _, _, _⟩ := hW
            go_simp
          go_big_quiet_on
          simp only [Act.put, List.setIfInBounds_toArray, List.set_cons_zero, List.set_cons_succ]
          go_big_quiet_want
          refine ⟨(.agg #[.int .i64 (A.length : Int), .int .u64 (FW A 0 : Int), .int .u64 (FW A 1 : Int), .int .u64 (FW A 2 : Int), .int .u64 (FW A 3 : Int), .int .u64 (OW A 0 : Int), .int .u64 (OW A 1 : Int), .int .u64 (OW A 2 : Int), .int .u64 (OW A 3 : Int)]), fun W hW => ?_, ?_⟩
          · obtain ⟨hx, hy, _, _, _⟩ := hW
            go_simp
          go_big_quiet_on
          simp only [Act.put, List.setIfInBounds_toArray, List.set_cons_zero, List.set_cons_succ]
          go_big_quiet_want
          refine ⟨.bool false, fun W hW => ?_, ?_⟩
          · go_simp
            refine (within_D B A false _ gB gA hb5W.out).mono ?_
            rintro e' w' ⟨rfl, hb⟩
            exact ⟨rfl, hW.keep hb⟩
          go_big_quiet_on
          simp only [Act.put, List.setIfInBounds_toArray, List.set_cons_zero, List.set_cons_succ]
          go_big_quiet_want
          refine ⟨.bool false, fun W hW => ?_, ?_⟩
          · obtain ⟨hx, hy, _, _, _⟩ := hW
            go_simp
          go_big_quiet_on
          simp only [Act.put, List.setIfInBounds_toArray, List.set_cons_zero, List.set_cons_succ]
          go_big_quiet_want
          refine ⟨(.agg #[.int .i64 (A.length : Int), .int .u64 (FW A 0 : Int), .int .u64 (FW A 1 : Int), .int .u64 (FW A 2 : Int), .int .u64 (FW A 3 : Int), .int .u64 (OW A 0 : Int), .int .u64 (OW A 1 : Int), .int .u64 (OW A 2 : Int), .int .u64 (OW A 3 : Int)]), fun W hW => ?_, ?_⟩
          · obtain ⟨hx, hy, _, _, _⟩ := hW
            go_simp
          go_big_quiet_on
          simp only [Act.put, List.setIfInBounds_toArray, List.set_cons_zero, List.set_cons_succ]
          go_big_quiet_want
          refine ⟨(.agg #[.int .i64 (B.length : Int), .int .u64 (FW B 0 : Int), .int .u64 (FW B 1 : Int), .int .u64 (FW B 2 : Int), .int .u64 (FW B 3 : Int), .int .u64 (OW B 0 : Int), .int .u64 (OW B 1 : Int), .int .u64 (OW B 2 : Int), .int .u64 (OW B 3 : Int)]), fun W hW => ?_, ?_⟩
          · obtain ⟨hx, hy, _, _, _⟩ := hW
            go_simp
          go_big_quiet_on
          simp only [Act.put, List.setIfInBounds_toArray, List.set_cons_zero, List.set_cons_succ]
          go_big_quiet_want
          refine ⟨.bool false, fun W hW => ?_, ?_⟩
          · obtain ⟨hx, hy, _, _, _⟩ := hW
            go_simp
          go_big_quiet_on
          simp only [Act.put, List.setIfInBounds_toArray, List.set_cons_zero, List.set_cons_succ]
          go_big_quiet_want
          refine ⟨.bool true, fun W hW => ?_, ?_⟩
          · obtain ⟨hx, hy, _, _, _⟩ := hW
            go_simp
          go_big_quiet_on
          simp only [Act.put, List.setIfInBounds_toArray, List.set_cons_zero, List.set_cons_succ]
          go_big_quiet_want
          refine ⟨.bool true, fun W hW => ?_, ?_⟩
          · obtain ⟨hx, hy, _, _, _⟩ := hW
            go_simp
          go_big_quiet_on
          simp only [Act.put, List.setIfInBounds_toArray, List.set_cons_zero, List.set_cons_succ]
          go_big_quiet_want
          refine ⟨(.agg #[.int .i64 (A.length : Int), .int .u64 (FW A 0 : Int), .int .u64 (FW A 1 : Int), .int .u64 (FW A 2 : Int), .int .u64 (FW A 3 : Int), .int .u64 (OW A 0 : Int), .int .u64 (OW A 1 : Int), .int .u64 (OW A 2 : Int), .int .u64 (OW A 3 : Int)]), fun W hW => ?_, ?_⟩
          · obtain ⟨hx, hy, _, _, _⟩ := hW
            go_simp
          go_big_quiet_on
          simp only [Act.put, List.setIfInBounds_toArray, List.set_cons_zero, List.set_cons_succ]
          go_big_quiet_want
          refine ⟨(.agg #[.int .i64 (B.length : Int), .int .u64 (FW B 0 : Int), .int .u64 (FW B 1 : Int), .int .u64 (FW B 2 : Int), .int .u64 (FW B 3 : Int), .int .u64 (OW B 0 : Int), .int .u64 (OW B 1 : Int), .int .u64 (OW B 2 : Int), .int .u64 (OW B 3 : Int)]), fun W hW => ?_, ?_⟩
          · obtain ⟨hx, hy, _, _, _⟩ := hW
            go_simp
          go_big_quiet_on
          simp only [Act.put, List.setIfInBounds_toArray, List.set_cons_zero, List.set_cons_succ]
          go_big_quiet_want
          refine ⟨.bool false, fun W hW => ?_, ?_⟩
          · obtain ⟨hx, hy, _, _, _⟩ := hW
            go_simp
          go_big_quiet_on
          simp only [Act.put, List.setIfInBounds_toArray, List.set_cons_zero, List.set_cons_succ]
          go_big_quiet_want
          refine ⟨.string a, fun W hW => ?_, ?_⟩
          · obtain ⟨hx, hy, _, _, _⟩ := hW
            go_simp
          go_big_quiet_on
          simp only [Act.put, List.setIfInBounds_toArray, List.set_cons_zero, List.set_cons_succ]
          go_big_quiet_want
          refine ⟨.string b, fun W hW => ?_, ?_⟩
          · obtain ⟨hx, hy, _, _, _⟩ := hW
            go_simp
          go_big_quiet_on
          simp only [Act.put, List.setIfInBounds_toArray, List.set_cons_zero, List.set_cons_succ]
          go_big_quiet_want
          refine ⟨.bool false, fun W hW => ?_, ?_⟩
          · obtain ⟨hx, hy, _, _, _⟩ := hW
            go_simp
          go_big_quiet_on
          simp only [Act.put, List.setIfInBounds_toArray, List.set_cons_zero, List.set_cons_succ]
          go_big_quiet_want
          refine ⟨.bool true, fun W hW => ?_, ?_⟩
          · obtain ⟨hx, hy, _, _, _⟩ := hW
            go_simp
          go_big_quiet_on
          simp only [Act.put, List.setIfInBounds_toArray, List.set_cons_zero, List.set_cons_succ]
          go_big_quiet_want
          refine ⟨.bool true, fun W hW => ?_, ?_⟩
          · obtain ⟨hx, hy, _, _, _⟩ := hW
            go_simp
          go_big_quiet_on
          simp only [Act.put, List.setIfInBounds_toArray, List.set_cons_zero, List.set_cons_succ]
          go_big_quiet_want
          refine ⟨.bool true, fun W hW => ?_, ?_⟩
          · obtain ⟨hx, hy, _, _, _⟩ := hW
            go_simp
          go_big_quiet_on
          simp only [Act.put, List.setIfInBounds_toArray, List.set_cons_zero, List.set_cons_succ]
          refine wpQuiet_nil ?_
          intro W hW
          go_wp2
          go_ret
          exact ⟨rfl, hW.2.2.2.2⟩
        · skip
          refine quiet_lit (C := twoC w1.heap.size w2.heap.size A B w) (by kernel_rfl) (by kernel_rfl) ⟨cX, cY, zX, zY, BB.drew⟩ ?_
          go_big_quiet_want
          refine ⟨(.agg #[.int .i64 (A.length : Int), .int .u64 (FW A 0 : Int), .int .u64 (FW A 1 : Int), .int .u64 (FW A 2 : Int), .int .u64 (FW A 3 : Int), .int .u64 (OW A 0 : Int), .int .u64 (OW A 1 : Int), .int .u64 (OW A 2 : Int), .int .u64 (OW A 3 : Int)]), fun W hW => ?_, ?_⟩
          · obtain ⟨hx, hy, _, _, _⟩ := hW
            go_simp
          go_big_quiet_on
          simp only [Act.put, List.setIfInBounds_toArray, List.set_cons_zero, List.set_cons_succ]
          go_big_quiet_want
          refine ⟨(.agg #[.int .i64 (B.length : Int), .int .u64 (FW B 0 : Int), .int .u64 (FW B 1 : Int), .int .u64 (FW B 2 : Int), .int .u64 (FW B 3 : Int), .int .u64 (OW B 0 : Int), .int .u64 (OW B 1 : Int), .int .u64 (OW B 2 : Int), .int .u64 (OW B 3 : Int)]), fun W hW => ?_, ?_⟩
          · obtain ⟨hx, hy, _, _, _⟩ := hW
            go_simp
          go_big_quiet_on
          simp only [Act.put, List.setIfInBounds_toArray, List.set_cons_zero, List.set_cons_succ]
          go_big_quiet_want
          refine ⟨.bool true, fun W hW => ?_, ?_⟩
          · go_simp
            refine (within_D A B true _ gA gB hb4W.out).mono ?_
            rintro e' w' ⟨rfl, hb⟩
            exact ⟨rfl, hW.keep hb⟩
          go_big_quiet_on
          simp only [Act.put, List.setIfInBounds_toArray, List.set_cons_zero, List.set_cons_succ]
          go_big_quiet_want
          refine ⟨.bool true, fun W hW => ?_, ?_⟩
          · obtain ⟨hx, hy, _, _, _⟩ := hW
            go_simp
          go_big_quiet_on
          simp only [Act.put, List.setIfInBounds_toArray, List.set_cons_zero, List.set_cons_succ]
          go_big_quiet_want
          refine ⟨(.agg #[.int .i64 (B.length : Int), .int .u64 (FW B 0 : Int), .int .u64 (FW B 1 : Int), .int .u64 (FW B 2 : Int), .int .u64 (FW B 3 : Int), .int .u64 (OW B 0 : Int), .int .u64 (OW B 1 : Int), .int .u64 (OW B 2 : Int), .int .u64 (OW B 3 : Int)]), fun W hW => ?_, ?_⟩
          · obtain ⟨hx, hy, _, _, _⟩ := hW
            go_simp
          go_big_quiet_on
          simp only [Act.put, List.setIfInBounds_toArray, List.set_cons_zero, List.set_cons_succ]
          go_big_quiet_want
          refine ⟨(.agg #[.int .i64 (A.length : Int), .int .u64 (FW A 0 : Int), .int .u64 (FW A 1 : Int), .int .u64 (FW A 2 : Int), .int .u64 (FW A 3 : Int), .int .u64 (OW A 0 : Int), .int .u64 (OW A 1 : Int), .int .u64 (OW A 2 : Int), .int .u64 (OW A 3 : Int)]), fun W hW => ?_, ?_⟩
          · obtain ⟨hx, hy, _, _, _⟩ := hW
            go_simp
          go_big_quiet_on
          simp only [Act.put, List.setIfInBounds_toArray, List.set_cons_zero, List.set_cons_succ]
          go_big_quiet_want
          refine ⟨.bool true, fun W hW => ?_, ?_⟩
          · go_simp
            refine (within_D B A true _ gB gA hb5W.out).mono ?_
            rintro e' w' ⟨rfl, hb⟩
            exact ⟨rfl, hW.keep hb⟩
          go_big_quiet_on
          simp only [Act.put, List.setIfInBounds_toArray, List.set_cons_zero, List.set_cons_succ]
          go_big_quiet_want
          refine ⟨.bool true, fun W hW => ?_, ?_⟩
          · obtain ⟨hx, hy, _, _, _⟩ := hW
            go_simp
          go_big_quiet_on
          simp only [Act.put, List.setIfInBounds_toArray, List.set_cons_zero, List.set_cons_succ]
          go_big_quiet_want
          refine ⟨(.agg #[.int .i64 (A.length : Int), .int .u64 (FW A 0 : Int), .int .u64 (FW A 1 : Int), .int .u64 (FW A 2 : Int), .int .u64 (FW A 3 : Int), .int .u64 (OW A 0 : Int), .int .u64 (OW A 1 : Int), .int .u64 (OW A 2 : Int), .int .u64 (OW A 3 : Int)]), fun W hW => ?_, ?_⟩
          · obtain ⟨hx, hy, _, _, _⟩ := hW
            go_simp
          go_big_quiet_on
          simp only [Act.put, List.setIfInBounds_toArray, List.set_cons_zero, List.set_cons_succ]
          go_big_quiet_want
          refine ⟨(.agg #[.int .i64 (B.length : Int), .int .u64 (FW B 0 : Int), .int .u64 (FW B 1 : Int), .int .u64 (FW B 2 : Int), .int .u64 (FW B 3 : Int), .int .u64 (OW B 0 : Int), .int .u64 (OW B 1 : Int), .int .u64 (OW B 2 : Int), .int .u64 (OW B 3 : Int)]), fun W hW => ?_, ?_⟩
          · obtain ⟨hx, hy, _, _, _⟩ := hW
            go_simp
          go_big_quiet_on
          simp only [Act.put, List.setIfInBounds_toArray, List.set_cons_zero, List.set_cons_succ]
          go_big_quiet_want
          refine ⟨.bool true, fun W hW => ?_, ?_⟩
          · obtain ⟨hx, hy, _, _, _⟩ := hW
            go_simp
          go_big_quiet_on
          simp only [Act.put, List.setIfInBounds_toArray, List.set_cons_zero, List.set_cons_succ]
          go_big_quiet_want
          refine ⟨.bool true, fun W hW => ?_, ?_⟩
          · obtain ⟨hx, hy, _, _, _⟩ := hW
            go_simp
          go_big_quiet_on
          simp only [Act.put, List.setIfInBounds_toArray, List.set_cons_zero, List.set_cons_succ]
          go_big_quiet_want
          refine ⟨.bool true, fun W hW => ?_, ?_⟩
          · obtain ⟨hx, hy, _, _, _⟩ := hW
            go_simp
          go_big_quiet_on
          simp only [Act.put, List.setIfInBounds_toArray, List.set_cons_zero, List.set_cons_succ]
          go_big_quiet_want
          refine ⟨(.agg #[.int .i64 (A.length : Int), .int .u64 (FW A 0 : Int), .int .u64 (FW A 1 : Int), .int .u64 (FW A 2 : Int), .int .u64 (FW A 3 : Int), .int .u64 (OW A 0 : Int), .int .u64 (OW A 1 : Int), .int .u64 (OW A 2 : Int), .int .u64 (OW A 3 : Int)]), fun W hW => ?_, ?_⟩
          · obtain ⟨hx, hy, _, _, _⟩ := hW
            go_simp
          go_big_quiet_on
          simp only [Act.put, List.setIfInBounds_toArray, List.set_cons_zero, List.set_cons_succ]
          go_big_quiet_want
          refine ⟨(.agg #[.int .i64 (B.length : Int), .int .u64 (FW B 0 : Int), .int .u64 (FW B 1 : Int), .int .u64 (FW B 2 : Int), .int .u64 (FW B 3 : Int), .int .u64 (OW B 0 : Int), .int .u64 (OW B 1 : Int), .int .u64 (OW B 2 : Int), .int .u64 (OW B 3 : Int)]), fun W hW => ?_, ?_⟩
          · obtain ⟨hx, hy, _, _, _⟩ := hW
            go_simp
          go_big_quiet_on
          simp only [Act.put, List.setIfInBounds_toArray, List.set_cons_zero, List.set_cons_succ]
          go_big_quiet_want
          refine ⟨.bool true, fun W hW => ?_, ?_⟩
          · obtain ⟨hx, hy, _, _, _⟩ := hW
            go_simp
          go_big_quiet_on
          simp only [Act.put, List.setIfInBounds_toArray, List.set_cons_zero, List.set_cons_succ]
          go_big_quiet_want
          refine ⟨.string a, fun W hW => ?_, ?_⟩
          · obtain ⟨hx, hy, _, _, _⟩ := hW
            go_simp
          go_big_quiet_on
          simp only [Act.put, List.setIfInBounds_toArray, List.set_cons_zero, List.set_cons_succ]
          go_big_quiet_want
          refine ⟨.string b, fun W hW => ?_, ?_⟩
          · obtain ⟨hx, hy, _, _, _⟩ := hW
            go_simp
          go_big_quiet_on
          simp only [Act.put, List.setIfInBounds_toArray, List.set_cons_zero, List.set_cons_succ]
          go_big_quiet_want
          refine ⟨.bool true, fun W hW => ?_, ?_⟩
          · obtain ⟨hx, hy, _, _, _⟩ := hW
            go_simp
          go_big_quiet_on
          simp only [Act.put, List.setIfInBounds_toArray, List.set_cons_zero, List.set_cons_succ]
          go_big_quiet_want
          refine ⟨.bool true, fun W hW => ?_, ?_⟩
          · obtain ⟨hx, hy, _, _, _⟩ := hW
            go_simp
          go_big_quiet_on
          simp only [Act.put, List.setIfInBounds_toArray, List.set_cons_zero, List.set_cons_succ]
          go_big_quiet_want
          refine ⟨.bool true, fun W hW => ?_, ?_⟩
          · obtain ⟨hx, hy, _, _, _⟩ := hW
            go_simp
          go_big_quiet_on
          simp only [Act.put, List.setIfInBounds_toArray, List.set_cons_zero, List.set_cons_succ]
          go_big_quiet_want
          refine ⟨.bool true, fun W hW => ?_, ?_⟩
          · obtain ⟨hx, hy, _, _, _⟩ := hW
            go_simp
          go_big_quiet_on
          simp only [Act.put, List.setIfInBounds_toArray, List.set_cons_zero, List.set_cons_succ]
          refine wpQuiet_nil ?_
          intro W hW
          go_wp2
          go_ret
          exact ⟨rfl, hW.2.2.2.2⟩
end Go.Proofs.Ytdgglglemdbgcaa
