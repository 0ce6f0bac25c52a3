import Derived.Test.YtmblloddhpcdeacH2
import Derived.Test.YtmblloddhpcdeacW15
import Derived.Deep.DeepCutAuto
namespace Go.Proofs.Ytmblloddhpcdeac
open Go.RowKit

theorem text_xx2 (w : World) : Calls Try.prog 13 #[cubeV (allT 2)] w fun e w' => e = .returned (.string ⟨#[120, 120]⟩) ∧ Below w.heap.size w w' :=
  text_any (allT 2) w (good_allT 2)

set_option maxRecDepth 100000 in
set_option maxHeartbeats 2000000 in
theorem ternImages_off (t r h : ByteArray) (T R : List UInt8) (ET ER : Int) (w : World) (ht : t.size ≤ maxLen) (hr : r.size ≤ maxLen) (hh : h.size ≤ maxLen)
    (hT0 : cubeT t.data.toList = T) (hR0 : cubeT r.data.toList = R) (hET0 : refP t.data.toList = ET) (hER0 : refP r.data.toList = ER) (qt qr qh : Bool) (hqt0 : cubB t.data.toList = qt) (hqr0 : cubB r.data.toList = qr) (hqh0 : (hdB h.data.toList && ((h.size : Int) == (t.size : Int))) = qh)
    (H0 : qt = false ∨ qr = false ∨ qh = false ∨ t.size ≠ r.size) :
    Calls Try.prog 3 #[.string t, .string r, .string h] w fun e w' => e = .returned (.bool true) ∧ Below w.heap.size w w' := by
  have hT : Hid (cubeT t.data.toList = T) := hT0
  have hR : Hid (cubeT r.data.toList = R) := hR0
  have hET : Hid (refP t.data.toList = ET) := hET0
  have hER : Hid (refP r.data.toList = ER) := hER0
  clear hT0 hR0 hET0 hER0
  have hqt : Hid (cubB t.data.toList = qt) := hqt0
  have hqr : Hid (cubB r.data.toList = qr) := hqr0
  have hqh : Hid ((hdB h.data.toList && ((h.size : Int) == (t.size : Int))) = qh) := hqh0
  have H : Hid (qt = false ∨ qr = false ∨ qh = false ∨ t.size ≠ r.size) := H0
  clear hqt0 hqr0 hqh0 H0
  unfold maxLen at ht hr hh
  go_enter Try.func3, Try.ntmps3
  go_wp2_with fail
  refine (parse_D t _ ht T ET hT.out hET.out).mono ?_
  rintro e w1 ⟨rfl, hb1⟩
  have B1 := hb1
  unfold cubeV cv
  go_wp2_with fail
  refine (parse_D r _ hr R ER hR.out hER.out).mono ?_
  rintro e w2 ⟨rfl, hb2⟩
  have kX : w2.heap[w1.heap.size]? = some (.cells (#[.int .i64 (T.length : Int), .int .u64 (FW T 0 : Int), .int .u64 (FW T 1 : Int), .int .u64 (FW T 2 : Int), .int .u64 (FW T 3 : Int), .int .u64 (OW T 0 : Int), .int .u64 (OW T 1 : Int), .int .u64 (OW T 2 : Int), .int .u64 (OW T 3 : Int)]) 26 (0, 0)) := keepblk hb2 (alloc_get _ _)
  have cX_2 := (cells_block kX).1
  have zX_2 := lt_of_get kX
  have B2 := bel0 (belA B1 _) hb2
  unfold cubeV cv
  clear kX cX_2 zX_2 hb1 hb2 B1
  go_wp2_with fail
  refine (cube_D t qt _ ht hqt.out).mono ?_
  rintro e w' ⟨rfl, rfl⟩
  cases qt
  · clear H
    go_wp2_with fail
    refine (allV 2 _).mono ?_
    rintro e wA ⟨rfl, hbA⟩
    go_wp2_with fail
    refine (text_xx2 _).mono ?_
    rintro e wT ⟨rfl, hbT⟩
    go_wp2_with fail
    go_ret
    exact ⟨rfl, bel0 (bel0 (belA B2 _) hbA) hbT⟩
  go_wp2_with fail
  refine (cube_D r qr _ hr hqr.out).mono ?_
  rintro e w' ⟨rfl, rfl⟩
  cases qr
  · clear H
    go_wp2_with fail
    refine (allV 2 _).mono ?_
    rintro e wA ⟨rfl, hbA⟩
    go_wp2_with fail
    refine (text_xx2 _).mono ?_
    rintro e wT ⟨rfl, hbT⟩
    go_wp2_with fail
    go_ret
    exact ⟨rfl, bel0 (bel0 (belA B2 _) hbA) hbT⟩
  go_wp2_with fail
  refine (header_D h _ qh _ hh hqh.out).mono ?_
  rintro e w' ⟨rfl, rfl⟩
  cases qh
  · clear H
    go_wp2_with fail
    refine (allV 2 _).mono ?_
    rintro e wA ⟨rfl, hbA⟩
    go_wp2_with fail
    refine (text_xx2 _).mono ?_
    rintro e wT ⟨rfl, hbT⟩
    go_wp2_with fail
    go_ret
    exact ⟨rfl, bel0 (bel0 (belA B2 _) hbA) hbT⟩
  have h2 : t.size ≠ r.size := by
    rcases H.out with h | h | h | h
    · cases h
    · cases h
    · cases h
    · exact h
  have e1 : ((t.size : Int) != (r.size : Int)) = true := by simp; omega
  clear H h2
  go_wp2_with fail
  refine (allV 2 _).mono ?_
  rintro e wA ⟨rfl, hbA⟩
  go_wp2_with fail
  refine (text_xx2 _).mono ?_
  rintro e wT ⟨rfl, hbT⟩
  go_wp2_with fail
  go_ret
  exact ⟨rfl, bel0 (bel0 (belA B2 _) hbA) hbT⟩
end Go.Proofs.Ytmblloddhpcdeac
