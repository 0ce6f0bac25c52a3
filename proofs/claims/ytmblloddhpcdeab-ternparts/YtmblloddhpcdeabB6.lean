import Derived.Test.YtmblloddhpcdeabB5
import Derived.Deep.RegionHeld3
namespace Go.Proofs.Ytmblloddhpcdeab
open Go.RowKit

theorem own_cel {W : World} {B g cap k : Nat} {L : List (List UInt8)} (hown : W.ownsRow B 26 9 (.slice (some ⟨g, 0, none⟩) L.length cap) L.length (cels L)) (hk : k < L.length) (m : Nat) (hm : m < 9) : W.cell? ⟨g, k * 9 + m, none⟩ = (cel L[k])[m]? := by
  rw [hown.cellAt (k * 9 + m) (by omega), cels_get L k m hm, List.getElem?_eq_getElem hk]
  rfl

theorem cnt_le (h : List UInt8) (L : List (List UInt8)) (k : Nat) : cnt h (L.take k) ≤ L.length := by
  have h1 : cnt h (L.take k) ≤ (L.take k).length := List.countP_le_length
  have h2 : (L.take k).length ≤ L.length := by simp; omega
  omega

theorem cnt_step (h : List UInt8) (L : List (List UInt8)) (k : Nat) (hk : k < L.length) (q : Bool) (hq : hasB L[k] h = q) : cnt h (L.take (k + 1)) = cnt h (L.take k) + (if q = true then 1 else 0) := by
  unfold cnt
  rw [List.take_add_one, List.countP_append, List.getElem?_eq_getElem hk]
  simp [List.countP_cons, hq]

set_option maxRecDepth 100000 in
set_option maxHeartbeats 4000000 in
theorem ternParts_on (t r h : ByteArray) (T R : List UInt8) (ET ER : Int) (w : World) (ht : t.size ≤ maxLen) (hr : r.size ≤ maxLen) (hh : h.size ≤ maxLen)
    (hT0 : cubeT t.data.toList = T) (hR0 : cubeT r.data.toList = R) (hET0 : refP t.data.toList = ET) (hER0 : refP r.data.toList = ER)
    (hqt0 : cubB t.data.toList = true) (hqr0 : cubB r.data.toList = true) (hqh0 : (hdB h.data.toList && ((h.size : Int) == (t.size : Int))) = true)
    (L : List (List UInt8)) (q1 q2 : Bool) (gT : good T = true) (gR : good R = true) (htl : t.size ≤ 256) (hrl : r.size ≤ 256) (hz0 : t.size = h.size) (hzr0 : r.size = h.size)
    (h10 : hasB T h.data.toList = q1) (he10 : hoB t.data.toList h.data.toList = q1) (h20 : hasB R h.data.toList = q2) (he20 : hoB r.data.toList h.data.toList = q2)
    (hL0 : splT T R = L) (gL0 : ∀ x ∈ L, good x = true) (hLl : L.length ≤ 256) (hc0 : cnt h.data.toList L = if (q1 && !q2) = true then 1 else 0) (e2 : ((t.size : Int) != (r.size : Int)) = false) :
    Calls Try.prog 3 #[.string t, .string r, .string h] w fun e w' => e = .returned (.bool true) ∧ Below w.heap.size w w' := by
  have hT : Hid (cubeT t.data.toList = T) := hT0
  have hR : Hid (cubeT r.data.toList = R) := hR0
  have hET : Hid (refP t.data.toList = ET) := hET0
  have hER : Hid (refP r.data.toList = ER) := hER0
  clear hT0 hR0 hET0 hER0
  have hqt : Hid (cubB t.data.toList = true) := hqt0
  have hqr : Hid (cubB r.data.toList = true) := hqr0
  have hqh : Hid ((hdB h.data.toList && ((h.size : Int) == (t.size : Int))) = true) := hqh0
  have hz : Hid (t.size = h.size) := hz0
  have hzr : Hid (r.size = h.size) := hzr0
  have h1 : Hid (hasB T h.data.toList = q1) := h10
  have he1 : Hid (hoB t.data.toList h.data.toList = q1) := he10
  have h2 : Hid (hasB R h.data.toList = q2) := h20
  have he2 : Hid (hoB r.data.toList h.data.toList = q2) := he20
  have hL : Hid (splT T R = L) := hL0
  have gL : Hid (∀ x ∈ L, good x = true) := gL0
  have hc : Hid (cnt h.data.toList L = if (q1 && !q2) = true then 1 else 0) := hc0
  clear hqt0 hqr0 hqh0 hz0 hzr0 h10 he10 h20 he20 hL0 gL0 hc0
  unfold maxLen at ht hr hh
  go_enter Try.func3, Try.ntmps3
  go_wp2_with fail
  refine (parse_D t _ ht T ET hT.out hET.out).mono ?_
  rintro e w1 ⟨rfl, hb1⟩
  have B1 := hb1
  unfold cubeV cv
  go_wp2_with fail
  refine (parse_D r _ hr R ER hR.out hER.out).mono ?_
  rintro e w2 ⟨rfl, hb2⟩
  have kX : w2.heap[w1.heap.size]? = some (.cells (#[.int .i64 (T.length : Int), .int .u64 (FW T 0 : Int), .int .u64 (FW T 1 : Int), .int .u64 (FW T 2 : Int), .int .u64 (FW T 3 : Int), .int .u64 (OW T 0 : Int), .int .u64 (OW T 1 : Int), .int .u64 (OW T 2 : Int), .int .u64 (OW T 3 : Int)]) 26 (0, 0)) := keepblk hb2 (alloc_get _ _)
  have cX_2 := (cells_block kX).1
  have zX_2 := lt_of_get kX
  have B2 := bel0 (belA B1 _) hb2
  unfold cubeV cv
  go_wp2_with fail
  refine (cube_D t true _ ht hqt.out).mono ?_
  rintro e w' ⟨rfl, rfl⟩
  go_wp2_with fail
  refine (cube_D r true _ hr hqr.out).mono ?_
  rintro e w' ⟨rfl, rfl⟩
  go_wp2_with fail
  refine (header_D h _ true _ hh hqh.out).mono ?_
  rintro e w' ⟨rfl, rfl⟩
  have ee1 : (q1 != q1) = false := by simp
  have ee2 : (q2 != q2) = false := by simp
  go_wp2_with fail
  refine (has_D T h q1 _ gT hh h1.out).mono ?_
  rintro e w3 ⟨rfl, hb3⟩
  replace kX := keepblk hb3 (allocblk kX _)
  have kY : w3.heap[w2.heap.size]? = some (.cells (#[.int .i64 (R.length : Int), .int .u64 (FW R 0 : Int), .int .u64 (FW R 1 : Int), .int .u64 (FW R 2 : Int), .int .u64 (FW R 3 : Int), .int .u64 (OW R 0 : Int), .int .u64 (OW R 1 : Int), .int .u64 (OW R 2 : Int), .int .u64 (OW R 3 : Int)]) 26 (0, 0)) := keepblk hb3 (alloc_get _ _)
  have cX_3 := (cells_block kX).1
  have zX_3 := lt_of_get kX
  have cY_3 := (cells_block kY).1
  have zY_3 := lt_of_get kY
  have B3 := bel0 (belA B2 _) hb3
  go_wp2_with fail
  refine (holds_D t h q1 _ htl hz.out he1.out).mono ?_
  rintro e w4 ⟨rfl, hb4⟩
  replace kX := keepblk hb4 kX
  replace kY := keepblk hb4 kY
  have cY_4 := (cells_block kY).1
  have zY_4 := lt_of_get kY
  have B4 := bel0 B3 hb4
  go_wp2_with fail
  refine (has_D R h q2 _ gR hh h2.out).mono ?_
  rintro e w5 ⟨rfl, hb5⟩
  replace kX := keepblk hb5 kX
  replace kY := keepblk hb5 kY
  have B5 := bel0 B4 hb5
  go_wp2_with fail
  refine (holds_D r h q2 _ hrl hzr.out he2.out).mono ?_
  rintro e w6 ⟨rfl, hb6⟩
  replace kX := keepblk hb6 kX
  replace kY := keepblk hb6 kY
  have B6 := bel0 B5 hb6
  have cX_6 := (cells_block kX).1
  have cY_6 := (cells_block kY).1
  clear hb1 hb2 hb3 hb4 hb5 hb6 B1 B2 B3 B4 B5 cX_2 cX_3 cY_3 cY_4 zX_2 zX_3 zY_3 zY_4
  go_wp2_with fail
  refine (split_any T R L _ gT gR hL.out).mono ?_
  rintro e w7 ⟨V, rfl, hown7, hb7⟩
  have hown8 := own_base hown7 (show w.heap.size ≤ _ from B6.size)
  have B7 := bel0 B6 hb7
  clear hown7 hb7 B6 cX_6 cY_6 kX kY
  rcases hown8.2 with ⟨rfl, hn0⟩ | ⟨g, cap, cur, rfl, hg1, hg2, hg3, hg4, hg5, hg6⟩
  · obtain rfl : L = [] := List.eq_nil_of_length_eq_zero hn0
    have hC2 : Hid (0 = if (q1 && !q2) = true then 1 else 0) := hc.out
    clear hc hown8 hn0 hLl gL hL
    go_wp2_with fail
    go_loopw [11, 13] (fun n i wr => i = .int .i64 0 ∧ n = .int .i64 0 ∧ Below w.heap.size w wr) (fun _ _ _ => 0)
    case atStart => exact ⟨rfl, rfl, B7⟩
    case round =>
      clear B7
      obtain ⟨rfl, rfl, hB⟩ := hrel
      go_wp2_with fail
      refine (holds_D t h q1 _ htl hz.out he1.out).mono ?_
      rintro e wA ⟨rfl, hbA⟩
      cases q1
      · go_wp2_with fail
        go_ret
        exact ⟨rfl, bel0 hB hbA⟩
      · go_wp2_with fail
        refine (holds_D r h q2 _ hrl hzr.out he2.out).mono ?_
        rintro e wB ⟨rfl, hbB⟩
        cases q2
        · exact absurd hC2.out (by decide)
        · go_wp2_with fail
          go_ret
          exact ⟨rfl, bel0 (bel0 hB hbA) hbB⟩
  · clear hg1 hg2 hg5 hg6
    go_wp2_with fail
    go_loopw [11, 13] (fun n i wr => ∃ k : Nat, k ≤ L.length ∧ i = .int .i64 k ∧ n = .int .i64 (cnt h.data.toList (L.take k) : Nat) ∧ wr.ownsRow w.heap.size 26 9 (.slice (some ⟨g, 0, none⟩) L.length cap) L.length (cels L) ∧ Below w.heap.size w wr) (fun _ i _ => L.length - (intOf i).toNat)
    case atStart => exact ⟨0, Nat.zero_le _, rfl, rfl, hown8, B7⟩
    case round =>
      clear hown8 B7
      obtain ⟨k, hk, rfl, rfl, hown, hB⟩ := hrel
      by_cases hlt : k < L.length
      · have i0 : (0 : Int) ≤ (k : Int) := by omega
        have i1 : (k : Int) < (L.length : Int) := by omega
        obtain ⟨P, hP⟩ : ∃ P, L[k] = P := ⟨_, rfl⟩
        have gP : good P = true := gL.out P (by rw [← hP]; exact List.getElem_mem hlt)
        have cc := fun m hm => own_cel hown hlt m hm
        rw [hP] at cc
        have c0 : wr.cell? ⟨g, k * 9, none⟩ = some (.int .i64 (P.length : Int)) := cc 0 (by omega)
        have c1 : wr.cell? ⟨g, k * 9 + 1, none⟩ = some (.int .u64 (FW P 0 : Int)) := cc 1 (by omega)
        have c2 : wr.cell? ⟨g, k * 9 + 2, none⟩ = some (.int .u64 (FW P 1 : Int)) := cc 2 (by omega)
        have c3 : wr.cell? ⟨g, k * 9 + 3, none⟩ = some (.int .u64 (FW P 2 : Int)) := cc 3 (by omega)
        have c4 : wr.cell? ⟨g, k * 9 + 4, none⟩ = some (.int .u64 (FW P 3 : Int)) := cc 4 (by omega)
        have c5 : wr.cell? ⟨g, k * 9 + 5, none⟩ = some (.int .u64 (OW P 0 : Int)) := cc 5 (by omega)
        have c6 : wr.cell? ⟨g, k * 9 + 6, none⟩ = some (.int .u64 (OW P 1 : Int)) := cc 6 (by omega)
        have c7 : wr.cell? ⟨g, k * 9 + 7, none⟩ = some (.int .u64 (OW P 2 : Int)) := cc 7 (by omega)
        have c8 : wr.cell? ⟨g, k * 9 + 8, none⟩ = some (.int .u64 (OW P 3 : Int)) := cc 8 (by omega)
        obtain ⟨qp, hqp⟩ : ∃ q, hasB P h.data.toList = q := ⟨_, rfl⟩
        have hst : Hid (cnt h.data.toList (L.take (k + 1)) = cnt h.data.toList (L.take k) + (if qp = true then 1 else 0)) := cnt_step _ L k hlt qp (by rw [hP]; exact hqp)
        have hcl := cnt_le h.data.toList L k
        have HP : Hid (hasB P h.data.toList = qp) := hqp
        clear cc hP hqp
        go_wp2_with fail
        refine (has_D P h qp _ gP hh HP.out).mono ?_
        rintro e w9 ⟨rfl, hb9⟩
        have hown9 := owns_below hown hb9
        have B9 := bel0 hB hb9
        clear c0 c1 c2 c3 c4 c5 c6 c7 c8 hown hB hb9
        obtain ⟨N, hN⟩ : ∃ N, cnt h.data.toList (L.take k) = N := ⟨_, rfl⟩
        rw [hN] at hcl ⊢
        cases qp
        · go_wp2
          go_roundw
          case rel => exact ⟨k + 1, by omega, by go_num, by rw [hst.out, hN]; rfl, hown9, B9⟩
          case measure => simp [intOf]; omega
        · go_wp2
          go_roundw
          case rel => exact ⟨k + 1, by omega, by go_num, by rw [hst.out, hN]; go_num, hown9, B9⟩
          case measure => simp [intOf]; omega
      · have hkn : L.take k = L := List.take_of_length_le (by omega)
        obtain ⟨C, hC⟩ : ∃ C, cnt h.data.toList (L.take k) = C := ⟨_, rfl⟩
        have hC2 : Hid (C = if (q1 && !q2) = true then 1 else 0) := by unfold Hid; rw [← hC, hkn]; exact hc.out
        have hCl := cnt_le h.data.toList L k
        rw [hC] at hCl ⊢
        have i2 : ¬ (k : Int) < (L.length : Int) := by omega
        clear hc hkn hC
        go_wp2_with fail
        refine (holds_D t h q1 _ htl hz.out he1.out).mono ?_
        rintro e wA ⟨rfl, hbA⟩
        cases q1
        · obtain rfl : C = 0 := hC2.out
          go_wp2_with fail
          go_ret
          exact ⟨rfl, bel0 hB hbA⟩
        · go_wp2_with fail
          refine (holds_D r h q2 _ hrl hzr.out he2.out).mono ?_
          rintro e wB ⟨rfl, hbB⟩
          cases q2
          · obtain rfl : C = 1 := hC2.out
            go_wp2_with fail
            go_ret
            exact ⟨rfl, bel0 (bel0 hB hbA) hbB⟩
          · obtain rfl : C = 0 := hC2.out
            go_wp2_with fail
            go_ret
            exact ⟨rfl, bel0 (bel0 hB hbA) hbB⟩
end Go.Proofs.Ytmblloddhpcdeab
