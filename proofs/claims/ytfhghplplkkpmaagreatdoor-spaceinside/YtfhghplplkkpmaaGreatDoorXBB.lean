import Derived.Test.YtfhghplplkkpmaaGreatDoorXBA
import Derived.Test.YtfhghplplkkpmaaGreatDoorXAX
import Derived.Test.YtfhghplplkkpmaaGreatDoorXAV
import Derived.Test.YtfhghplplkkpmaaGreatDoorXAA
namespace Go.Proofs.YtfhghplplkkpmaaGreatDoor
open Go.RowKit Go.Shelf
theorem own_zero {W : World} {B T k n : Nat} {v : Value} {xs : List Value} (h : W.ownsRow B T k v n xs) : W.ownsRow 0 T k v n xs := own_base h (Nat.zero_le _)
theorem pgA_cons (Y : List (List UInt8 × List (List UInt8))) (u : List UInt8 × List (List UInt8)) (r : List (List UInt8 × List (List UInt8))) : pgA Y (u :: r) = if 2048 < Y.length * (1 + u.2.length) then none else if szC (topC (stl (wtN Y u.1 u.2))) ≤ 128 then pgA (topC (stl (wtN Y u.1 u.2))) r else none := rfl
set_option maxRecDepth 100000 in
set_option maxHeartbeats 8000000 in
theorem minus1_any (b b2 : Int) (A C : List (List UInt8 × List (List UInt8))) (B1 B2 : Nat) (p1 p2 : Option Addr) (n1 n2 k1 k2 c1 c2 : Nat) (w : World) (h1 : SPL w B1 (.slice p1 n1 k1) A) (h2 : SPL w B2 (.slice p2 n2 k2) C) (d1 : w.heap[c1]? = some (.cells #[.int .i64 b, .slice p1 n1 k1, .bool false] 26 (0, 0))) (d2 : w.heap[c2]? = some (.cells #[.int .i64 b2, .slice p2 n2 k2, .bool false] 26 (0, 0))) (hs1 : szC A ≤ 128) (hs2 : szC C ≤ 128) (hg1 : gdC A) (hg2 : gdC C) (hsd : ∀ y ∈ A, Sd y) :
    Calls Tryz.prog 42 #[.pointer (some ⟨c1, 0, none⟩), .pointer (some ⟨c2, 0, none⟩)] w fun e w' => Below w.heap.size w w' ∧ ((∃ R V, pgA A C = some R ∧ e = .returned (.agg #[.int .i64 b, V, .bool false]) ∧ SPL w' w.heap.size V (ordT R)) ∨ (pgA A C = none ∧ e = .panicked [{ v := .iface 89 (.agg #[]), recovered := false }])) := by
  obtain ⟨Z1, rfl, r1, l1⟩ := h1
  obtain ⟨Z2, rfl, r2, l2⟩ := h2
  have hq1 := szC_len (Z1.map ZT.cont)
  have hq2 := szC_len (Z2.map ZT.cont)
  rw [List.length_map] at hq1 hq2
  have hn1 : Z1.length = n1 := by
    rcases own_shapeQ r1 with ⟨e1, e2⟩ | ⟨g, c, e1, -⟩
    · injection e1 with _ e3 _; omega
    · injection e1 with _ e3 _; omega
  have hn2 : Z2.length = n2 := by
    rcases own_shapeQ r2 with ⟨e1, e2⟩ | ⟨g, c, e1, -⟩
    · injection e1 with _ e3 _; omega
    · injection e1 with _ e3 _; omega
  rw [hn1] at r1 hq1
  rw [hn2] at r2 hq2
  have HZ2 : Hid (∀ W, Below w.heap.size w W → IRZ W p2 Z2 ∧ ∀ z ∈ Z2, ZOK W z ∧ z.L.length ≤ 128) := fun W hW => ⟨(IRZ_own r2 hn2).later hW, fun z hz => by
    have hm := szC_mem z.cont (List.mem_map_of_mem (f := ZT.cont) hz)
    have e : z.cont.2 = z.L := rfl
    rw [e] at hm
    exact ⟨⟨IRK_own (own_belQ (l2 z hz) hW) rfl, by omega, hg2 z.cont (List.mem_map_of_mem (f := ZT.cont) hz)⟩, by omega⟩⟩
  obtain ⟨w2, hw2⟩ : ∃ w2, w.alloc (.cells #[.int .i64 0, .slice none 0 0, .bool false] 26 (0, 0)) = w2 := ⟨_, rfl⟩
  have hA : w2.heap[w.heap.size]? = some (.cells #[.int .i64 0, .slice none 0 0, .bool false] 26 (0, 0)) := by rw [← hw2]; exact alloc_get _ _
  have hB2 : Below w.heap.size w w2 := by rw [← hw2]; exact belA (Below.refl _ _) _
  have HA : Hid (w2.heap[w.heap.size]? = some (.cells #[.int .i64 0, .slice none 0 0, .bool false] 26 (0, 0)) ∧ Below w.heap.size w w2 ∧ w.heap.size < w2.heap.size) := ⟨hA, hB2, lt_of_get3 hA⟩
  have HK : Hid (∀ W, Below w2.heap.size w2 W → (∀ j, W.cell? ⟨c1, j, none⟩ = (#[.int .i64 b, .slice p1 n1 k1, .bool false] : Array Value)[j]?) ∧ (∀ j, W.cell? ⟨c2, j, none⟩ = (#[.int .i64 b2, .slice p2 n2 k2, .bool false] : Array Value)[j]?)) := fun W hW => ⟨(cells_block (keepblk3 (bel0 hB2 hW) d1)).1, (cells_block (keepblk3 (bel0 hB2 hW) d2)).1⟩
  have HN : Hid (Z1.length = n1 ∧ Z2.length = n2 ∧ n1 ≤ 128 ∧ n2 ≤ 128) := ⟨hn1, hn2, by omega, by omega⟩
  have HI0 : Hid (∀ W, Below w2.heap.size w2 W → (Below w2.heap.size w2 W ∧ ∃ Zr : List ZT, pgA (Z1.map ZT.cont) (Z2.map ZT.cont) = pgA (Zr.map ZT.cont) ((Z2.map ZT.cont).drop 0) ∧ szC (Zr.map ZT.cont) ≤ 128 ∧ (∀ y ∈ Zr.map ZT.cont, Sd y) ∧ W.ownsRow 0 62 10 (.slice p1 n1 k1) Zr.length (tes Zr) ∧ ∀ z ∈ Zr, ZOK W z)) := fun W hW => by
    have hB := bel0 hB2 hW
    refine ⟨hW, Z1, rfl, hs1, hsd, by rw [hn1]; exact own_zero (own_belQ r1 hB), fun z hz => ?_⟩
    have hm := szC_mem z.cont (List.mem_map_of_mem (f := ZT.cont) hz)
    have e : z.cont.2 = z.L := rfl
    rw [e] at hm
    exact ⟨IRK_own (own_belQ (l1 z hz) hB) rfl, by omega, hg1 z.cont (List.mem_map_of_mem (f := ZT.cont) hz)⟩
  obtain ⟨hka, hkb⟩ := HK.out w2 (Below.refl _ _)
  have hfl := fld1
  have hb2n : n2 ≤ 128 := HN.out.2.2.2
  clear hA hB2 d1 d2 r1 r2 l1 l2 hq1 hq2 hn1 hn2 hs1 hs2 hg1 hg2 hsd
  go_enter Tryz.func42, Tryz.ntmps42
  go_wp2_with fail
  refine (inForm_any _ _ _ _ _).mono ?_
  rintro e W1 ⟨rfl, hb1⟩
  obtain ⟨hkc, hkd⟩ := HK.out W1 hb1
  clear hw2 hka hkb
  go_wp2_with fail
  refine (inForm_any _ _ _ _ _).mono ?_
  rintro e W2 ⟨rfl, hb2⟩
  have HS0 := HI0.out W2 (bel0 hb1 hb2)
  have HS1 : Hid (Below w2.heap.size w2 W2 ∧ ∃ Zr : List ZT, pgA (Z1.map ZT.cont) (Z2.map ZT.cont) = pgA (Zr.map ZT.cont) ((Z2.map ZT.cont).drop 0) ∧ szC (Zr.map ZT.cont) ≤ 128 ∧ (∀ y ∈ Zr.map ZT.cont, Sd y) ∧ W2.ownsRow 0 62 10 (.slice p1 n1 k1) Zr.length (tes Zr) ∧ ∀ z ∈ Zr, ZOK W2 z) := HS0
  clear hkc hkd HI0 HS0 hb1 hb2
  go_wp2_with fail
  go_loopw [3, 13] (fun v3 v13 wr => ∃ i : Nat, v13 = .int .i64 (i : Int) ∧ i ≤ n2 ∧ Hid (Below w2.heap.size w2 wr ∧ ∃ Zr : List ZT, pgA (Z1.map ZT.cont) (Z2.map ZT.cont) = pgA (Zr.map ZT.cont) ((Z2.map ZT.cont).drop i) ∧ szC (Zr.map ZT.cont) ≤ 128 ∧ (∀ y ∈ Zr.map ZT.cont, Sd y) ∧ wr.ownsRow 0 62 10 v3 Zr.length (tes Zr) ∧ ∀ z ∈ Zr, ZOK wr z)) (fun _ v13 _ => n2 - (intOf v13).toNat)
  case atStart => exact ⟨0, rfl, Nat.zero_le _, HS1⟩
  case round =>
    clear HS1
    obtain ⟨i, rfl, hi, hZ⟩ := hrel
    obtain ⟨hB, Zr, e1, e2, e3, e4, e5⟩ := hZ.out
    obtain ⟨p3, k3, rfl⟩ := shapeQ1 e4
    have hlen := szC_len (Zr.map ZT.cont)
    rw [List.length_map] at hlen
    by_cases hlt : i < n2
    · have j1 : (i : Int) < (n2 : Int) := by omega
      have j0 : (0 : Int) ≤ (i : Int) := by omega
      obtain ⟨zu, hzu⟩ : ∃ z, Z2[i]? = some z := ⟨_, List.getElem?_eq_getElem (by rw [HN.out.2.1]; exact hlt)⟩
      obtain ⟨uc, uq, uk, uL⟩ := zu
      obtain ⟨iz, gz⟩ := HZ2.out wr (bel0 HA.out.2.1 hB)
      obtain ⟨gu, ou, rfl, q0, q1, q2, q3, q4, q5, q6, q7, q8, q9⟩ := iz wr (Below.refl _ _) i _ hzu
      simp only at q0 q1 q2 q3 q4 q5 q6 q7 q8 q9
      have hzok := gz _ (List.mem_of_getElem? hzu)
      have hdr : (Z2.map ZT.cont).drop i = (uc, uL) :: (Z2.map ZT.cont).drop (i + 1) := drop_at (by rw [List.getElem?_map, hzu]; rfl)
      obtain ⟨n2u, hn2u⟩ : ∃ n, uL.length = n := ⟨_, rfl⟩
      obtain ⟨wa, hwa⟩ : ∃ wa, wr.alloc (.cells #[.int .i64 (uc.length : Int), .int .u64 (FW uc 0 : Int), .int .u64 (FW uc 1 : Int), .int .u64 (FW uc 2 : Int), .int .u64 (FW uc 3 : Int), .int .u64 (OW uc 0 : Int), .int .u64 (OW uc 1 : Int), .int .u64 (OW uc 2 : Int), .int .u64 (OW uc 3 : Int), .slice uq n2u uk] 62 (0, 0)) = wa := ⟨_, rfl⟩
      have hal : Below wr.heap.size wr wa := by rw [← hwa]; exact belA (Below.refl _ _) _
      have hgt : wa.heap[wr.heap.size]? = some (.cells #[.int .i64 (uc.length : Int), .int .u64 (FW uc 0 : Int), .int .u64 (FW uc 1 : Int), .int .u64 (FW uc 2 : Int), .int .u64 (FW uc 3 : Int), .int .u64 (OW uc 0 : Int), .int .u64 (OW uc 1 : Int), .int .u64 (OW uc 2 : Int), .int .u64 (OW uc 3 : Int), .slice uq n2u uk] 62 (0, 0)) := by rw [← hwa]; exact alloc_get _ _
      obtain ⟨hcT, -⟩ := cells_block hgt
      have hWO := without_any Zr Zr.length p3 k3 uc uL uq n2u uk wa rfl hn2u (by omega) (by have := hzok.2; simp only at this; omega) (IRZ_own (own_belQ e4 hal) rfl) (fun z hz => by
        have hm := szC_mem z.cont (List.mem_map_of_mem (f := ZT.cont) hz)
        have e : z.cont.2 = z.L := rfl
        rw [e] at hm
        exact ⟨(e5 z hz).later (KC_below hal), by omega, e3 z.cont (List.mem_map_of_mem (f := ZT.cont) hz)⟩) (hzok.1.1.later (KC_below hal)) hzok.1.2.2.1 hzok.1.2.2.2
      have HSD : Hid (∀ y ∈ topC (stl (wtN (Zr.map ZT.cont) uc uL)), Sd y) := Sd_top (Sd_wt e3 hzok.1.2.2.1 hzok.1.2.2.2)
      have HPG : Hid (pgA (Z1.map ZT.cont) (Z2.map ZT.cont) = if 2048 < Zr.length * (1 + n2u) then none else if szC (topC (stl (wtN (Zr.map ZT.cont) uc uL))) ≤ 128 then pgA (topC (stl (wtN (Zr.map ZT.cont) uc uL))) ((Z2.map ZT.cont).drop (i + 1)) else none) := by
        unfold Hid
        rw [e1, hdr, ← hn2u, pgA_cons, List.length_map]
      rw [hn2u] at q9
      obtain ⟨nr, hnr⟩ : ∃ n, Zr.length = n := ⟨_, rfl⟩
      rw [hnr] at hWO HPG ⊢
      have HWO : Hid (Calls Tryz.prog 43 #[.slice p3 nr k3, .agg #[.int .i64 (uc.length : Int), .int .u64 (FW uc 0 : Int), .int .u64 (FW uc 1 : Int), .int .u64 (FW uc 2 : Int), .int .u64 (FW uc 3 : Int), .int .u64 (OW uc 0 : Int), .int .u64 (OW uc 1 : Int), .int .u64 (OW uc 2 : Int), .int .u64 (OW uc 3 : Int), .slice uq n2u uk]] wa _) := hWO
      have HB : Hid (Below w2.heap.size w2 wa) := bel0 hB hal
      clear e1 e2 e3 e4 e5 hlen hZ hgt hal hzu hzok hdr hn2u hWO iz gz hB
      go_wp2_with fail
      refine HWO.out.mono ?_
      rintro e W3 ⟨hb3, ⟨f1, f2, ZZ, v, rfl, f3, f4, f5⟩ | ⟨f1, rfl⟩⟩
      · have HX : Hid (Below w2.heap.size w2 W3 ∧ ∃ Zr : List ZT, pgA (Z1.map ZT.cont) (Z2.map ZT.cont) = pgA (Zr.map ZT.cont) ((Z2.map ZT.cont).drop (i + 1)) ∧ szC (Zr.map ZT.cont) ≤ 128 ∧ (∀ y ∈ Zr.map ZT.cont, Sd y) ∧ W3.ownsRow 0 62 10 v Zr.length (tes Zr) ∧ ∀ z ∈ Zr, ZOK W3 z) := by
          refine ⟨bel0 HB.out hb3, ZZ, ?_, by rw [f3]; exact f2, by rw [f3]; exact HSD.out, own_zero f4, f5⟩
          rw [HPG.out, if_neg f1, if_pos f2, f3]
        clear f1 f2 f3 f4 f5 hb3 HWO hwa hcT q0 q1 q2 q3 q4 q5 q6 q7 q8 q9
        go_wp2_with fail
        go_roundw
        case rel => exact ⟨i + 1, by go_num, by omega, HX⟩
        case measure => simp [intOf]; omega
      · have HX : Hid (pgA (Z1.map ZT.cont) (Z2.map ZT.cont) = none ∧ Below w.heap.size w W3) := by
          refine ⟨?_, bel0 HA.out.2.1 (bel0 HB.out hb3)⟩
          rw [HPG.out]
          rcases f1 with f1 | ⟨f1, f2⟩
          · rw [if_pos f1]
          · rw [if_neg f1, if_neg (by omega)]
        clear f1 hb3 HWO hwa hcT q0 q1 q2 q3 q4 q5 q6 q7 q8 q9
        go_wp2_with fail
        exact ⟨rfl, HX.out.2, .inr ⟨HX.out.1, rfl⟩⟩
    · have j1 : ¬ (i : Int) < (n2 : Int) := by omega
      have hpg : pgA (Z1.map ZT.cont) (Z2.map ZT.cont) = some (Zr.map ZT.cont) := by
        rw [e1, List.drop_of_length_le (by rw [List.length_map, HN.out.2.1]; omega)]
        rfl
      have HPG : Hid (pgA (Z1.map ZT.cont) (Z2.map ZT.cont) = some (Zr.map ZT.cont)) := hpg
      obtain ⟨wl, rfl⟩ : ∃ wl, wl = wr := ⟨wr, rfl⟩
      have H2 := inOrder_any b Zr Zr.length p3 k3 wl rfl (by omega) (IRZ_own e4 rfl) e5
      obtain ⟨nr, hnr⟩ : ∃ n, Zr.length = n := ⟨_, rfl⟩
      rw [hnr] at H2 ⊢
      have HIO : Hid (Calls Tryz.prog 33 #[.int .i64 b, .slice p3 nr k3] wl _) := H2
      have HB : Hid (Below w2.heap.size w2 wl) := hB
      obtain ⟨hkc, hkd⟩ := HK.out wl hB
      clear e1 e2 e3 e4 e5 hlen hZ hpg H2 hB
      go_wp2_with fail
      refine HIO.out.mono ?_
      rintro e w10 ⟨V, rfl, s10, hb10⟩
      obtain ⟨p8, c8, rfl⟩ := s10.shape
      obtain ⟨n8, hn8⟩ : ∃ n, (ordT (Zr.map ZT.cont)).length = n := ⟨_, rfl⟩
      rw [hn8] at s10 ⊢
      have hb10' := bel0 HB.out hb10
      have hg10 := keepblk3 hb10' HA.out.1
      obtain ⟨hcR, hfR⟩ := cells_block hg10
      have hlt2 : w.heap.size < wl.heap.size := Nat.lt_of_lt_of_le HA.out.2.2 HB.out.size
      have HP : Hid (Below w.heap.size w (((w10.setCell ⟨w.heap.size, 0, none⟩ (.int .i64 b)).setCell ⟨w.heap.size, 1, none⟩ (.slice p8 n8 c8)).setCell ⟨w.heap.size, 2, none⟩ (.bool false)) ∧ (((w10.setCell ⟨w.heap.size, 0, none⟩ (.int .i64 b)).setCell ⟨w.heap.size, 1, none⟩ (.slice p8 n8 c8)).setCell ⟨w.heap.size, 2, none⟩ (.bool false)).heap[w.heap.size]? = some (.cells #[.int .i64 b, .slice p8 n8 c8, .bool false] 26 (0, 0)) ∧ SPL (((w10.setCell ⟨w.heap.size, 0, none⟩ (.int .i64 b)).setCell ⟨w.heap.size, 1, none⟩ (.slice p8 n8 c8)).setCell ⟨w.heap.size, 2, none⟩ (.bool false)) w.heap.size (.slice p8 n8 c8) (ordT (Zr.map ZT.cont))) := ⟨(((bel0 HA.out.2.1 hb10').setCell (Nat.le_refl _) _).setCell (Nat.le_refl _) _).setCell (Nat.le_refl _) _, put3_get _ _ _ hg10, (s10.kept (gr3 _ _ _ _ _) hlt2).base (Nat.le_of_lt hlt2)⟩
      clear hg10 s10 hkc hkd hb10 hb10' HIO
      go_wp2_with fail
      refine bodyPost_ret (v := .agg #[.int .i64 b, .slice p8 n8 c8, .bool false]) (res_space _ _ w.heap.size _ _ _ Tryz.results42 rfl HP.out.2.1) rfl ?_
      exact ⟨HP.out.1, .inl ⟨_, _, HPG.out, rfl, HP.out.2.2⟩⟩
end Go.Proofs.YtfhghplplkkpmaaGreatDoor
namespace Go.Proofs.YtfhghplplkkpmaaGreatDoor
open Go.RowKit Go.Shelf
set_option maxRecDepth 100000 in
set_option maxHeartbeats 4000000 in
theorem giveN (b : Int) (Ts : List (List UInt8 × List (List UInt8))) (ok : Bool) (c1 c2 : Nat) (w : World) (HO : ∀ W, Below w.heap.size w W → Calls Tryz.prog 42 #[.pointer (some ⟨c1, 0, none⟩), .pointer (some ⟨c2, 0, none⟩)] W fun e w' => Below W.heap.size W w' ∧ ((ok = true ∧ ∃ V, e = .returned (.agg #[.int .i64 b, V, .bool false]) ∧ SPL w' W.heap.size V Ts) ∨ (ok = false ∧ e = .panicked [{ v := .iface 89 (.agg #[]), recovered := false }]))) :
    Calls Tryz.prog 26 #[.func (.func 42) #[] #[.pointer (some ⟨c1, 0, none⟩), .pointer (some ⟨c2, 0, none⟩)]] w fun e w' => ∃ V, e = .returned (.tuple #[.agg #[.int .i64 (if ok = true then b else 0), V, .bool false], .int .i64 (if ok = true then 0 else 3)]) ∧ SPL w' w.heap.size V (if ok = true then Ts else []) ∧ Below w.heap.size w w' := by
  have hmf : ∀ (fn : Fn) (first cap : Array Value) (w : World), (Instr.makeFunc fn first cap).run Tryz.prog w = .ok (.func fn first cap) w := fun _ _ _ _ => rfl
  obtain ⟨w2, hw2⟩ : ∃ w2, (w.alloc (.cells #[.int .i64 0, .slice none 0 0, .bool false] 26 (0, 0))).alloc (.cells #[.int .i64 0] 27 (0, 0)) = w2 := ⟨_, rfl⟩
  have hA : w2.heap[w.heap.size]? = some (.cells #[.int .i64 0, .slice none 0 0, .bool false] 26 (0, 0)) := by rw [← hw2]; exact alw_0 _ _ _
  have hE : w2.heap[w.heap.size + 1]? = some (.cells #[.int .i64 0] 27 (0, 0)) := by rw [← hw2]; exact alw_1 _ _ _
  have hB2 : Below w.heap.size w w2 := by rw [← hw2]; exact belA (belA (Below.refl _ _) _) _
  have HO2 := HO w2 hB2
  have HA : Hid (w2.heap[w.heap.size]? = some (.cells #[.int .i64 0, .slice none 0 0, .bool false] 26 (0, 0)) ∧ w2.heap[w.heap.size + 1]? = some (.cells #[.int .i64 0] 27 (0, 0)) ∧ Below w.heap.size w w2) := ⟨hA, hE, hB2⟩
  clear hA hE hB2 HO
  cases ok with
  | true =>
    have HO3 : Hid (Calls Tryz.prog 42 #[.pointer (some ⟨c1, 0, none⟩), .pointer (some ⟨c2, 0, none⟩)] w2 fun e w' => ∃ V, e = .returned (.agg #[.int .i64 b, V, .bool false]) ∧ SPL w' w2.heap.size V Ts ∧ Below w2.heap.size w2 w') := by
      refine HO2.mono ?_
      rintro e w' ⟨h1, ⟨-, V, rfl, h2⟩ | ⟨h2, -⟩⟩
      · exact ⟨V, rfl, h2, h1⟩
      · cases h2
    clear HO2
    simp only [if_true]
    go_enter_defers Tryz.func26, Tryz.ntmps26
    go_wp2_with fail
    refine HO3.out.mono ?_
    rintro e W1 ⟨V, rfl, o8, hb1⟩
    obtain ⟨p8, c8, rfl⟩ := o8.shape
    clear HO3 hw2
    obtain ⟨hcA, hfA⟩ := cells_block (keepblk3 hb1 HA.out.1)
    obtain ⟨hcE, hfE⟩ := cells_block (keepblk3 hb1 HA.out.2.1)
    go_wp2_with fail
    obtain ⟨X, hX⟩ : ∃ X, (((W1.setCell ⟨w.heap.size, 0, none⟩ (.int .i64 b)).setCell ⟨w.heap.size, 1, none⟩ (.slice p8 Ts.length c8)).setCell ⟨w.heap.size, 2, none⟩ (.bool false)).setCell ⟨w.heap.size + 1, 0, none⟩ (.int .i64 0) = X := ⟨_, rfl⟩
    have hXA : X.heap[w.heap.size]? = some (.cells #[.int .i64 b, .slice p8 Ts.length c8, .bool false] 26 (0, 0)) := by
      rw [← hX, heap_setCell_other _ ⟨w.heap.size + 1, 0, none⟩ _ _ (by simp)]
      exact put3_get _ _ _ (keepblk3 hb1 HA.out.1)
    have hXE : X.heap[w.heap.size + 1]? = some (.cells #[.int .i64 0] 27 (0, 0)) := by
      have h0 : (((W1.setCell ⟨w.heap.size, 0, none⟩ (.int .i64 b)).setCell ⟨w.heap.size, 1, none⟩ (.slice p8 Ts.length c8)).setCell ⟨w.heap.size, 2, none⟩ (.bool false)).heap[w.heap.size + 1]? = some (.cells #[.int .i64 0] 27 (0, 0)) := by
        rw [far3h _ _ _ (by omega)]
        exact keepblk3 hb1 HA.out.2.1
      have h1 := set_get (j := 0) (.int .i64 0) h0
      rw [← hX, h1]
      simp
    have hXB : Below w.heap.size w X := by
      rw [← hX]
      exact ((((bel0 HA.out.2.2 hb1).setCell (Nat.le_refl _) _).setCell (Nat.le_refl _) _).setCell (Nat.le_refl _) _).setCell (Nat.le_succ _) _
    have hXO : SPL X w.heap.size (.slice p8 Ts.length c8) Ts := by
      have l2 := lt_of_get3 HA.out.2.1
      rw [← hX]
      exact ((o8.kept (gr3 _ _ _ _ _) (by omega)).kept (set_grS _ (w.heap.size + 1) 0 _) l2).base (by omega)
    have HXX : Hid (SPL X w.heap.size (.slice p8 Ts.length c8) Ts ∧ Below w.heap.size w X) := ⟨hXO, hXB⟩
    rw [hX]
    clear o8 hcA hfA hcE hfE hX hXO hXB
    refine leaves_cons (f := 48) (args := #[.pointer (some ⟨w.heap.size + 1, 0, none⟩)]) (by simp) (by simp [go_sem]) ?_
    refine (idle (w.heap.size + 1) _).mono ?_
    rintro e u' w'' ⟨rfl, rfl, rfl⟩
    have cA := (cells_block hXA).1
    have cE := (cells_block hXE).1
    simp [Leaves, settle, results, Tryz.results26, go_sem, cA, cE]
    exact HXX.out
  | false =>
    have HO3 : Hid (Calls Tryz.prog 42 #[.pointer (some ⟨c1, 0, none⟩), .pointer (some ⟨c2, 0, none⟩)] w2 fun e w' => e = .panicked [{ v := .iface 89 (.agg #[]), recovered := false }] ∧ Below w2.heap.size w2 w') := by
      refine HO2.mono ?_
      rintro e w' ⟨h1, ⟨h2, -⟩ | ⟨-, rfl⟩⟩
      · cases h2
      · exact ⟨rfl, h1⟩
    clear HO2
    simp only [Bool.false_eq_true, if_false]
    go_enter_defers Tryz.func26, Tryz.ntmps26
    go_wp2_with fail
    refine HO3.out.mono ?_
    rintro e W1 ⟨rfl, hb1⟩
    clear HO3 hw2
    have hEE := keepblk3 hb1 HA.out.2.1
    have hAA := keepblk3 hb1 HA.out.1
    obtain ⟨hcE, hfE⟩ := cells_block hEE
    refine leaves_cons (f := 48) (args := #[.pointer (some ⟨w.heap.size + 1, 0, none⟩)]) (by simp) (by simp [go_sem]) ?_
    refine (caught (w.heap.size + 1) 0 [] W1 (hcE 0) (hfE 0)).mono ?_
    rintro e u' w'' ⟨rfl, rfl, rfl⟩
    have hX0 : (W1.setCell ⟨w.heap.size + 1, 0, none⟩ (.int .i64 3)).heap[w.heap.size + 1]? = some (.cells #[.int .i64 3] 27 (0, 0)) := by
      have h1 := set_get (j := 0) (.int .i64 3) hEE
      rw [h1]
      simp
    have hX1 : (W1.setCell ⟨w.heap.size + 1, 0, none⟩ (.int .i64 3)).heap[w.heap.size]? = some (.cells #[.int .i64 0, .slice none 0 0, .bool false] 26 (0, 0)) := by
      rw [heap_setCell_other _ ⟨w.heap.size + 1, 0, none⟩ _ _ (by simp)]
      exact hAA
    have hXB : Below w.heap.size w (W1.setCell ⟨w.heap.size + 1, 0, none⟩ (.int .i64 3)) := (bel0 HA.out.2.2 hb1).setCell (Nat.le_succ _) _
    have cA := (cells_block hX1).1
    have cE := (cells_block hX0).1
    have HXX : Hid (SPL (W1.setCell ⟨w.heap.size + 1, 0, none⟩ (.int .i64 3)) w.heap.size (.slice none 0 0) [] ∧ Below w.heap.size w (W1.setCell ⟨w.heap.size + 1, 0, none⟩ (.int .i64 3))) := ⟨SPL_nil _ _, hXB⟩
    clear hcE hfE hXB
    simp [Leaves, settle, results, Tryz.results26, go_sem, cA, cE]
    exact HXX.out
set_option maxRecDepth 100000 in
set_option maxHeartbeats 4000000 in
theorem sMinus_any (b b2 : Int) (A C : List (List UInt8 × List (List UInt8))) (B1 B2 : Nat) (V1 V2 : Value) (w : World) (h1 : SPL w B1 V1 A) (h2 : SPL w B2 V2 C) (hs1 : szC A ≤ 128) (hs2 : szC C ≤ 128) (hg1 : gdC A) (hg2 : gdC C) (hoA : ordT A = A) (hsd : ∀ y ∈ A, Sd y) :
    Calls Tryz.prog 22 #[.agg #[.int .i64 b, V1, .bool false], .agg #[.int .i64 b2, V2, .bool false]] w fun e w' => ∃ V, e = .returned (.tuple #[.agg #[.int .i64 (mzB b b2 A C), V, .bool false], .int .i64 (mzE b b2 A C)]) ∧ SPL w' 0 V (mzT b b2 A C) ∧ Below w.heap.size w w' := by
  obtain ⟨p1, k1, rfl⟩ := h1.shape
  obtain ⟨p2, k2, rfl⟩ := h2.shape
  obtain ⟨n1, hn1⟩ : ∃ n, A.length = n := ⟨_, rfl⟩
  obtain ⟨n2, hn2⟩ : ∃ n, C.length = n := ⟨_, rfl⟩
  rw [hn1] at h1 ⊢
  rw [hn2] at h2 ⊢
  obtain ⟨wA, hwA⟩ : ∃ wA, (((w.alloc (.cells #[.int .i64 b, .slice p1 n1 k1, .bool false] 26 (0, 0))).alloc (.cells #[.int .i64 b2, .slice p2 n2 k2, .bool false] 26 (0, 0))).alloc (.cells #[.int .i64 0, .slice none 0 0, .bool false] 26 (0, 0))) = wA := ⟨_, rfl⟩
  have hBA : Below w.heap.size w wA := by rw [← hwA]; exact belA (belA (belA (Below.refl _ _) _) _) _
  have d1 : wA.heap[w.heap.size]? = some (.cells #[.int .i64 b, .slice p1 n1 k1, .bool false] 26 (0, 0)) := by rw [← hwA, Below.heap_alloc _ _ _ (by simp <;> omega)]; exact alw_0 _ _ _
  have d2 : wA.heap[w.heap.size + 1]? = some (.cells #[.int .i64 b2, .slice p2 n2 k2, .bool false] 26 (0, 0)) := by rw [← hwA, Below.heap_alloc _ _ _ (by simp <;> omega)]; exact alw_1 _ _ _
  have d3 : wA.heap[w.heap.size + 1 + 1]? = some (.cells #[.int .i64 0, .slice none 0 0, .bool false] 26 (0, 0)) := by rw [← hwA]; have := alloc_get ((w.alloc (.cells #[.int .i64 b, .slice p1 n1 k1, .bool false] 26 (0, 0))).alloc (.cells #[.int .i64 b2, .slice p2 n2 k2, .bool false] 26 (0, 0))) (.cells #[.int .i64 0, .slice none 0 0, .bool false] 26 (0, 0)); simpa using this
  have H12 : Hid (∀ X, Below w.heap.size w X → SPL X 0 (.slice p1 n1 k1) A ∧ SPL X 0 (.slice p2 n2 k2) C) := fun X hX => ⟨(h1.below hX).base (Nat.zero_le _), (h2.below hX).base (Nat.zero_le _)⟩
  have HD : Hid (∀ W, Below wA.heap.size wA W → W.heap[w.heap.size]? = some (.cells #[.int .i64 b, .slice p1 n1 k1, .bool false] 26 (0, 0)) ∧ W.heap[w.heap.size + 1]? = some (.cells #[.int .i64 b2, .slice p2 n2 k2, .bool false] 26 (0, 0)) ∧ W.heap[w.heap.size + 1 + 1]? = some (.cells #[.int .i64 0, .slice none 0 0, .bool false] 26 (0, 0)) ∧ SPL W 0 (.slice p1 n1 k1) A ∧ SPL W 0 (.slice p2 n2 k2) C ∧ Below w.heap.size w W) := fun W hW => ⟨keepblk3 hW d1, keepblk3 hW d2, keepblk3 hW d3, (h1.below (bel0 hBA hW)).base (Nat.zero_le _), (h2.below (bel0 hBA hW)).base (Nat.zero_le _), bel0 hBA hW⟩
  have hmf : ∀ (fn : Fn) (first cap : Array Value) (w : World), (Instr.makeFunc fn first cap).run Tryz.prog w = .ok (.func fn first cap) w := fun _ _ _ _ => rfl
  have HLT : Hid (w.heap.size + 1 + 1 < wA.heap.size) := lt_of_get3 d3
  obtain ⟨hc1, -⟩ := cells_block d1
  obtain ⟨hc2, -⟩ := cells_block d2
  have HS : Hid (szC A ≤ 128 ∧ szC C ≤ 128 ∧ gdC A ∧ gdC C) := ⟨hs1, hs2, hg1, hg2⟩
  have HNN : Hid (A.length = n1 ∧ C.length = n2) := ⟨hn1, hn2⟩
  cases hf : (!(b == 0) && (b == b2)) with
  | false =>
    have e1 : mzE b b2 A C = 11 := by unfold mzE; rw [if_pos hf]
    have e2 : mzB b b2 A C = 0 := by unfold mzB; rw [e1]; rfl
    have e3 : mzT b b2 A C = [] := by unfold mzT; rw [e1]; rfl
    rw [e1, e2, e3]
    have HF : Hid (Calls Tryz.prog 20 #[.agg #[.int .i64 b, .slice p1 n1 k1, .bool false], .int .i64 b2] wA fun e w' => e = .returned (.bool false) ∧ Below wA.heap.size wA w') := by
      have h := fits_any2 b b2 p1 n1 k1 wA
      rw [hf] at h
      exact h
    clear e1 e2 e3 hf hBA d1 d2 d3 h1 h2 hs1 hs2 hg1 hg2 hoA hsd hn1 hn2
    go_enter Tryz.func22, Tryz.ntmps22
    go_wp2_with fail
    refine HF.out.mono ?_
    rintro e W1 ⟨rfl, hb1⟩
    obtain ⟨-, -, k3, -, -, hB1⟩ := HD.out W1 hb1
    obtain ⟨hc3, hf3⟩ := cells_block k3
    have HP : Hid ((((W1.setCell ⟨w.heap.size + 1 + 1, 0, none⟩ (.int .i64 0)).setCell ⟨w.heap.size + 1 + 1, 1, none⟩ (.slice none 0 0)).setCell ⟨w.heap.size + 1 + 1, 2, none⟩ (.bool false)).heap[w.heap.size + 1 + 1]? = some (.cells #[.int .i64 0, .slice none 0 0, .bool false] 26 (0, 0)) ∧ Below w.heap.size w (((W1.setCell ⟨w.heap.size + 1 + 1, 0, none⟩ (.int .i64 0)).setCell ⟨w.heap.size + 1 + 1, 1, none⟩ (.slice none 0 0)).setCell ⟨w.heap.size + 1 + 1, 2, none⟩ (.bool false))) := ⟨put3_get _ _ _ k3, ((hB1.setCell (by simp; omega) _).setCell (by simp; omega) _).setCell (by simp; omega) _⟩
    clear hc1 hc2 k3 hwA hb1 hB1
    go_wp2_with fail
    refine bodyPost_ret (v := .tuple #[.agg #[.int .i64 0, .slice none 0 0, .bool false], .int .i64 11]) (res_sp2 _ _ (w.heap.size + 1 + 1) _ _ _ _ Tryz.results22 rfl rfl HP.out.1) rfl ?_
    exact ⟨_, rfl, SPL_nil _ _, HP.out.2⟩
  | true =>
    obtain rfl : b = b2 := by simpa using (Bool.and_eq_true_iff.1 hf).2
    have HF : Hid (Calls Tryz.prog 20 #[.agg #[.int .i64 b, .slice p1 n1 k1, .bool false], .int .i64 b] wA fun e w' => e = .returned (.bool true) ∧ Below wA.heap.size wA w') := by
      have h := fits_any2 b b p1 n1 k1 wA
      rw [hf] at h
      exact h
    obtain ⟨ok, hok⟩ : ∃ ok, (pgA A C).isSome = ok := ⟨_, rfl⟩
    have htk : tkA A C = (pgA A C).map ordT := by
      have h := pg_tk C A hsd hg2
      rw [hoA] at h
      exact h
    have e1 : mzE b b A C = if ok = true then 0 else 3 := by
      unfold mzE
      rw [if_neg (by rw [hf]; simp), htk, ← hok]
      cases pgA A C <;> rfl
    have e2 : mzB b b A C = if ok = true then b else 0 := by unfold mzB; rw [e1]; cases ok <;> rfl
    have e3 : mzT b b A C = if ok = true then ordT ((pgA A C).getD []) else [] := by
      unfold mzT
      rw [e1, htk, ← hok]
      cases pgA A C <;> rfl
    rw [e1, e2, e3]
    have HG : Hid (∀ W, Below wA.heap.size wA W → Calls Tryz.prog 26 #[.func (.func 42) #[] #[.pointer (some ⟨w.heap.size, 0, none⟩), .pointer (some ⟨w.heap.size + 1, 0, none⟩)]] W fun e w' => ∃ V, e = .returned (.tuple #[.agg #[.int .i64 (if ok = true then b else 0), V, .bool false], .int .i64 (if ok = true then 0 else 3)]) ∧ SPL w' W.heap.size V (if ok = true then ordT ((pgA A C).getD []) else []) ∧ Below W.heap.size W w') := fun W hW => by
      refine giveN b (ordT ((pgA A C).getD [])) ok w.heap.size (w.heap.size + 1) W (fun X hX => ?_)
      obtain ⟨k1', k2', -, s1, s2, -⟩ := HD.out X (bel0 hW hX)
      refine (minus1_any b b A C 0 0 p1 p2 n1 n2 k1 k2 _ _ X s1 s2 k1' k2' hs1 hs2 hg1 hg2 hsd).mono ?_
      rintro e w' ⟨hb, ⟨R, V, h5, rfl, hv⟩ | ⟨h5, rfl⟩⟩
      · exact ⟨hb, .inl ⟨by rw [← hok, h5]; rfl, V, rfl, by rw [h5]; exact hv⟩⟩
      · exact ⟨hb, .inr ⟨by rw [← hok, h5]; rfl, rfl⟩⟩
    obtain ⟨Y, hY⟩ : ∃ Y, (if ok = true then ordT ((pgA A C).getD []) else []) = Y := ⟨_, rfl⟩
    obtain ⟨bb, hbb⟩ : ∃ bb, (if ok = true then b else 0) = bb := ⟨_, rfl⟩
    obtain ⟨ee, hee⟩ : ∃ ee : Int, (if ok = true then (0 : Int) else 3) = ee := ⟨_, rfl⟩
    rw [hY, hbb, hee] at HG ⊢
    clear e1 e2 e3 htk hf hY hbb hee hok hBA d1 d2 d3 h1 h2 hs1 hs2 hg1 hg2 hoA hsd hn1 hn2
    go_enter Tryz.func22, Tryz.ntmps22
    go_wp2_with fail
    refine HF.out.mono ?_
    rintro e W1 ⟨rfl, hb1⟩
    clear hc1 hc2 hwA
    go_wp2_with fail
    refine (HG.out W1 hb1).mono ?_
    rintro e W5 ⟨V, rfl, sv, hb5⟩
    obtain ⟨p8, c8, rfl⟩ := sv.shape
    obtain ⟨n8, hn8⟩ : ∃ n, Y.length = n := ⟨_, rfl⟩
    rw [hn8] at sv ⊢
    have hlt : w.heap.size + 1 + 1 < W1.heap.size := Nat.lt_of_lt_of_le HLT.out hb1.size
    obtain ⟨-, -, k3, -, -, hB1⟩ := HD.out W5 (bel0 hb1 hb5)
    obtain ⟨hc3, hf3⟩ := cells_block k3
    have HP : Hid ((((W5.setCell ⟨w.heap.size + 1 + 1, 0, none⟩ (.int .i64 bb)).setCell ⟨w.heap.size + 1 + 1, 1, none⟩ (.slice p8 n8 c8)).setCell ⟨w.heap.size + 1 + 1, 2, none⟩ (.bool false)).heap[w.heap.size + 1 + 1]? = some (.cells #[.int .i64 bb, .slice p8 n8 c8, .bool false] 26 (0, 0)) ∧ SPL (((W5.setCell ⟨w.heap.size + 1 + 1, 0, none⟩ (.int .i64 bb)).setCell ⟨w.heap.size + 1 + 1, 1, none⟩ (.slice p8 n8 c8)).setCell ⟨w.heap.size + 1 + 1, 2, none⟩ (.bool false)) 0 (.slice p8 n8 c8) Y ∧ Below w.heap.size w (((W5.setCell ⟨w.heap.size + 1 + 1, 0, none⟩ (.int .i64 bb)).setCell ⟨w.heap.size + 1 + 1, 1, none⟩ (.slice p8 n8 c8)).setCell ⟨w.heap.size + 1 + 1, 2, none⟩ (.bool false))) := ⟨put3_get _ _ _ k3, (sv.kept (gr3 _ _ _ _ _) hlt).base (Nat.zero_le _), ((hB1.setCell (by simp; omega) _).setCell (by simp; omega) _).setCell (by simp; omega) _⟩
    clear k3 hb1 hB1 hb5 sv
    go_wp2_with fail
    refine bodyPost_ret (v := .tuple #[.agg #[.int .i64 bb, .slice p8 n8 c8, .bool false], .int .i64 ee]) (res_sp2 _ _ (w.heap.size + 1 + 1) _ _ _ _ Tryz.results22 rfl rfl HP.out.1) rfl ?_
    exact ⟨_, rfl, HP.out.2⟩
end Go.Proofs.YtfhghplplkkpmaaGreatDoor
namespace Go.Proofs.YtfhghplplkkpmaaGreatDoor
open Go.RowKit Go.Shelf
theorem tkA_ok : ∀ (C A R : List (List UInt8 × List (List UInt8))), gdC A → gdC C → szC A ≤ 128 → tkA A C = some R → gdC R ∧ szC R ≤ 128
  | [], A, R, h1, _, h3, h => by
    obtain rfl : A = R := Option.some.inj h
    exact ⟨h1, h3⟩
  | u :: r, A, R, h1, h2, h3, h => by
    unfold tkA at h
    split at h
    · have hu := h2 u List.mem_cons_self
      have hk := tk_ok (c := u.1) (L := u.2) h1 hu.1 hu.2
      exact tkA_ok r _ R hk.1 (fun t ht => h2 t (List.mem_cons_of_mem _ ht)) hk.2 h
    · cases h
theorem mz_ok (b b2 : Int) (A C : List (List UInt8 × List (List UInt8))) (hg1 : gdC A) (hg2 : gdC C) (hs : szC A ≤ 128) : gdC (mzT b b2 A C) ∧ szC (mzT b b2 A C) ≤ 128 := by
  unfold mzT
  split
  · cases h : tkA A C with
    | none => exact ⟨(fun t h => by cases h), Nat.zero_le _⟩
    | some R => exact tkA_ok C A R hg1 hg2 hs h
  · exact ⟨(fun t h => by cases h), Nat.zero_le _⟩
theorem pr_ord (b : Int) (l : List UInt8) : ordT (prT b l) = prT b l := by
  have h := prT_fix b l
  rw [← h, ordT_id]
theorem sof_id {t : List UInt8 × List (List UInt8)} (h : FTm t) : sof t = t := by
  unfold sof
  rw [srtT_id h.so]
theorem pr_sd (b : Int) (l : List UInt8) : ∀ t ∈ prT b l, Sd t := fun t ht => by
  obtain ⟨h0, h1, h2, -, -⟩ := prT_ft b l t ht
  refine ⟨by rw [sof_id h0]; exact h0, fun e => ?_⟩
  rw [e] at h1
  simp at h1
  omega
end Go.Proofs.YtfhghplplkkpmaaGreatDoor
namespace Go.Proofs.YtfhghplplkkpmaaGreatDoor

/-- a place at which d has a digit and c has x -/
def qual (a b : List UInt8) (p : Nat) : Bool := fx b p && !fx a p
/-- the open places of word w from bit i on -/
def opn (a b : List UInt8) (w i : Nat) : Nat := wd (fun j => decide (i ≤ j) && qual a b (64 * w + j)) 64

theorem opn_lt (a b : List UInt8) (w i : Nat) : opn a b w i < 18446744073709551616 := wd_lt _ 64
theorem opn_bit (a b : List UInt8) (w i j : Nat) : (opn a b w i).testBit j = (decide (j < 64) && (decide (i ≤ j) && qual a b (64 * w + j))) := wd_bit _ _ _

theorem opn_start (a b : List UInt8) (w : Nat) : bits .andNot .u64 (FW b w : Int) (FW a w : Int) = (opn a b w 0 : Nat) := by
  rw [u64_andNot_nat _ _ (FW_lt _ _) (FW_lt _ _)]
  congr 1
  apply Nat.eq_of_testBit_eq
  intro i
  rw [andnot_bit _ _ (FW_lt _ _), FW_bit, FW_bit, opn_bit]
  unfold qual
  by_cases hi : i < 64 <;> simp [hi]

theorem least_bit (O : Nat) (h : O ≠ 0) (hO : O < 18446744073709551616) : ∃ r m, r < 64 ∧ O = 2 ^ (r + 1) * m + 2 ^ r := by
  have key : ∀ n O, O ≠ 0 → O < 2 ^ n → ∃ r m, r < n ∧ O = 2 ^ (r + 1) * m + 2 ^ r := by
    intro n
    induction n with
    | zero => intro O h1 h2; simp at h2; exact absurd h2 h1
    | succ n ih =>
      intro O h1 h2
      by_cases e : O % 2 = 1
      · exact ⟨0, O / 2, by omega, by simp; omega⟩
      · have hp : 2 ^ (n + 1) = 2 * 2 ^ n := by rw [Nat.pow_succ]; omega
        obtain ⟨r, m, hr, hm⟩ := ih (O / 2) (by omega) (by omega)
        refine ⟨r + 1, m, by omega, ?_⟩
        have e1 : O = 2 * (O / 2) := by omega
        rw [e1, hm, Nat.mul_add, ← Nat.mul_assoc, Nat.pow_succ 2 (r + 1), Nat.pow_succ 2 r]
        congr 1
        · rw [Nat.mul_comm 2 (2 ^ r * 2)]
        · omega
  exact key 64 O h hO

theorem odd_bit (r m j : Nat) : (2 ^ (r + 1) * m + 2 ^ r).testBit j = (if j < r then false else if j = r then true else m.testBit (j - (r + 1))) := by
  have hp : 2 ^ r < 2 ^ (r + 1) := Nat.pow_lt_pow_right (by omega) (by omega)
  rw [Nat.testBit_two_pow_mul_add _ hp]
  by_cases h1 : j < r
  · have : j < r + 1 := by omega
    simp only [this, if_true, h1]
    rw [Nat.testBit_two_pow]
    simp; omega
  · by_cases h2 : j = r
    · subst h2
      simp
    · have : ¬ j < r + 1 := by omega
      simp only [this, if_false, h1, h2]
theorem odd_pred_bit (r m j : Nat) : (2 ^ (r + 1) * m + 2 ^ r - 1).testBit j = (if j < r then true else if j = r then false else m.testBit (j - (r + 1))) := by
  have hp : 2 ^ r < 2 ^ (r + 1) := Nat.pow_lt_pow_right (by omega) (by omega)
  have h0 : 0 < 2 ^ r := Nat.two_pow_pos r
  have e : 2 ^ (r + 1) * m + 2 ^ r - 1 = 2 ^ (r + 1) * m + (2 ^ r - 1) := by omega
  rw [e, Nat.testBit_two_pow_mul_add _ (by omega), Nat.testBit_two_pow_sub_one]
  by_cases h1 : j < r
  · have : j < r + 1 := by omega
    simp [this, h1]
  · by_cases h2 : j = r
    · subst h2; simp
    · have : ¬ j < r + 1 := by omega
      simp [this, h1, h2]

/-- what the round of the inner loop does -/
theorem opn_step (a b : List UInt8) (w i : Nat) (h : opn a b w i ≠ 0) : ∃ r, i ≤ r ∧ r < 64 ∧ qual a b (64 * w + r) = true ∧ (∀ j, i ≤ j → j < r → qual a b (64 * w + j) = false) ∧
    opn a b w i &&& (18446744073709551616 - opn a b w i) = 2 ^ r ∧ opn a b w i &&& (opn a b w i - 1) = opn a b w (r + 1) := by
  obtain ⟨r, m, hr, hm⟩ := least_bit _ h (opn_lt a b w i)
  have hb : ∀ j, (opn a b w i).testBit j = (if j < r then false else if j = r then true else m.testBit (j - (r + 1))) := fun j => by rw [hm]; exact odd_bit r m j
  have hpb : ∀ j, (opn a b w i - 1).testBit j = (if j < r then true else if j = r then false else m.testBit (j - (r + 1))) := fun j => by rw [hm]; exact odd_pred_bit r m j
  have hr1 := hb r
  rw [opn_bit] at hr1
  simp [hr] at hr1
  refine ⟨r, hr1.1, hr, hr1.2, ?_, ?_, ?_⟩
  · intro j h1 h2
    have := hb j
    rw [opn_bit] at this
    have h3 : j < 64 := by omega
    simp [h1, h2, h3] at this
    exact this
  · apply Nat.eq_of_testBit_eq
    intro j
    have e : 18446744073709551616 - opn a b w i = 2 ^ 64 - ((opn a b w i - 1) + 1) := by have := opn_lt a b w i; omega
    rw [Nat.testBit_and, e, Nat.testBit_two_pow_sub_succ (by have := opn_lt a b w i; omega), hpb, hb, Nat.testBit_two_pow]
    by_cases h1 : j < r
    · have : ¬ r = j := by omega
      simp [h1, this]
    · by_cases h2 : j = r
      · subst h2; simp [hr]
      · have : ¬ r = j := by omega
        simp [h1, h2, this]
        exact fun h _ => h
  · apply Nat.eq_of_testBit_eq
    intro j
    rw [Nat.testBit_and, hpb, opn_bit, opn_bit]
    by_cases h1 : j < r
    · have h2 : ¬ r + 1 ≤ j := by omega
      have := hb j
      rw [opn_bit] at this
      simp [h1] at this
      simp only [h1, if_true, h2, decide_false, Bool.false_and, Bool.and_false, Bool.and_true]
      simpa using this
    · by_cases h2 : j = r
      · subst h2; simp
        intro _ hx; omega
      · have h3 : r + 1 ≤ j := by omega
        have h4 : i ≤ j := by omega
        have := hb j
        rw [opn_bit] at this
        simp only [h1, h2, if_false, h4, h3, decide_true, Bool.true_and] at this ⊢
        rw [← this]
        simp

/-- c with d's digits at the open places below p -/
def rsT (a b : List UInt8) (p : Nat) : List UInt8 := meetT (a.take p) (b.take p) ++ a.drop p
theorem rs_get (a b : List UInt8) (hl : a.length = b.length) (p k : Nat) (hk : k < a.length) : (rsT a b p)[k]? = some (if k < p then (if a[k] == 120 then b[k]'(by omega) else a[k]) else a[k]) := by
  unfold rsT
  have hm : (meetT (a.take p) (b.take p)).length = min p a.length := by rw [meetT_len _ _ (by simp; omega)]; simp
  by_cases h : k < p
  · rw [List.getElem?_append_left (by omega), meetT_get _ _ (by simp; omega) k (by simp; omega)]
    simp [h]
  · rw [List.getElem?_append_right (by omega), hm, List.getElem?_drop]
    have : p + (k - min p a.length) = k := by omega
    rw [this, List.getElem?_eq_getElem hk]
    simp [h]
theorem rs_len (a b : List UInt8) (hl : a.length = b.length) (p : Nat) : (rsT a b p).length = a.length := by
  unfold rsT
  rw [List.length_append, meetT_len _ _ (by simp; omega)]
  simp; omega
theorem rs_zero (a b : List UInt8) : rsT a b 0 = a := by simp [rsT, meetT]
theorem qual_bytes (a b : List UInt8) (hl : a.length = b.length) (p : Nat) (hp : p < a.length) : qual a b p = (!(b[p]'(by omega) == 120) && (a[p] == 120)) := by
  have hb : p < b.length := by omega
  simp only [qual, fx, List.getElem?_eq_getElem hp, List.getElem?_eq_getElem hb]
  cases e1 : (b[p] == 120) <;> cases e2 : (a[p] == 120) <;> simp_all
theorem qual_lt (a b : List UInt8) (hl : a.length = b.length) (p : Nat) (h : qual a b p = true) : p < a.length := by
  rcases Nat.lt_or_ge p a.length with h1 | h1
  · exact h1
  · simp only [qual, fx] at h
    rw [List.getElem?_eq_none (show b.length ≤ p by omega)] at h
    simp at h
theorem rs_skip (a b : List UInt8) (hl : a.length = b.length) (p q : Nat) (hpq : p ≤ q) (h : ∀ k, p ≤ k → k < q → qual a b k = false) : rsT a b q = rsT a b p := by
  apply List.ext_getElem?
  intro k
  by_cases hk : k < a.length
  · rw [rs_get a b hl q k hk, rs_get a b hl p k hk]
    by_cases h1 : k < p
    · have : k < q := by omega
      simp [h1, this]
    · by_cases h2 : k < q
      · have := h k (by omega) h2
        rw [qual_bytes a b hl k hk] at this
        simp only [h1, h2, if_true, if_false]
        congr 1
        cases e1 : (a[k] == 120)
        · rfl
        · rw [e1] at this
          have e3 : a[k] = 120 := by simpa using e1
          simp at this
          rw [if_pos rfl, this, e3]
      · simp [h1, h2]
  · rw [List.getElem?_eq_none (by rw [rs_len a b hl]; omega), List.getElem?_eq_none (by rw [rs_len a b hl]; omega)]
theorem rs_at (a b : List UInt8) (hl : a.length = b.length) (p : Nat) (h : qual a b p = true) (hp : p < (rsT a b p).length) : (rsT a b p)[p] = 120 := by
  have hpa : p < a.length := qual_lt a b hl p h
  have := rs_get a b hl p p hpa
  rw [List.getElem?_eq_getElem hp] at this
  rw [qual_bytes a b hl p hpa] at h
  simp at this h
  rw [this]; exact h.2
theorem rs_succ (a b : List UInt8) (hl : a.length = b.length) (p : Nat) (h : qual a b p = true) : (rsT a b p).set p (b[p]'(by have := qual_lt a b hl p h; omega)) = rsT a b (p + 1) := by
  have hpa : p < a.length := qual_lt a b hl p h
  apply List.ext_getElem?
  intro k
  by_cases hk : k < a.length
  · rw [rs_get a b hl (p + 1) k hk]
    by_cases e : k = p
    · subst e
      rw [List.getElem?_set_self (by rw [rs_len a b hl]; exact hk)]
      rw [qual_bytes a b hl k hk] at h
      simp at h
      simp [h.2]
    · rw [List.getElem?_set_ne (by omega), rs_get a b hl p k hk]
      by_cases h1 : k < p
      · have : k < p + 1 := by omega
        simp [h1, this]
      · have : ¬ k < p + 1 := by omega
        simp [h1, this]
  · rw [List.getElem?_eq_none (by simp; rw [rs_len a b hl]; omega), List.getElem?_eq_none (by rw [rs_len a b hl]; omega)]
theorem rs_good (a b : List UInt8) (hl : a.length = b.length) (ga : good a = true) (gb : good b = true) (p : Nat) : good (rsT a b p) = true := by
  simp only [good, Bool.and_eq_true, decide_eq_true_eq, List.all_eq_true]
  refine ⟨by rw [rs_len a b hl]; exact good_len ga, ?_⟩
  intro x hx
  obtain ⟨k, hk, rfl⟩ := List.getElem_of_mem hx
  have hka : k < a.length := by rw [rs_len a b hl] at hk; exact hk
  have := rs_get a b hl p k hka
  rw [List.getElem?_eq_getElem hk] at this
  rw [Option.some.inj this]
  have ta := good_tri ga k hka
  have tb := good_tri gb k (by omega)
  repeat' split
  all_goals assumption

/-- the other digit -/
def oth (d : UInt8) : UInt8 := if d == 48 then 49 else 48
/-- the part of Split at an open place -/
def pcT (a b : List UInt8) (p : Nat) : List UInt8 := (rsT a b p).set p (oth (b.getD p 0))
/-- P1.7: the parts at the open places below p -/
def pcs (a b : List UInt8) : Nat → List (List UInt8)
  | 0 => []
  | p + 1 => pcs a b p ++ (if qual a b p then [pcT a b p] else [])
theorem pcs_skip (a b : List UInt8) (p q : Nat) (hpq : p ≤ q) (h : ∀ k, p ≤ k → k < q → qual a b k = false) : pcs a b q = pcs a b p := by
  induction q with
  | zero => have : p = 0 := by omega
            subst this; rfl
  | succ q ih =>
    by_cases e : p = q + 1
    · subst e; rfl
    · conv => lhs; unfold pcs
      rw [h q (by omega) (by omega), ih (by omega) (fun k h1 h2 => h k h1 (by omega))]
      simp
theorem pcs_succ (a b : List UInt8) (p : Nat) (h : qual a b p = true) : pcs a b (p + 1) = pcs a b p ++ [pcT a b p] := by
  conv => lhs; unfold pcs
  rw [h]; rfl
theorem pcs_len (a b : List UInt8) (p : Nat) : (pcs a b p).length ≤ p := by
  induction p with
  | zero => simp [pcs]
  | succ p ih => unfold pcs; split <;> simp <;> omega

theorem dg_own (b : List UInt8) (w r : Nat) (hr : r < 64) (hp : 64 * w + r < b.length) (gb : good b = true) (hx : b[64 * w + r] ≠ 120) : dg (OW b w) r = b[64 * w + r] := by
  unfold dg
  rw [OW_bit]
  have tb := good_tri gb _ hp
  simp only [hr, decide_true, Bool.true_and, on, List.getElem?_eq_getElem hp]
  generalize b[64 * w + r] = y at *
  simp [tri] at tb
  rcases tb with (rfl | rfl) | rfl
  · decide
  · decide
  · exact absurd rfl hx
theorem dg_oth (b : List UInt8) (w r : Nat) (hr : r < 64) (hp : 64 * w + r < b.length) (gb : good b = true) (hx : b[64 * w + r] ≠ 120) : dg (18446744073709551615 - OW b w) r = oth (b[64 * w + r]) := by
  unfold dg
  have e : 18446744073709551615 - OW b w = 2 ^ 64 - (OW b w + 1) := by omega
  rw [e, Nat.testBit_two_pow_sub_succ (OW_lt b w), OW_bit]
  have tb := good_tri gb _ hp
  simp only [hr, decide_true, Bool.true_and, on, List.getElem?_eq_getElem hp]
  generalize b[64 * w + r] = y at *
  simp [tri] at tb
  rcases tb with (rfl | rfl) | rfl
  · decide
  · decide
  · exact absurd rfl hx
end Go.Proofs.YtfhghplplkkpmaaGreatDoor
