import Derived.Test.YtkcbkeimbpopcaaGreatDoorXAO
import Derived.Test.YtkcbkeimbpopcaaGreatDoorXBQ
import Derived.Test.YtkcbkeimbpopcaaGreatDoorXAR
import Derived.Test.YtkcbkeimbpopcaaGreatDoorXBC
import Derived.Test.YtkcbkeimbpopcaaGreatDoorXBE
namespace Go.Proofs.YtkcbkeimbpopcaaGreatDoor
open Go.RowKit
/-- a header is in a term -/
def thB (c : List UInt8) (L : List (List UInt8)) (h : List UInt8) : Bool := hasB c h && L.all (fun m => !hasB m h)
set_option maxRecDepth 100000 in
set_option maxHeartbeats 4000000 in
theorem thas_any (zc : List UInt8) (zq : Option Addr) (zk : Nat) (zL : List (List UInt8)) (s : ByteArray) (w : World) (hz : IRC w zq zL) (gc : good zc = true) (gL : ∀ x ∈ zL, good x = true) (hzl : zL.length ≤ 1000000) (hs : s.size ≤ maxLen) : Calls Tryz.prog 41 #[.agg #[.int .i64 (zc.length : Int), .int .u64 (FW zc 0 : Int), .int .u64 (FW zc 1 : Int), .int .u64 (FW zc 2 : Int), .int .u64 (FW zc 3 : Int), .int .u64 (OW zc 0 : Int), .int .u64 (OW zc 1 : Int), .int .u64 (OW zc 2 : Int), .int .u64 (OW zc 3 : Int), .slice zq zL.length zk], .string s] w fun e w' => e = .returned (.bool (thB zc zL s.data.toList)) ∧ Below w.heap.size w w' := by
  obtain ⟨w2, hw2⟩ : ∃ w2, w.alloc (.cells #[.int .i64 (zc.length : Int), .int .u64 (FW zc 0 : Int), .int .u64 (FW zc 1 : Int), .int .u64 (FW zc 2 : Int), .int .u64 (FW zc 3 : Int), .int .u64 (OW zc 0 : Int), .int .u64 (OW zc 1 : Int), .int .u64 (OW zc 2 : Int), .int .u64 (OW zc 3 : Int), .slice zq zL.length zk] 73 (0, 0)) = w2 := ⟨_, rfl⟩
  have ha : w2.heap[w.heap.size]? = some (.cells #[.int .i64 (zc.length : Int), .int .u64 (FW zc 0 : Int), .int .u64 (FW zc 1 : Int), .int .u64 (FW zc 2 : Int), .int .u64 (FW zc 3 : Int), .int .u64 (OW zc 0 : Int), .int .u64 (OW zc 1 : Int), .int .u64 (OW zc 2 : Int), .int .u64 (OW zc 3 : Int), .slice zq zL.length zk] 73 (0, 0)) := by rw [← hw2]; exact alloc_get _ _
  have hB : Below w.heap.size w w2 := by rw [← hw2]; exact belA (Below.refl _ _) _
  have HA : Hid (w2.heap[w.heap.size]? = some (.cells #[.int .i64 (zc.length : Int), .int .u64 (FW zc 0 : Int), .int .u64 (FW zc 1 : Int), .int .u64 (FW zc 2 : Int), .int .u64 (FW zc 3 : Int), .int .u64 (OW zc 0 : Int), .int .u64 (OW zc 1 : Int), .int .u64 (OW zc 2 : Int), .int .u64 (OW zc 3 : Int), .slice zq zL.length zk] 73 (0, 0)) ∧ Below w.heap.size w w2) := ⟨ha, hB⟩
  have HU : Hid (IRC w zq zL ∧ ∀ x ∈ zL, good x = true) := ⟨hz, gL⟩
  have HS : Hid (s.size ≤ maxLen) := hs
  obtain ⟨hca, -⟩ := cells_block ha
  obtain ⟨P, hP⟩ : ∃ P : List UInt8 → Bool, (fun m => !hasB m s.data.toList) = P := ⟨_, rfl⟩
  have HP : Hid (∀ m, P m = !hasB m s.data.toList) := fun n => by rw [← hP]
  have HCV : Hid (thB zc zL s.data.toList = (hasB zc s.data.toList && zL.all P)) := by unfold Hid thB; rw [hP]
  have H1 : Hid (Calls Tryz.prog 76 #[.agg #[.int .i64 (zc.length : Int), .int .u64 (FW zc 0 : Int), .int .u64 (FW zc 1 : Int), .int .u64 (FW zc 2 : Int), .int .u64 (FW zc 3 : Int), .int .u64 (OW zc 0 : Int), .int .u64 (OW zc 1 : Int), .int .u64 (OW zc 2 : Int), .int .u64 (OW zc 3 : Int)], .string s] w2 fun e w' => e = .returned (.bool (hasB zc s.data.toList)) ∧ Below w2.heap.size w2 w') := has_any zc s w2 gc hs
  clear ha hB hz gc gL hs hP
  cases hw : hasB zc s.data.toList with
  | false =>
    rw [hw] at H1 HCV
    clear hw
    go_enter Tryz.func41, Tryz.ntmps41
    go_wp2_with fail
    refine H1.out.mono ?_
    rintro e W1 ⟨rfl, hb1⟩
    go_wp2_with fail
    go_ret
    exact ⟨by rw [HCV.out]; rfl, bel0 HA.out.2 hb1⟩
  | true =>
    rw [hw] at H1 HCV
    clear hw
    go_enter Tryz.func41, Tryz.ntmps41
    go_wp2_with fail
    refine H1.out.mono ?_
    rintro e W1 ⟨rfl, hb1⟩
    obtain ⟨hcb1, -⟩ := cells_block (keepblk3 hb1 HA.out.1)
    have HB1 : Hid (Below w2.heap.size w2 W1) := hb1
    clear hca hw2 hb1
    go_wp2_with fail
    clear hcb1
    go_loopw [15] (fun vi wr => ∃ j : Nat, vi = .int .i64 j ∧ j ≤ zL.length ∧ Hid (∀ i t, i < j → zL[i]? = some t → P t = true) ∧ Below w2.heap.size w2 wr) (fun vi _ => zL.length - (intOf vi).toNat)
    case atStart => exact ⟨0, rfl, Nat.zero_le _, fun i t hi => by omega, HB1.out⟩
    case round =>
      clear HB1
      obtain ⟨j, rfl, hj, hok, hBj⟩ := hrel
      by_cases hlt : j < zL.length
      · have j1 : (j : Int) < (zL.length : Int) := by omega
        have j0 : (0 : Int) ≤ (j : Int) := by omega
        obtain ⟨t, ht⟩ : ∃ t, zL[j]? = some t := ⟨_, List.getElem?_eq_getElem hlt⟩
        obtain ⟨g, o0, rfl, p0, p1, p2, p3, p4, p5, p6, p7, p8⟩ := HU.out.1 wr (bel0 HA.out.2 hBj) j t ht
        have gt := HU.out.2 t (List.mem_of_getElem? ht)
        obtain ⟨wa, hwa⟩ : ∃ wa, wr.alloc (.cells #[.int .i64 (t.length : Int), .int .u64 (FW t 0 : Int), .int .u64 (FW t 1 : Int), .int .u64 (FW t 2 : Int), .int .u64 (FW t 3 : Int), .int .u64 (OW t 0 : Int), .int .u64 (OW t 1 : Int), .int .u64 (OW t 2 : Int), .int .u64 (OW t 3 : Int)] 54 (0, 0)) = wa := ⟨_, rfl⟩
        have hal : Below wr.heap.size wr wa := by rw [← hwa]; exact belA (Below.refl _ _) _
        have hgt : wa.heap[wr.heap.size]? = some (.cells #[.int .i64 (t.length : Int), .int .u64 (FW t 0 : Int), .int .u64 (FW t 1 : Int), .int .u64 (FW t 2 : Int), .int .u64 (FW t 3 : Int), .int .u64 (OW t 0 : Int), .int .u64 (OW t 1 : Int), .int .u64 (OW t 2 : Int), .int .u64 (OW t 3 : Int)] 54 (0, 0)) := by rw [← hwa]; exact alloc_get _ _
        obtain ⟨hct, -⟩ := cells_block hgt
        have hBa : Below w2.heap.size w2 wa := bel0 hBj hal
        have HT : Hid (zL[j]? = some t) := ht
        obtain ⟨q, hq⟩ : ∃ q, hasB t s.data.toList = q := ⟨_, rfl⟩
        have HPt : Hid (P t = !q) := by unfold Hid; rw [HP.out, hq]
        have H2 : Hid (Calls Tryz.prog 76 #[.agg #[.int .i64 (t.length : Int), .int .u64 (FW t 0 : Int), .int .u64 (FW t 1 : Int), .int .u64 (FW t 2 : Int), .int .u64 (FW t 3 : Int), .int .u64 (OW t 0 : Int), .int .u64 (OW t 1 : Int), .int .u64 (OW t 2 : Int), .int .u64 (OW t 3 : Int)], .string s] wa fun e w' => e = .returned (.bool q) ∧ Below wa.heap.size wa w') := has_D t s q wa gt HS.out hq
        clear ht gt hgt hal hq
        cases q with
        | true =>
          have HX : Hid (zL.all P = false) := all_fail HT.out (by rw [HPt.out]; rfl)
          go_wp2_with fail
          refine H2.out.mono ?_
          rintro e W5 ⟨rfl, hb5⟩
          clear hct hwa p0 p1 p2 p3 p4 p5 p6 p7 p8
          go_wp2_with fail
          go_ret
          exact ⟨by rw [HCV.out, HX.out]; rfl, bel0 HA.out.2 (bel0 hBa hb5)⟩
        | false =>
          have HX : Hid (∀ i t, i < j + 1 → zL[i]? = some t → P t = true) := fun i v hi hv => by
            by_cases e : i = j
            · subst e
              rw [HT.out] at hv
              obtain rfl := Option.some.inj hv
              rw [HPt.out]; rfl
            · exact hok.out i v (by omega) hv
          go_wp2_with fail
          refine H2.out.mono ?_
          rintro e W5 ⟨rfl, hb5⟩
          clear hct hwa p0 p1 p2 p3 p4 p5 p6 p7 p8
          go_wp2_with fail
          go_roundw
          case rel => exact ⟨j + 1, by go_num, by omega, HX, bel0 hBa hb5⟩
          case measure => simp [intOf]; omega
      · have j1 : ¬ (j : Int) < (zL.length : Int) := by omega
        have HX : Hid (zL.all P = true) := all_step hok.out (by omega)
        clear hok
        go_wp2_with fail
        go_ret
        exact ⟨by rw [HCV.out, HX.out]; rfl, bel0 HA.out.2 hBj⟩
end Go.Proofs.YtkcbkeimbpopcaaGreatDoor
namespace Go.Proofs.YtkcbkeimbpopcaaGreatDoor
open Go.RowKit
/-- a header is in one of the terms -/
def hsB (Ts : List (List UInt8 × List (List UInt8))) (h : List UInt8) : Bool := Ts.any (fun t => thB t.1 t.2 h)
theorem any_noV {α : Type} {L : List α} {p : α → Bool} {n : Nat} (hn : L.length ≤ n) (h : ∀ j t, j < n → L[j]? = some t → p t = false) : L.any p = false := by
  rw [List.any_eq_false]
  intro t ht
  obtain ⟨j, hj, he⟩ := List.getElem_of_mem ht
  rw [h j t (by omega) (by rw [List.getElem?_eq_getElem hj, he])]
  simp
set_option maxRecDepth 100000 in
set_option maxHeartbeats 4000000 in
theorem sHas_any (b : Int) (V : Value) (Ts : List (List UInt8 × List (List UInt8))) (B : Nat) (s : ByteArray) (w : World) (h : SPL w B V Ts) (hg : ∀ t ∈ Ts, good t.1 = true ∧ ∀ x ∈ t.2, good x = true) (hl : Ts.length ≤ 1000000) (hll : ∀ t ∈ Ts, t.2.length ≤ 1000000) (hs : s.size ≤ maxLen) : Calls Tryz.prog 17 #[.agg #[.int .i64 b, V, .bool false], .string s] w fun e w' => e = .returned (.bool (hsB Ts s.data.toList)) ∧ Below w.heap.size w w' := by
  obtain ⟨Z, rfl, h2, h3⟩ := h
  obtain ⟨p, c, rfl⟩ := shapeQ1 h2
  rw [List.length_map] at hl
  obtain ⟨w2, hw2⟩ : ∃ w2, w.alloc (.cells #[.int .i64 b, .slice p Z.length c, .bool false] 24 (0, 0)) = w2 := ⟨_, rfl⟩
  have h0 : w2.heap[w.heap.size]? = some (.cells #[.int .i64 b, .slice p Z.length c, .bool false] 24 (0, 0)) := by rw [← hw2]; exact alloc_get _ _
  have hB : Below w.heap.size w w2 := by rw [← hw2]; exact belA (Below.refl _ _) _
  obtain ⟨hc0, -⟩ := cells_block h0
  have HR : Hid (IRZ w p Z) := IRZ_own h2 rfl
  have HZ : Hid (∀ z ∈ Z, IRC w z.q z.L ∧ (good z.c = true ∧ ∀ x ∈ z.L, good x = true) ∧ z.L.length ≤ 1000000) := fun z hz => ⟨IRC_own (h3 z hz) rfl, hg z.cont (List.mem_map_of_mem (f := ZT.cont) hz), hll z.cont (List.mem_map_of_mem (f := ZT.cont) hz)⟩
  have HS : Hid (s.size ≤ maxLen) := hs
  obtain ⟨P, hP⟩ : ∃ P : ZT → Bool, (fun z => thB z.c z.L s.data.toList) = P := ⟨_, rfl⟩
  have HP : Hid (∀ z, P z = thB z.c z.L s.data.toList) := fun n => by rw [← hP]
  have HCV : Hid (hsB (Z.map ZT.cont) s.data.toList = Z.any P) := by
    unfold Hid hsB
    rw [List.any_map, ← hP]
    rfl
  have HBB : Hid (Below w.heap.size w w2) := hB
  obtain ⟨n, hn⟩ : ∃ n, Z.length = n := ⟨_, rfl⟩
  rw [hn] at hc0 hw2 hl ⊢
  have HN : Hid (Z.length = n) := hn
  clear h0 hB h2 h3 hg hll hs hP hn
  go_enter Tryz.func17, Tryz.ntmps17
  go_wp2_with fail
  clear hc0 hw2
  go_loopw [10] (fun vi wr => ∃ j : Nat, vi = .int .i64 j ∧ j ≤ n ∧ Hid (∀ i t, i < j → Z[i]? = some t → P t = false) ∧ Below w2.heap.size w2 wr) (fun vi _ => n - (intOf vi).toNat)
  case atStart => exact ⟨0, rfl, Nat.zero_le _, fun i t hi => by omega, Below.refl _ _⟩
  case round =>
    obtain ⟨j, rfl, hj, hok, hBj⟩ := hrel
    by_cases hlt : j < n
    · have j1 : (j : Int) < (n : Int) := by omega
      have j0 : (0 : Int) ≤ (j : Int) := by omega
      obtain ⟨z, hz⟩ : ∃ z, Z[j]? = some z := ⟨_, List.getElem?_eq_getElem (by rw [HN.out]; exact hlt)⟩
      obtain ⟨zc, zq, zk, zL⟩ := z
      obtain ⟨g, o0, rfl, p0, p1, p2, p3, p4, p5, p6, p7, p8, p9⟩ := HR.out wr (bel0 HBB.out hBj) j _ hz
      simp only at p0 p1 p2 p3 p4 p5 p6 p7 p8 p9
      have hZ := HZ.out _ (List.mem_of_getElem? hz)
      obtain ⟨wa, hwa⟩ : ∃ wa, wr.alloc (.cells #[.int .i64 (zc.length : Int), .int .u64 (FW zc 0 : Int), .int .u64 (FW zc 1 : Int), .int .u64 (FW zc 2 : Int), .int .u64 (FW zc 3 : Int), .int .u64 (OW zc 0 : Int), .int .u64 (OW zc 1 : Int), .int .u64 (OW zc 2 : Int), .int .u64 (OW zc 3 : Int), .slice zq zL.length zk] 73 (0, 0)) = wa := ⟨_, rfl⟩
      have hal : Below wr.heap.size wr wa := by rw [← hwa]; exact belA (Below.refl _ _) _
      have hgt : wa.heap[wr.heap.size]? = some (.cells #[.int .i64 (zc.length : Int), .int .u64 (FW zc 0 : Int), .int .u64 (FW zc 1 : Int), .int .u64 (FW zc 2 : Int), .int .u64 (FW zc 3 : Int), .int .u64 (OW zc 0 : Int), .int .u64 (OW zc 1 : Int), .int .u64 (OW zc 2 : Int), .int .u64 (OW zc 3 : Int), .slice zq zL.length zk] 73 (0, 0)) := by rw [← hwa]; exact alloc_get _ _
      obtain ⟨hct, -⟩ := cells_block hgt
      have hBa : Below w2.heap.size w2 wa := bel0 hBj hal
      have HT : Hid (Z[j]? = some ⟨zc, zq, zk, zL⟩) := hz
      obtain ⟨q, hq⟩ : ∃ q, thB zc zL s.data.toList = q := ⟨_, rfl⟩
      have HPt : Hid (P ⟨zc, zq, zk, zL⟩ = q) := by unfold Hid; rw [HP.out, hq]
      have H2 : Hid (Calls Tryz.prog 41 #[.agg #[.int .i64 (zc.length : Int), .int .u64 (FW zc 0 : Int), .int .u64 (FW zc 1 : Int), .int .u64 (FW zc 2 : Int), .int .u64 (FW zc 3 : Int), .int .u64 (OW zc 0 : Int), .int .u64 (OW zc 1 : Int), .int .u64 (OW zc 2 : Int), .int .u64 (OW zc 3 : Int), .slice zq zL.length zk], .string s] wa fun e w' => e = .returned (.bool q) ∧ Below wa.heap.size wa w') := by
        unfold Hid
        rw [← hq]
        exact thas_any zc zq zk zL s wa (hZ.1.later (bel0 HBB.out hBa)) hZ.2.1.1 hZ.2.1.2 hZ.2.2 HS.out
      clear hz hgt hal hq hZ
      cases q with
      | true =>
        have HX : Hid (Z.any P = true) := List.any_eq_true.2 ⟨_, List.mem_of_getElem? HT.out, HPt.out⟩
        go_wp2_with fail
        refine H2.out.mono ?_
        rintro e W5 ⟨rfl, hb5⟩
        clear hct hwa p0 p1 p2 p3 p4 p5 p6 p7 p8 p9
        go_wp2_with fail
        go_ret
        exact ⟨by rw [HCV.out, HX.out]; rfl, bel0 HBB.out (bel0 hBa hb5)⟩
      | false =>
        have HX : Hid (∀ i t, i < j + 1 → Z[i]? = some t → P t = false) := fun i v hi hv => by
          by_cases e : i = j
          · subst e
            rw [HT.out] at hv
            obtain rfl := Option.some.inj hv
            exact HPt.out
          · exact hok.out i v (by omega) hv
        go_wp2_with fail
        refine H2.out.mono ?_
        rintro e W5 ⟨rfl, hb5⟩
        clear hct hwa p0 p1 p2 p3 p4 p5 p6 p7 p8 p9
        go_wp2_with fail
        go_roundw
        case rel => exact ⟨j + 1, by go_num, by omega, HX, bel0 hBa hb5⟩
        case measure => simp [intOf]; omega
    · have j1 : ¬ (j : Int) < (n : Int) := by omega
      have HX : Hid (Z.any P = false) := any_noV (n := j) (by rw [HN.out]; omega) hok.out
      clear hok
      go_wp2_with fail
      go_ret
      exact ⟨by rw [HCV.out, HX.out]; rfl, bel0 HBB.out hBj⟩
end Go.Proofs.YtkcbkeimbpopcaaGreatDoor
namespace Go.Proofs.YtkcbkeimbpopcaaGreatDoor
open Go.RowKit Go.Shelf
def digB (d : UInt8) : Bool := d == 48 || d == 49
/-- a header of that width -/
def hdB (b : Int) (l : List UInt8) : Bool := ((l.length : Int) == b) && !(b == 0) && l.all digB
theorem dig_succ {s : ByteArray} {k : Nat} (hk : k < s.size) (h : ∀ j (h : j < s.data.toList.length), j < k → digB s.data.toList[j] = true) (c : s[k] = 48 ∨ s[k] = 49) : ∀ j (h : j < s.data.toList.length), j < k + 1 → digB s.data.toList[j] = true := by
  intro j hj hlt
  by_cases e : j < k
  · exact h j hj e
  · obtain rfl : j = k := by omega
    have e2 : s.data.toList[j] = s[j] := rfl
    rw [e2]
    unfold digB
    rcases c with c | c <;> rw [c] <;> rfl
set_option maxHeartbeats 2000000 in
theorem dHeader_any (b : Int) (s : ByteArray) (w : World) (hs : s.size ≤ maxLen) :
    Calls Tryz.prog 42 #[.int .i64 b, .string s] w fun e w' => e = .returned (.bool (hdB b s.data.toList)) ∧ Below w.heap.size w w' := by
  unfold maxLen at hs
  have hlen : Hid (s.data.toList.length = s.size) := by simp [Hid]
  by_cases h1 : (s.size : Int) = b
  · by_cases h2 : b = 0
    · have hR : Hid (hdB b s.data.toList = false) := by
        unfold Hid hdB
        rw [show (b == 0) = true by simpa using h2]
        simp
      have m1 : ((s.size : Int) != b) = false := by simpa using h1
      have m2 : (b == 0) = true := by simpa using h2
      clear h1 h2
      go_enter Tryz.func42, Tryz.ntmps42
      go_wp2
      go_ret
      exact ⟨by rw [hR.out]; rfl, Below.refl _ _⟩
    · have hQ : Hid (∀ q, s.data.toList.all digB = q → hdB b s.data.toList = q) := fun q hq => by
        unfold hdB
        rw [hlen.out, hq, show ((s.size : Int) == b) = true by simpa using h1, show (b == 0) = false by simpa using h2]
        simp
      have m1 : ((s.size : Int) != b) = false := by simpa using h1
      have m2 : (b == 0) = false := by simpa using h2
      clear h1 h2
      go_enter Tryz.func42, Tryz.ntmps42
      go_wp2
      clear m1 m2
      go_loopw [5] (fun i wr => ∃ k : Nat, k ≤ s.size ∧ i = .int .i64 k ∧ (∀ j (h : j < s.data.toList.length), j < k → digB s.data.toList[j] = true) ∧ Below w.heap.size w wr) (fun i _ => s.size - (intOf i).toNat)
      case atStart => exact ⟨0, Nat.zero_le _, rfl, fun j _ h => by omega, Below.refl _ _⟩
      case round =>
        obtain ⟨k, hk, rfl, htri, hB⟩ := hrel
        by_cases hlt : k < s.size
        · have i1 : (k : Int) < (s.size : Int) := by omega
          have i0 : (0 : Int) ≤ (k : Int) := by omega
          by_cases c3 : s[k] = 48 ∨ s[k] = 49
          · have R := dig_succ hlt htri c3
            clear htri
            rcases c3 with c | c
            · have m1 : ((s[k].toNat : Int) != 48) = false := by rw [c]; decide
              clear c
              go_wp2
              go_roundw
              case rel => exact ⟨k + 1, by omega, by go_num, R, hB⟩
              case measure => simp [intOf]; omega
            · have m1 : ((s[k].toNat : Int) != 48) = true := by rw [c]; decide
              have m2 : ((s[k].toNat : Int) != 49) = false := by rw [c]; decide
              clear c
              go_wp2
              go_roundw
              case rel => exact ⟨k + 1, by omega, by go_num, R, hB⟩
              case measure => simp [intOf]; omega
          · have c48 : ¬ s[k] = 48 := fun e => c3 (.inl e)
            have c49 : ¬ s[k] = 49 := fun e => c3 (.inr e)
            have R : Hid (hdB b s.data.toList = false) := hQ.out _ (by
              rw [List.all_eq_false]
              refine ⟨s[k], List.getElem_mem (l := s.data.toList) (by have := hlen.out; omega), ?_⟩
              unfold digB
              simp [c48, c49])
            have m1 : ((s[k].toNat : Int) != 48) = true := by rw [show ((s[k].toNat : Int) != 48) = !(s[k] == 48) from byte_bne s[k] 48 (by decide)]; simp [c48]
            have m2 : ((s[k].toNat : Int) != 49) = true := by rw [show ((s[k].toNat : Int) != 49) = !(s[k] == 49) from byte_bne s[k] 49 (by decide)]; simp [c49]
            clear htri c48 c49 c3
            go_wp2
            go_ret
            exact ⟨by rw [R.out]; rfl, hB⟩
        · have R : Hid (hdB b s.data.toList = true) := hQ.out _ (by
            rw [List.all_eq_true]
            intro t ht
            obtain ⟨j, hj, rfl⟩ := List.getElem_of_mem ht
            exact htri j hj (by have := hlen.out; omega))
          clear htri
          go_wp2
          go_ret
          exact ⟨by rw [R.out]; rfl, hB⟩
  · have hR : Hid (hdB b s.data.toList = false) := by
      unfold Hid hdB
      rw [hlen.out, show ((s.size : Int) == b) = false by simpa using h1]
      simp
    have m1 : ((s.size : Int) != b) = true := by simpa using h1
    clear h1
    go_enter Tryz.func42, Tryz.ntmps42
    go_wp2
    go_ret
    exact ⟨by rw [hR.out]; rfl, Below.refl _ _⟩
end Go.Proofs.YtkcbkeimbpopcaaGreatDoor
namespace Go.Proofs.YtkcbkeimbpopcaaGreatDoor
open Go.RowKit Go.Shelf
/-- the document's: a header is in a term -/
def tdB (c : List UInt8) (L : List (List UInt8)) (h : List UInt8) : Bool := wiB h c && L.all (fun m => !wiB h m)
theorem good_hd {b : Int} {l : List UInt8} (h : hdB b l = true) (hb : b ≤ 256) : good l = true := by
  unfold hdB at h
  obtain ⟨h1, h2⟩ := Bool.and_eq_true_iff.1 h
  have h3 : (l.length : Int) = b := by simpa using (Bool.and_eq_true_iff.1 h1).1
  have h4 := List.all_eq_true.1 h2
  unfold good
  rw [Bool.and_eq_true, List.all_eq_true]
  refine ⟨by simp; omega, fun x hx => ?_⟩
  have h5 := h4 x hx
  unfold digB at h5
  unfold tri
  rcases Bool.or_eq_true_iff.1 h5 with h5 | h5 <;> rw [h5] <;> simp
set_option maxRecDepth 100000 in
set_option maxHeartbeats 4000000 in
theorem dHas_any (b : Int) (V : Value) (Ts : List (List UInt8 × List (List UInt8))) (l : List UInt8) (w : World) (h : RSR w V Ts) (hl : Ts.length ≤ 1000000) (hll : ∀ t ∈ Ts, t.2.length ≤ 1000000) (hb : b ≤ 256) (hs : l.length ≤ maxLen) : Calls Tryz.prog 18 #[.agg #[.int .i64 b, V], .string ⟨l.toArray⟩] w fun e w' => e = .returned (.bool (hdB b l && Ts.any (fun t => tdB t.1 t.2 l))) ∧ Below w.heap.size w w' := by
  obtain ⟨Z, p, cp, rfl, rfl, hr, hq⟩ := h
  rw [List.length_map] at hl
  obtain ⟨n, hn⟩ : ∃ n, Z.length = n := ⟨_, rfl⟩
  rw [hn] at hl ⊢
  obtain ⟨w2, hw2⟩ : ∃ w2, w.alloc (.cells #[.int .i64 b, .slice p n cp] 27 (0, 0)) = w2 := ⟨_, rfl⟩
  have h0 : w2.heap[w.heap.size]? = some (.cells #[.int .i64 b, .slice p n cp] 27 (0, 0)) := by rw [← hw2]; exact alloc_get _ _
  have hB : Below w.heap.size w w2 := by rw [← hw2]; exact belA (Below.refl _ _) _
  have HN : Hid (Z.length = n) := hn
  have HR : Hid (IRR w2 p Z) := hr.later hB
  have HQ : Hid (∀ z ∈ Z, IRSt w2 z.q z.L ∧ z.L.length ≤ 1000000) := fun z hz => ⟨(hq z hz).later hB, hll z.cont (List.mem_map_of_mem (f := ZT.cont) hz)⟩
  have HB : Hid (Below w.heap.size w w2) := hB
  have HC : Hid (∀ W, Below w2.heap.size w2 W → ∀ j, W.cell? ⟨w.heap.size, j, none⟩ = (#[.int .i64 b, .slice p n cp] : Array Value)[j]?) := fun W hW => (cells_block (keepblk3 hW h0)).1
  obtain ⟨hc0, -⟩ := cells_block h0
  obtain ⟨P, hP⟩ : ∃ P : ZT → Bool, (fun z => tdB z.c z.L l) = P := ⟨_, rfl⟩
  have HP : Hid (∀ z, P z = tdB z.c z.L l) := fun n => by rw [← hP]
  obtain ⟨R, hR⟩ : ∃ R, (Z.map ZT.cont).any (fun t => tdB t.1 t.2 l) = R := ⟨_, rfl⟩
  rw [hR]
  have HCV : Hid (R = Z.any P) := by
    unfold Hid
    rw [← hR, List.any_map, ← hP]
    rfl
  clear hR
  have H1 : Hid (∀ q, hdB b l = q → Calls Tryz.prog 42 #[.int .i64 b, .string ⟨l.toArray⟩] w2 fun e w' => e = .returned (.bool q) ∧ Below w2.heap.size w2 w') := fun q hq => by
    rw [← hq]
    exact dHeader_any b ⟨l.toArray⟩ w2 hs
  cases hd : hdB b l with
  | false =>
    have H2 := H1.out false hd
    clear h0 hr hq hB hn hP hd H1
    go_enter Tryz.func18, Tryz.ntmps18
    go_wp2_with fail
    refine H2.mono ?_
    rintro e W1 ⟨rfl, hb1⟩
    go_wp2_with fail
    go_ret
    exact ⟨rfl, bel0 HB.out hb1⟩
  | true =>
    have H2 := H1.out true hd
    have HIN : Hid (∀ y W, Calls Tryz.prog 43 #[.string ⟨l.toArray⟩, .string ⟨y.toArray⟩] W fun e w' => e = .returned (.bool (wiB l y)) ∧ Below W.heap.size W w') := fun y W => dinside_any l y W (good_hd hd hb)
    clear h0 hr hq hB hn hP hd H1 hb hs hll
    go_enter Tryz.func18, Tryz.ntmps18
    go_wp2_with fail
    refine H2.mono ?_
    rintro e W1 ⟨rfl, hb1⟩
    have HB1 : Hid (Below w2.heap.size w2 W1) := hb1
    clear hc0 hw2 hb1 H2
    go_wp2_with fail
    go_loopw [5] (fun v5 wr => ∃ k : Nat, v5 = .int .i64 k ∧ k ≤ n ∧ Hid (∀ i t, i < k → Z[i]? = some t → P t = false) ∧ Below w2.heap.size w2 wr) (fun v5 _ => n - (intOf v5).toNat)
    case atStart => exact ⟨0, rfl, Nat.zero_le _, fun i t hi => by omega, HB1.out⟩
    case round =>
      clear HB1
      obtain ⟨k, rfl, hk, hok, hBk⟩ := hrel
      have hc1 := HC.out wr hBk
      by_cases hlt : k < n
      · have j1 : (k : Int) < (n : Int) := by omega
        have j0 : (0 : Int) ≤ (k : Int) := by omega
        obtain ⟨z, hz⟩ : ∃ z, Z[k]? = some z := ⟨_, List.getElem?_eq_getElem (by rw [HN.out]; exact hlt)⟩
        obtain ⟨zc, zq, zk, zL⟩ := z
        obtain ⟨g, o0, rfl, p0, p1⟩ := HR.out wr hBk k _ hz
        simp only at p0 p1
        have HT : Hid (Z[k]? = some ⟨zc, zq, zk, zL⟩) := hz
        have HZ := HQ.out _ (List.mem_of_getElem? hz)
        have HZL : Hid (IRSt w2 zq zL) := HZ.1
        have hzl : zL.length ≤ 1000000 := HZ.2
        have HPt : Hid (P ⟨zc, zq, zk, zL⟩ = (wiB l zc && zL.all (fun m => !wiB l m))) := HP.out _
        have HC2 : Hid (∀ W, Below w2.heap.size w2 W → (∀ j, W.cell? ⟨w.heap.size, j, none⟩ = (#[.int .i64 b, .slice (some ⟨g, o0, none⟩) n cp] : Array Value)[j]?) ∧ W.cell? ⟨g, o0 + k * 2 + 1, none⟩ = some (.slice zq zL.length zk)) := fun W hW => by
          obtain ⟨g2, o2, e, c0, c1⟩ := HR.out W hW k _ HT.out
          injection e with e
          injection e with e1 e2
          subst e1 e2
          exact ⟨HC.out W hW, c1⟩
        obtain ⟨m, hm⟩ : ∃ m, zL.length = m := ⟨_, rfl⟩
        rw [hm] at p1 hzl HC2
        have HM : Hid (zL.length = m) := hm
        clear hz HZ hm
        go_wp2_with fail
        refine (HIN.out zc _).mono ?_
        rintro e W8 ⟨rfl, hb8⟩
        have hB8 := bel0 hBk hb8
        obtain ⟨y, hy⟩ : ∃ y, wiB l zc = y := ⟨_, rfl⟩
        rw [hy]
        have HY : Hid (wiB l zc = y) := hy
        have HB8 : Hid (Below w2.heap.size w2 W8) := hB8
        clear hc1 p0 p1 hBk hb8 hy hB8
        go_wp2_with fail
        go_loopw [6, 7] (fun v6 v7 ws => ∃ (j : Nat) (x : Bool), v6 = .bool x ∧ v7 = .int .i64 j ∧ j ≤ m ∧ Hid ((x = true ∧ y = true ∧ ∀ i u, i < j → zL[i]? = some u → wiB l u = false) ∨ (x = false ∧ (wiB l zc && zL.all (fun m => !wiB l m)) = false)) ∧ Below w2.heap.size w2 ws) (fun v6 v7 _ => 2 * (m - (intOf v7).toNat) + (match v6 with | .bool false => 0 | _ => 1))
        case atStart =>
          refine ⟨0, y, rfl, rfl, Nat.zero_le _, ?_, HB8.out⟩
          cases y with
          | true => exact .inl ⟨rfl, rfl, fun i u h => by omega⟩
          | false => exact .inr ⟨rfl, by rw [HY.out]; rfl⟩
        case round =>
          clear HB8
          obtain ⟨j, x, rfl, rfl, hj, HJ, hBs⟩ := hrel
          obtain ⟨hc2, hc3⟩ := HC2.out _ hBs
          cases x with
          | false =>
            have HF : Hid (P ⟨zc, zq, zk, zL⟩ = false) := by
              rcases HJ.out with ⟨h, _⟩ | ⟨_, h⟩
              · cases h
              · exact HPt.out.trans h
            have HX : Hid (∀ i t, i < k + 1 → Z[i]? = some t → P t = false) := fun i v hi hv => by
              by_cases e : i = k
              · subst e
                rw [HT.out] at hv
                obtain rfl := Option.some.inj hv
                exact HF.out
              · exact hok.out i v (by omega) hv
            clear HJ
            by_cases hlj : j < m
            · have j2 : (j : Int) < (m : Int) := by omega
              go_wp2_with fail
              go_roundw
              case rel => exact ⟨k + 1, by go_num, by omega, HX, hBs⟩
              case measure => simp [intOf]; omega
            · have j2 : ¬ (j : Int) < (m : Int) := by omega
              go_wp2_with fail
              go_roundw
              case rel => exact ⟨k + 1, by go_num, by omega, HX, hBs⟩
              case measure => simp [intOf]; omega
          | true =>
            have HNJ : Hid (y = true ∧ ∀ i u, i < j → zL[i]? = some u → wiB l u = false) := by
              rcases HJ.out with ⟨_, h⟩ | ⟨h, _⟩
              · exact h
              · cases h
            clear HJ
            by_cases hlj : j < m
            · have j2 : (j : Int) < (m : Int) := by omega
              have j3 : (0 : Int) ≤ (j : Int) := by omega
              obtain ⟨u, hu⟩ : ∃ u, zL[j]? = some u := ⟨_, List.getElem?_eq_getElem (by rw [HM.out]; exact hlj)⟩
              obtain ⟨g3, o3, rfl, hc4⟩ := HZL.out _ hBs j u hu
              have HU : Hid (zL[j]? = some u) := hu
              clear hu
              go_wp2_with fail
              refine (HIN.out u _).mono ?_
              rintro e W9 ⟨rfl, hb9⟩
              have hB9 := bel0 hBs hb9
              obtain ⟨q, hq⟩ : ∃ q, wiB l u = q := ⟨_, rfl⟩
              rw [hq]
              have HJ2 : Hid (((!q) = true ∧ y = true ∧ ∀ i z, i < j + 1 → zL[i]? = some z → wiB l z = false) ∨ ((!q) = false ∧ (wiB l zc && zL.all (fun m => !wiB l m)) = false)) := by
                cases q with
                | true =>
                  refine .inr ⟨rfl, ?_⟩
                  have : zL.all (fun m => !wiB l m) = false := List.all_eq_false.2 ⟨u, List.mem_of_getElem? HU.out, by rw [hq]; simp⟩
                  rw [this]
                  simp
                | false =>
                  refine .inl ⟨rfl, HNJ.out.1, fun i z hi hz => ?_⟩
                  by_cases e : i = j
                  · subst e
                    rw [HU.out] at hz
                    obtain rfl := Option.some.inj hz
                    exact hq
                  · exact HNJ.out.2 i z (by omega) hz
              clear hc2 hc3 hc4 hb9 hBs hq HNJ
              cases q with
              | true =>
                go_wp2_with fail
                go_roundw
                case rel => exact ⟨j + 1, false, rfl, by go_num, by omega, HJ2, hB9⟩
                case measure => simp [intOf]; omega
              | false =>
                go_wp2_with fail
                go_roundw
                case rel => exact ⟨j + 1, true, rfl, by go_num, by omega, HJ2, hB9⟩
                case measure => simp [intOf]; omega
            · have j2 : ¬ (j : Int) < (m : Int) := by omega
              have HF : Hid (Z.any P = true) := by
                refine List.any_eq_true.2 ⟨_, List.mem_of_getElem? HT.out, ?_⟩
                rw [HPt.out, HY.out, HNJ.out.1, Bool.true_and]
                refine List.all_eq_true.2 (fun t ht => ?_)
                obtain ⟨i, hi, he⟩ := List.getElem_of_mem ht
                rw [HNJ.out.2 i t (by have := HM.out; omega) (by rw [List.getElem?_eq_getElem hi, he])]
                rfl
              clear HNJ
              go_wp2_with fail
              go_ret
              exact ⟨by rw [HCV.out, HF.out]; rfl, bel0 HB.out hBs⟩
      · have j1 : ¬ (k : Int) < (n : Int) := by omega
        have HX : Hid (Z.any P = false) := any_noV (n := k) (by rw [HN.out]; omega) hok.out
        clear hok
        go_wp2_with fail
        go_ret
        exact ⟨by rw [HCV.out, HX.out]; rfl, bel0 HB.out hBk⟩
end Go.Proofs.YtkcbkeimbpopcaaGreatDoor
