import Derived.Test.YtpbbmmkhlpkkbaaGreatDoorXAF
import Derived.Test.YtpbbmmkhlpkkbaaGreatDoorXAC
import Derived.Test.YtpbbmmkhlpkkbaaGreatDoorXAD
import Derived.Deep.RegionHeld3
namespace Go.Proofs.YtpbbmmkhlpkkbaaGreatDoor
open Go.RowKit

/-- the cells of a cube -/
def ce9 (t : List UInt8) : List Value := [.int .i64 (t.length : Int), .int .u64 (FW t 0 : Int), .int .u64 (FW t 1 : Int), .int .u64 (FW t 2 : Int), .int .u64 (FW t 3 : Int), .int .u64 (OW t 0 : Int), .int .u64 (OW t 1 : Int), .int .u64 (OW t 2 : Int), .int .u64 (OW t 3 : Int)]
/-- the cells of a list of cubes -/
def ces (l : List (List UInt8)) : List Value := l.flatMap ce9
theorem ces_snoc (l : List (List UInt8)) (t : List UInt8) : ces (l ++ [t]) = ces l ++ ce9 t := by simp [ces]
theorem ces_get (L : List (List UInt8)) (k m : Nat) (hm : m < 9) : (ces L)[k * 9 + m]? = (L[k]?).bind (fun t => (ce9 t)[m]?) := by
  induction L generalizing k with
  | nil => simp [ces]
  | cons t l ih =>
    have hc : ces (t :: l) = ce9 t ++ ces l := rfl
    have hl : (ce9 t).length = 9 := rfl
    rw [hc]
    cases k with
    | zero =>
      rw [List.getElem?_append_left (by rw [hl]; omega)]
      simp
    | succ k =>
      rw [List.getElem?_append_right (by rw [hl]; omega), hl, show (k + 1) * 9 + m - 9 = k * 9 + m by omega, ih]
      simp
theorem ce_at {W : World} {B g cap k : Nat} {L : List (List UInt8)} {P : List UInt8} (hown : W.ownsRow B 38 9 (.slice (some ⟨g, 0, none⟩) L.length cap) L.length (ces L)) (hk : k < L.length) (hP : L[k] = P) :
    W.cell? ⟨g, k * 9, none⟩ = some (.int .i64 (P.length : Int)) ∧ W.cell? ⟨g, k * 9 + 1, none⟩ = some (.int .u64 (FW P 0 : Int)) ∧ W.cell? ⟨g, k * 9 + 2, none⟩ = some (.int .u64 (FW P 1 : Int)) ∧ W.cell? ⟨g, k * 9 + 3, none⟩ = some (.int .u64 (FW P 2 : Int)) ∧ W.cell? ⟨g, k * 9 + 4, none⟩ = some (.int .u64 (FW P 3 : Int)) ∧ W.cell? ⟨g, k * 9 + 5, none⟩ = some (.int .u64 (OW P 0 : Int)) ∧ W.cell? ⟨g, k * 9 + 6, none⟩ = some (.int .u64 (OW P 1 : Int)) ∧ W.cell? ⟨g, k * 9 + 7, none⟩ = some (.int .u64 (OW P 2 : Int)) ∧ W.cell? ⟨g, k * 9 + 8, none⟩ = some (.int .u64 (OW P 3 : Int)) := by
  have cc : ∀ m, m < 9 → W.cell? ⟨g, k * 9 + m, none⟩ = (ce9 P)[m]? := by
    intro m hm
    rw [hown.cellAt (k * 9 + m) (by omega), ces_get L k m hm, List.getElem?_eq_getElem hk, ← hP]
    rfl
  exact ⟨cc 0 (by omega), cc 1 (by omega), cc 2 (by omega), cc 3 (by omega), cc 4 (by omega), cc 5 (by omega), cc 6 (by omega), cc 7 (by omega), cc 8 (by omega)⟩

theorem lt_of_get3 {W : World} {b : Nat} {o : Obj} (h : W.heap[b]? = some o) : b < W.heap.size := (Array.getElem?_eq_some_iff.1 h).1
theorem keepblk3 {W w' : World} {b : Nat} {o : Obj} (hb : Below W.heap.size W w') (h : W.heap[b]? = some o) : w'.heap[b]? = some o := (hb.block b (lt_of_get3 h)).trans h
theorem allocblk3 {W : World} {b : Nat} {o : Obj} (h : W.heap[b]? = some o) (O : Obj) : (W.alloc O).heap[b]? = some o := (Below.heap_alloc _ _ _ (lt_of_get3 h)).trans h

/-- the hull, one cube behind the other; none: one does not fit -/
def hulA : List UInt8 → List (List UInt8) → Option (List UInt8)
  | h, [] => some h
  | h, d :: l => if fitB h d = true then hulA (huT h d) l else none
theorem hulA_app (f : List UInt8) (l m : List (List UInt8)) : hulA f (l ++ m) = (hulA f l).bind (fun h => hulA h m) := by
  induction l generalizing f with
  | nil => rfl
  | cons d l ih =>
    show (if fitB f d = true then hulA (huT f d) (l ++ m) else none) = ((if fitB f d = true then hulA (huT f d) l else none)).bind _
    split
    · exact ih _
    · rfl
theorem hulA_step (f : List UInt8) (L : List (List UInt8)) (k : Nat) (hk : k < L.length) (H : List UInt8) (h : hulA f (L.take k) = some H) (hf : fitB H L[k] = true) : hulA f (L.take (k + 1)) = some (huT H L[k]) := by
  rw [List.take_add_one, hulA_app, h, List.getElem?_eq_getElem hk]
  show (if fitB H L[k] = true then some (huT H L[k]) else none) = _
  rw [if_pos hf]
theorem hulA_stop (f : List UInt8) (L : List (List UInt8)) (k : Nat) (hk : k < L.length) (H : List UInt8) (h : hulA f (L.take k) = some H) (hf : fitB H L[k] = false) : hulA f L = none := by
  have e : L = L.take k ++ (L[k] :: L.drop (k + 1)) := by rw [List.getElem_cons_drop, List.take_append_drop]
  have : hulA f (L.take k ++ (L[k] :: L.drop (k + 1))) = none := by
    rw [hulA_app, h]
    show (if fitB H L[k] = true then hulA (huT H L[k]) _ else none) = none
    rw [hf]; rfl
  rw [← e] at this
  exact this
/-- what Hull answers -/
def hulV (o : Option (List UInt8)) : Value := match o with
  | some h => .tuple #[cubeV h, .int .i64 0]
  | none => .tuple #[cubeV [], .int .i64 11]

set_option maxRecDepth 100000 in
set_option maxHeartbeats 2000000 in
theorem hull_some (F : List UInt8) (L : List (List UInt8)) (g c B : Nat) (w : World) (gF : good F = true) (hF0 : F ≠ []) (gL0 : ∀ x ∈ L, good x = true) (hLl : L.length < 9223372036854775807)
    (h1 : w.ownsRow B 38 9 (.slice (some ⟨g, 0, none⟩) L.length c) L.length (ces L)) :
    Calls Tryz.prog 54 #[cubeV F, .slice (some ⟨g, 0, none⟩) L.length c] w fun e w' => e = .returned (hulV (hulA F L)) ∧ Below w.heap.size w w' := by
  have gL : Hid (∀ x ∈ L, good x = true) := gL0
  have hF : ((F.length : Int) == 0) = false := by
    cases F with
    | nil => exact absurd rfl hF0
    | cons x l => simp; omega
  clear gL0 hF0
  unfold cubeV cv
  go_enter Tryz.func54, Tryz.ntmps54
  go_wp2
  go_loopw [17] (fun i wr => ∃ (k : Nat) (H : List UInt8), k ≤ L.length ∧ i = .int .i64 k ∧ Hid (hulA F (L.take k) = some H) ∧ good H = true ∧ wr.heap[w.heap.size + 2]? = some (.cells (#[.int .i64 (H.length : Int), .int .u64 (FW H 0 : Int), .int .u64 (FW H 1 : Int), .int .u64 (FW H 2 : Int), .int .u64 (FW H 3 : Int), .int .u64 (OW H 0 : Int), .int .u64 (OW H 1 : Int), .int .u64 (OW H 2 : Int), .int .u64 (OW H 3 : Int)]) 38 (0, 0)) ∧ wr.heap[w.heap.size + 1]? = some (.cells #[.int .i64 0, .int .u64 0, .int .u64 0, .int .u64 0, .int .u64 0, .int .u64 0, .int .u64 0, .int .u64 0, .int .u64 0] 38 (0, 0)) ∧ Below w.heap.size w wr) (fun i _ => L.length - (intOf i).toNat)
  case atStart => exact ⟨0, F, Nat.zero_le _, rfl, rfl, gF, alloc_get2 _ _ _ _, alloc3_1 _ _ _ _, belA (belA (belA (Below.refl _ _) _) _) _⟩
  case round =>
    obtain ⟨k, H, hk, rfl, hH, gH, hA, hC, hW⟩ := hrel
    have hown := owns_below h1 hW
    by_cases hlt : k < L.length
    · have i0 : (0 : Int) ≤ (k : Int) := by omega
      have i1 : (k : Int) < (L.length : Int) := by omega
      obtain ⟨D, hD⟩ : ∃ D, L[k] = D := ⟨_, rfl⟩
      have gD : good D = true := gL.out D (by rw [← hD]; exact List.getElem_mem hlt)
      obtain ⟨x0, x1, x2, x3, x4, x5, x6, x7, x8⟩ := ce_at hown hlt hD
      have hD' : Hid (L[k] = D) := hD
      obtain ⟨q, hq⟩ : ∃ q, fitB H D = q := ⟨_, rfl⟩
      have hq' : Hid (fitB H D = q) := hq
      clear hD hq hown
      obtain ⟨cA, fA⟩ := cells_block hA
      have zA := lt_of_get3 hA
      go_wp2_with fail
      refine (fits_D H D q _ hq'.out).mono ?_
      rintro e w3 ⟨rfl, hb3⟩
      have hA3 := keepblk3 hb3 (allocblk3 hA _)
      have hC3 := keepblk3 hb3 (allocblk3 hC _)
      have hD3 : w3.heap[wr.heap.size]? = some (.cells (#[.int .i64 (D.length : Int), .int .u64 (FW D 0 : Int), .int .u64 (FW D 1 : Int), .int .u64 (FW D 2 : Int), .int .u64 (FW D 3 : Int), .int .u64 (OW D 0 : Int), .int .u64 (OW D 1 : Int), .int .u64 (OW D 2 : Int), .int .u64 (OW D 3 : Int)]) 38 (0, 0)) := keepblk3 hb3 (alloc_get _ _)
      have hW3 := bel0 (belA hW _) hb3
      have zz : w.heap.size + 3 ≤ wr.heap.size := by have := lt_of_get3 hA; omega
      clear hA hC hW cA fA zA x0 x1 x2 x3 x4 x5 x6 x7 x8 hb3
      cases q
      · have hfin : Hid (hulA F L = none) := hulA_stop F L k hlt H hH.out (by rw [hD'.out]; exact hq'.out)
        obtain ⟨cC, fC⟩ := cells_block hC3
        go_wp2
        refine bodyPost_ret (v := .tuple #[cv 0 0 0 0 0 0 0 0 0, .int .i64 11]) ?_ rfl ⟨by rw [hfin.out]; unfold hulV; rw [cubeV_nil], ?_⟩
        · exact res_cube2 _ _ (w.heap.size + 1) _ _ _ _ _ _ _ _ _ Tryz.results54 rfl (put9_get _ _ _ _ _ _ _ _ _ hC3)
        · exact put9_below _ _ _ _ _ _ _ _ _ hW3 (by omega)
      · obtain ⟨N, hN⟩ : ∃ N, huT H D = N := ⟨_, rfl⟩
        have hl := fitB_len hq'.out
        have gN : good N = true := by rw [← hN]; exact good_huT H D gH gD
        have hlN : Hid (N.length = H.length) := by unfold Hid; rw [← hN]; exact huT_len H D hl
        have hst : Hid (hulA F (L.take (k + 1)) = some N) := by unfold Hid; rw [hulA_step F L k hlt H hH.out (by rw [hD'.out]; exact hq'.out), hD'.out, hN]
        have f0 := FW_hu H D hl gH gD 0
        have o0 := OW_hu H D hl 0
        rw [hN] at f0 o0
        have f1 := FW_hu H D hl gH gD 1
        have o1 := OW_hu H D hl 1
        rw [hN] at f1 o1
        have f2 := FW_hu H D hl gH gD 2
        have o2 := OW_hu H D hl 2
        rw [hN] at f2 o2
        have f3 := FW_hu H D hl gH gD 3
        have o3 := OW_hu H D hl 3
        rw [hN] at f3 o3
        clear hH hq' hD' hN hl gD
        go_wp2
        go_loopw [26] (fun i wr2 => ∃ j : Nat, j ≤ 4 ∧ i = .int .i64 j ∧ wr2.heap[w.heap.size + 2]? = some (.cells #[.int .i64 (H.length : Int), .int .u64 (mxi j 0 (FW H 0 : Int) (FW N 0 : Int)), .int .u64 (mxi j 1 (FW H 1 : Int) (FW N 1 : Int)), .int .u64 (mxi j 2 (FW H 2 : Int) (FW N 2 : Int)), .int .u64 (mxi j 3 (FW H 3 : Int) (FW N 3 : Int)), .int .u64 (mxi j 0 (OW H 0 : Int) (OW N 0 : Int)), .int .u64 (mxi j 1 (OW H 1 : Int) (OW N 1 : Int)), .int .u64 (mxi j 2 (OW H 2 : Int) (OW N 2 : Int)), .int .u64 (mxi j 3 (OW H 3 : Int) (OW N 3 : Int))] 38 (0, 0)) ∧ wr2.heap[wr.heap.size]? = some (.cells (#[.int .i64 (D.length : Int), .int .u64 (FW D 0 : Int), .int .u64 (FW D 1 : Int), .int .u64 (FW D 2 : Int), .int .u64 (FW D 3 : Int), .int .u64 (OW D 0 : Int), .int .u64 (OW D 1 : Int), .int .u64 (OW D 2 : Int), .int .u64 (OW D 3 : Int)]) 38 (0, 0)) ∧ wr2.heap[w.heap.size + 1]? = some (.cells #[.int .i64 0, .int .u64 0, .int .u64 0, .int .u64 0, .int .u64 0, .int .u64 0, .int .u64 0, .int .u64 0, .int .u64 0] 38 (0, 0)) ∧ Below w.heap.size w wr2) (fun i _ => 4 - (intOf i).toNat)
        case atStart => exact ⟨0, by omega, rfl, hA3, hD3, hC3, hW3⟩
        case round =>
          clear hA3 hD3 hC3 hW3
          obtain ⟨j, hj, rfl, hA0, hD, hC, hW⟩ := hrel
          obtain ⟨hcD, hfD⟩ := cells_block hD
          rcases (show j = 0 ∨ j = 1 ∨ j = 2 ∨ j = 3 ∨ j = 4 by omega) with rfl | rfl | rfl | rfl | rfl
          · have hA : wr.heap[w.heap.size + 2]? = some (.cells #[.int .i64 (H.length : Int), .int .u64 (FW H 0 : Int), .int .u64 (FW H 1 : Int), .int .u64 (FW H 2 : Int), .int .u64 (FW H 3 : Int), .int .u64 (OW H 0 : Int), .int .u64 (OW H 1 : Int), .int .u64 (OW H 2 : Int), .int .u64 (OW H 3 : Int)] 38 (0, 0)) := hA0
            obtain ⟨hcA, hfA⟩ := cells_block hA
            clear hA0
            go_wp2
            go_region
            go_wp2
            go_region
            go_wp2
            go_roundw
            case rel => exact ⟨1, by omega, rfl, set2_0 _ _ hA, set2_ne _ _ (by simp; omega) (by simp; omega) hD, set2_ne _ _ (by simp) (by simp) hC, ((hW.setCell (by simp; omega) _).setCell (by simp; omega) _).drew.drew⟩
            case measure => simp [intOf]
          · have hA : wr.heap[w.heap.size + 2]? = some (.cells #[.int .i64 (H.length : Int), .int .u64 (FW N 0 : Int), .int .u64 (FW H 1 : Int), .int .u64 (FW H 2 : Int), .int .u64 (FW H 3 : Int), .int .u64 (OW N 0 : Int), .int .u64 (OW H 1 : Int), .int .u64 (OW H 2 : Int), .int .u64 (OW H 3 : Int)] 38 (0, 0)) := hA0
            obtain ⟨hcA, hfA⟩ := cells_block hA
            clear hA0
            go_wp2
            go_region
            go_wp2
            go_region
            go_wp2
            go_roundw
            case rel => exact ⟨2, by omega, rfl, set2_1 _ _ hA, set2_ne _ _ (by simp; omega) (by simp; omega) hD, set2_ne _ _ (by simp) (by simp) hC, ((hW.setCell (by simp; omega) _).setCell (by simp; omega) _).drew.drew⟩
            case measure => simp [intOf]
          · have hA : wr.heap[w.heap.size + 2]? = some (.cells #[.int .i64 (H.length : Int), .int .u64 (FW N 0 : Int), .int .u64 (FW N 1 : Int), .int .u64 (FW H 2 : Int), .int .u64 (FW H 3 : Int), .int .u64 (OW N 0 : Int), .int .u64 (OW N 1 : Int), .int .u64 (OW H 2 : Int), .int .u64 (OW H 3 : Int)] 38 (0, 0)) := hA0
            obtain ⟨hcA, hfA⟩ := cells_block hA
            clear hA0
            go_wp2
            go_region
            go_wp2
            go_region
            go_wp2
            go_roundw
            case rel => exact ⟨3, by omega, rfl, set2_2 _ _ hA, set2_ne _ _ (by simp; omega) (by simp; omega) hD, set2_ne _ _ (by simp) (by simp) hC, ((hW.setCell (by simp; omega) _).setCell (by simp; omega) _).drew.drew⟩
            case measure => simp [intOf]
          · have hA : wr.heap[w.heap.size + 2]? = some (.cells #[.int .i64 (H.length : Int), .int .u64 (FW N 0 : Int), .int .u64 (FW N 1 : Int), .int .u64 (FW N 2 : Int), .int .u64 (FW H 3 : Int), .int .u64 (OW N 0 : Int), .int .u64 (OW N 1 : Int), .int .u64 (OW N 2 : Int), .int .u64 (OW H 3 : Int)] 38 (0, 0)) := hA0
            obtain ⟨hcA, hfA⟩ := cells_block hA
            clear hA0
            go_wp2
            go_region
            go_wp2
            go_region
            go_wp2
            go_roundw
            case rel => exact ⟨4, by omega, rfl, set2_3 _ _ hA, set2_ne _ _ (by simp; omega) (by simp; omega) hD, set2_ne _ _ (by simp) (by simp) hC, ((hW.setCell (by simp; omega) _).setCell (by simp; omega) _).drew.drew⟩
            case measure => simp [intOf]
          · have hA : wr.heap[w.heap.size + 2]? = some (.cells (#[.int .i64 (N.length : Int), .int .u64 (FW N 0 : Int), .int .u64 (FW N 1 : Int), .int .u64 (FW N 2 : Int), .int .u64 (FW N 3 : Int), .int .u64 (OW N 0 : Int), .int .u64 (OW N 1 : Int), .int .u64 (OW N 2 : Int), .int .u64 (OW N 3 : Int)]) 38 (0, 0)) := by rw [hlN.out]; exact hA0
            clear hA0 hcD hfD f0 f1 f2 f3 o0 o1 o2 o3
            go_wp2
            go_roundw
            case rel => exact ⟨k + 1, N, by omega, by go_num, hst, gN, hA, hC, hW⟩
            case measure => simp [intOf]; omega
    · have i1 : ¬ (k : Int) < (L.length : Int) := by omega
      have hfin : Hid (hulA F L = some H) := by
        have := hH.out
        rwa [List.take_of_length_le (by omega)] at this
      obtain ⟨cA, fA⟩ := cells_block hA
      obtain ⟨cC, fC⟩ := cells_block hC
      clear hown
      go_wp2
      refine bodyPost_ret (v := .tuple #[cubeV H, .int .i64 0]) ?_ rfl ⟨by rw [hfin.out]; rfl, ?_⟩
      · exact res_cube2 _ _ (w.heap.size + 1) _ _ _ _ _ _ _ _ _ Tryz.results54 rfl (put9_get _ _ _ _ _ _ _ _ _ hC)
      · exact put9_below _ _ _ _ _ _ _ _ _ hW (by omega)
end Go.Proofs.YtpbbmmkhlpkkbaaGreatDoor
namespace Go.Proofs.YtpbbmmkhlpkkbaaGreatDoor
open Go.RowKit

theorem alloc_get1 (w : World) (o1 o2 : Obj) : ((w.alloc o1).alloc o2).heap[w.heap.size + 1]? = some o2 := by
  have := alloc_get (w.alloc o1) o2
  simpa using this

theorem hull_zero (V : Value) (w : World) : Calls Tryz.prog 54 #[cubeV [], V] w fun e w' => e = .returned (hulV none) ∧ Below w.heap.size w w' := by
  rw [cubeV_nil]
  unfold cv
  go_enter Tryz.func54, Tryz.ntmps54
  go_wp2
  refine bodyPost_ret (v := .tuple #[cv 0 0 0 0 0 0 0 0 0, .int .i64 11]) ?_ rfl ⟨by unfold hulV; rw [cubeV_nil], ?_⟩
  · exact res_cube2 _ _ (w.heap.size + 1) _ _ _ _ _ _ _ _ _ Tryz.results54 rfl (alloc_get1 _ _ _)
  · exact belA (belA (Below.refl _ _) _) _

set_option maxHeartbeats 1000000 in
theorem hull_nil (F : List UInt8) (p : Option Addr) (c : Nat) (w : World) (hF0 : F ≠ []) : Calls Tryz.prog 54 #[cubeV F, .slice p 0 c] w fun e w' => e = .returned (hulV (some F)) ∧ Below w.heap.size w w' := by
  have hF : ((F.length : Int) == 0) = false := by
    cases F with
    | nil => exact absurd rfl hF0
    | cons x l => simp; omega
  clear hF0
  unfold cubeV cv
  go_enter Tryz.func54, Tryz.ntmps54
  go_wp2
  go_loopw [17] (fun i wr => i = .int .i64 0 ∧ wr.heap[w.heap.size + 2]? = some (.cells (#[.int .i64 (F.length : Int), .int .u64 (FW F 0 : Int), .int .u64 (FW F 1 : Int), .int .u64 (FW F 2 : Int), .int .u64 (FW F 3 : Int), .int .u64 (OW F 0 : Int), .int .u64 (OW F 1 : Int), .int .u64 (OW F 2 : Int), .int .u64 (OW F 3 : Int)]) 38 (0, 0)) ∧ wr.heap[w.heap.size + 1]? = some (.cells #[.int .i64 0, .int .u64 0, .int .u64 0, .int .u64 0, .int .u64 0, .int .u64 0, .int .u64 0, .int .u64 0, .int .u64 0] 38 (0, 0)) ∧ Below w.heap.size w wr) (fun _ _ => 0)
  case atStart => exact ⟨rfl, alloc_get2 _ _ _ _, alloc3_1 _ _ _ _, belA (belA (belA (Below.refl _ _) _) _) _⟩
  case round =>
    obtain ⟨rfl, hA, hC, hW⟩ := hrel
    obtain ⟨cA, fA⟩ := cells_block hA
    obtain ⟨cC, fC⟩ := cells_block hC
    go_wp2
    refine bodyPost_ret (v := .tuple #[cubeV F, .int .i64 0]) ?_ rfl ⟨rfl, ?_⟩
    · exact res_cube2 _ _ (w.heap.size + 1) _ _ _ _ _ _ _ _ _ Tryz.results54 rfl (put9_get _ _ _ _ _ _ _ _ _ hC)
    · exact put9_below _ _ _ _ _ _ _ _ _ hW (by omega)

/-- what Hull answers -/
def hulF (F : List UInt8) (L : List (List UInt8)) : Option (List UInt8) := if F = [] then none else hulA F L

theorem hull_any (F : List UInt8) (L : List (List UInt8)) (V : Value) (B : Nat) (w : World) (gF : good F = true) (gL : ∀ x ∈ L, good x = true) (hLl : L.length < 9223372036854775807)
    (h1 : w.ownsRow B 38 9 V L.length (ces L)) :
    Calls Tryz.prog 54 #[cubeV F, V] w fun e w' => e = .returned (hulV (hulF F L)) ∧ Below w.heap.size w w' := by
  unfold hulF
  by_cases hF : F = []
  · subst hF
    rw [if_pos rfl]
    exact hull_zero V w
  · rw [if_neg hF]
    rcases h1.2 with ⟨rfl, n1⟩ | ⟨g, c, _, rfl, _⟩
    · obtain rfl : L = [] := List.eq_nil_of_length_eq_zero n1
      exact hull_nil F _ _ w hF
    · exact hull_some F L g c B w gF hF gL hLl h1
end Go.Proofs.YtpbbmmkhlpkkbaaGreatDoor
namespace Go.Proofs.YtpbbmmkhlpkkbaaGreatDoor
open Go.RowKit
/-- a cube's nine cells lie at a place -/
def CB (W : World) (g o : Nat) (t : List UInt8) : Prop := W.cell? ⟨g, o, none⟩ = some (.int .i64 (t.length : Int)) ∧ W.cell? ⟨g, o + 1, none⟩ = some (.int .u64 (FW t 0 : Int)) ∧ W.cell? ⟨g, o + 2, none⟩ = some (.int .u64 (FW t 1 : Int)) ∧ W.cell? ⟨g, o + 3, none⟩ = some (.int .u64 (FW t 2 : Int)) ∧ W.cell? ⟨g, o + 4, none⟩ = some (.int .u64 (FW t 3 : Int)) ∧ W.cell? ⟨g, o + 5, none⟩ = some (.int .u64 (OW t 0 : Int)) ∧ W.cell? ⟨g, o + 6, none⟩ = some (.int .u64 (OW t 1 : Int)) ∧ W.cell? ⟨g, o + 7, none⟩ = some (.int .u64 (OW t 2 : Int)) ∧ W.cell? ⟨g, o + 8, none⟩ = some (.int .u64 (OW t 3 : Int))
theorem CB.below {W X : World} {g o : Nat} {t : List UInt8} (h : CB W g o t) (hb : Below W.heap.size W X) : CB X g o t := by
  have hk : ∀ {p : Addr} {v : Value}, W.cell? p = some v → X.cell? p = some v := fun h => (hb.cell (World.block_lt_of_cell? W _ h)).trans h
  obtain ⟨a0, a1, a2, a3, a4, a5, a6, a7, a8⟩ := h
  exact ⟨hk a0, hk a1, hk a2, hk a3, hk a4, hk a5, hk a6, hk a7, hk a8⟩
theorem CB_of {W : World} {b : Nat} {t : List UInt8} (h : W.heap[b]? = some (.cells #[.int .i64 (t.length : Int), .int .u64 (FW t 0 : Int), .int .u64 (FW t 1 : Int), .int .u64 (FW t 2 : Int), .int .u64 (FW t 3 : Int), .int .u64 (OW t 0 : Int), .int .u64 (OW t 1 : Int), .int .u64 (OW t 2 : Int), .int .u64 (OW t 3 : Int)] 38 (0, 0))) : CB W b 0 t := by
  obtain ⟨c, -⟩ := cells_block h
  exact ⟨c 0, c 1, c 2, c 3, c 4, c 5, c 6, c 7, c 8⟩
/-- a row of cubes lies there, now and as long as what lay is not written -/
def IRC (w : World) (p : Option Addr) (L : List (List UInt8)) : Prop := ∀ W : World, Below w.heap.size w W → ∀ k t, L[k]? = some t → ∃ g o0, p = some ⟨g, o0, none⟩ ∧ CB W g (o0 + k * 9) t
theorem IRC.later {w W : World} {p : Option Addr} {L : List (List UInt8)} (h : IRC w p L) (hb : Below w.heap.size w W) : IRC W p L := fun X hX k t ht => h X (bel0 hb hX) k t ht
theorem IRC_own {W : World} {B n c : Nat} {p : Option Addr} {L : List (List UInt8)} (h : W.ownsRow B 38 9 (.slice p n c) n (ces L)) (hn : L.length = n) : IRC W p L := fun X hX k t ht => by
  obtain ⟨hk, he⟩ := List.getElem?_eq_some_iff.1 ht
  subst hn
  rcases h.2 with ⟨e, h0⟩ | ⟨g, cap, cur, e, _⟩
  · omega
  · injection e with e1 _ _
    subst e1
    refine ⟨g, 0, rfl, ?_⟩
    rw [Nat.zero_add]
    exact CB.below (ce_at h hk he) hX
/-- the first place, from k on, at which p holds -/
def ixP (p : List UInt8 → Bool) (k : Nat) : List (List UInt8) → Int
  | [] => -1
  | t :: r => if p t = true then (k : Int) else ixP p (k + 1) r
theorem ixP_step {p : List UInt8 → Bool} {L : List (List UInt8)} {k : Nat} {t : List UInt8} (h : L[k]? = some t) : ixP p k (L.drop k) = if p t = true then (k : Int) else ixP p (k + 1) (L.drop (k + 1)) := by
  obtain ⟨hk, he⟩ := List.getElem?_eq_some_iff.1 h
  rw [List.drop_eq_getElem_cons hk, he]
  rfl
theorem ixP_any (p : List UInt8 → Bool) : ∀ (L : List (List UInt8)) (k : Nat), decide ((0 : Int) ≤ ixP p k L) = L.any p
  | [], k => by simp [ixP]
  | t :: r, k => by
    unfold ixP
    cases h : p t with
    | true => simp [h]
    | false => rw [if_neg (by simp), ixP_any p r (k + 1)]; simp [h]
/-- where p holds first -/
theorem ixP_at (p : List UInt8 → Bool) : ∀ (L : List (List UInt8)) (k : Nat), (ixP p k L = -1 ∧ ∀ t ∈ L, p t = false) ∨ ∃ A t R, L = A ++ t :: R ∧ (∀ x ∈ A, p x = false) ∧ p t = true ∧ ixP p k L = ((k + A.length : Nat) : Int)
  | [], k => .inl ⟨rfl, fun t h => by cases h⟩
  | t :: r, k => by
    unfold ixP
    cases h : p t with
    | true => exact .inr ⟨[], t, r, rfl, fun x hx => (by cases hx), h, by simp⟩
    | false =>
      rw [if_neg (by simp)]
      rcases ixP_at p r (k + 1) with ⟨e, ha⟩ | ⟨A, u, R, e1, e2, e3, e4⟩
      · refine .inl ⟨e, fun x hx => ?_⟩
        rcases List.mem_cons.1 hx with rfl | hx
        · exact h
        · exact ha x hx
      · refine .inr ⟨t :: A, u, R, by rw [e1]; rfl, fun x hx => ?_, e3, by rw [e4, List.length_cons]; congr 1; omega⟩
        rcases List.mem_cons.1 hx with rfl | hx
        · exact h
        · exact e2 x hx
/-- greatest's closures: within(x, y), within(y, x) -/
def WQ (W : World) (bw bx : Nat) (x : List UInt8) : Prop := W.heap[bw]? = some (.cells #[.func (.func 86) #[] #[]] 130 (0, 0)) ∧ W.heap[bx]? = some (.cells #[.int .i64 (x.length : Int), .int .u64 (FW x 0 : Int), .int .u64 (FW x 1 : Int), .int .u64 (FW x 2 : Int), .int .u64 (FW x 3 : Int), .int .u64 (OW x 0 : Int), .int .u64 (OW x 1 : Int), .int .u64 (OW x 2 : Int), .int .u64 (OW x 3 : Int)] 38 (0, 0))
theorem WQ.below {W X : World} {bw bx : Nat} {x : List UInt8} (h : WQ W bw bx x) (hb : Below W.heap.size W X) : WQ X bw bx x := ⟨keepblk3 hb h.1, keepblk3 hb h.2⟩
set_option maxRecDepth 100000 in
set_option maxHeartbeats 1000000 in
theorem great1_any (x y : List UInt8) (bw bx : Nat) (w : World) (gx : good x = true) (gy : good y = true) (h : WQ w bw bx x) : Calls Tryz.prog 109 #[cubeV y, .pointer (some ⟨bw, 0, none⟩), .pointer (some ⟨bx, 0, none⟩)] w fun e w' => e = .returned (.bool (wiB x y)) ∧ Below w.heap.size w w' := by
  obtain ⟨hw, hx⟩ := h
  have w0 : (w.alloc (Obj.cells #[.int .i64 (y.length : Int), .int .u64 (FW y 0 : Int), .int .u64 (FW y 1 : Int), .int .u64 (FW y 2 : Int), .int .u64 (FW y 3 : Int), .int .u64 (OW y 0 : Int), .int .u64 (OW y 1 : Int), .int .u64 (OW y 2 : Int), .int .u64 (OW y 3 : Int)] 38)).cell? ⟨bw, 0, none⟩ = some (.func (.func 86) #[] #[]) := (cells_block (allocblk3 hw _)).1 0
  have x0 : CB (w.alloc (Obj.cells #[.int .i64 (y.length : Int), .int .u64 (FW y 0 : Int), .int .u64 (FW y 1 : Int), .int .u64 (FW y 2 : Int), .int .u64 (FW y 3 : Int), .int .u64 (OW y 0 : Int), .int .u64 (OW y 1 : Int), .int .u64 (OW y 2 : Int), .int .u64 (OW y 3 : Int)] 38)) bx 0 x := CB_of (allocblk3 hx _)
  have y0 : CB (w.alloc (Obj.cells #[.int .i64 (y.length : Int), .int .u64 (FW y 0 : Int), .int .u64 (FW y 1 : Int), .int .u64 (FW y 2 : Int), .int .u64 (FW y 3 : Int), .int .u64 (OW y 0 : Int), .int .u64 (OW y 1 : Int), .int .u64 (OW y 2 : Int), .int .u64 (OW y 3 : Int)] 38)) w.heap.size 0 y := CB_of (alloc_get _ _)
  obtain ⟨V, hV⟩ : ∃ V : World, w.alloc (Obj.cells #[.int .i64 (y.length : Int), .int .u64 (FW y 0 : Int), .int .u64 (FW y 1 : Int), .int .u64 (FW y 2 : Int), .int .u64 (FW y 3 : Int), .int .u64 (OW y 0 : Int), .int .u64 (OW y 1 : Int), .int .u64 (OW y 2 : Int), .int .u64 (OW y 3 : Int)] 38) = V := ⟨_, rfl⟩
  have vB : Below w.heap.size w V := by rw [← hV]; exact belA (Below.refl _ _) _
  rw [hV] at w0 x0 y0
  obtain ⟨a0, a1, a2, a3, a4, a5, a6, a7, a8⟩ := x0
  obtain ⟨d0, d1, d2, d3, d4, d5, d6, d7, d8⟩ := y0
  clear hw hx
  unfold cubeV cv
  go_enter Tryz.func109, Tryz.ntmps109
  go_wp2_with fail
  refine (within_any x y _ gx gy).mono ?_
  rintro e W1 ⟨rfl, hb1⟩
  go_wp2_with fail
  go_ret
  exact ⟨rfl, bel0 vB hb1⟩
set_option maxRecDepth 100000 in
set_option maxHeartbeats 1000000 in
theorem great2_any (x y : List UInt8) (bw bx : Nat) (w : World) (gx : good x = true) (gy : good y = true) (h : WQ w bw bx x) : Calls Tryz.prog 110 #[cubeV y, .pointer (some ⟨bw, 0, none⟩), .pointer (some ⟨bx, 0, none⟩)] w fun e w' => e = .returned (.bool (wiB y x)) ∧ Below w.heap.size w w' := by
  obtain ⟨hw, hx⟩ := h
  have w0 : (w.alloc (Obj.cells #[.int .i64 (y.length : Int), .int .u64 (FW y 0 : Int), .int .u64 (FW y 1 : Int), .int .u64 (FW y 2 : Int), .int .u64 (FW y 3 : Int), .int .u64 (OW y 0 : Int), .int .u64 (OW y 1 : Int), .int .u64 (OW y 2 : Int), .int .u64 (OW y 3 : Int)] 38)).cell? ⟨bw, 0, none⟩ = some (.func (.func 86) #[] #[]) := (cells_block (allocblk3 hw _)).1 0
  have x0 : CB (w.alloc (Obj.cells #[.int .i64 (y.length : Int), .int .u64 (FW y 0 : Int), .int .u64 (FW y 1 : Int), .int .u64 (FW y 2 : Int), .int .u64 (FW y 3 : Int), .int .u64 (OW y 0 : Int), .int .u64 (OW y 1 : Int), .int .u64 (OW y 2 : Int), .int .u64 (OW y 3 : Int)] 38)) bx 0 x := CB_of (allocblk3 hx _)
  have y0 : CB (w.alloc (Obj.cells #[.int .i64 (y.length : Int), .int .u64 (FW y 0 : Int), .int .u64 (FW y 1 : Int), .int .u64 (FW y 2 : Int), .int .u64 (FW y 3 : Int), .int .u64 (OW y 0 : Int), .int .u64 (OW y 1 : Int), .int .u64 (OW y 2 : Int), .int .u64 (OW y 3 : Int)] 38)) w.heap.size 0 y := CB_of (alloc_get _ _)
  obtain ⟨V, hV⟩ : ∃ V : World, w.alloc (Obj.cells #[.int .i64 (y.length : Int), .int .u64 (FW y 0 : Int), .int .u64 (FW y 1 : Int), .int .u64 (FW y 2 : Int), .int .u64 (FW y 3 : Int), .int .u64 (OW y 0 : Int), .int .u64 (OW y 1 : Int), .int .u64 (OW y 2 : Int), .int .u64 (OW y 3 : Int)] 38) = V := ⟨_, rfl⟩
  have vB : Below w.heap.size w V := by rw [← hV]; exact belA (Below.refl _ _) _
  rw [hV] at w0 x0 y0
  obtain ⟨a0, a1, a2, a3, a4, a5, a6, a7, a8⟩ := x0
  obtain ⟨d0, d1, d2, d3, d4, d5, d6, d7, d8⟩ := y0
  clear hw hx
  unfold cubeV cv
  go_enter Tryz.func110, Tryz.ntmps110
  go_wp2_with fail
  refine (within_any y x _ gy gx).mono ?_
  rintro e W1 ⟨rfl, hb1⟩
  go_wp2_with fail
  go_ret
  exact ⟨rfl, bel0 vB hb1⟩
set_option maxRecDepth 100000 in
set_option maxHeartbeats 2000000 in
theorem idxc1_any (L : List (List UInt8)) (n : Nat) (o : Option Addr) (c : Nat) (b1 b2 : Nat) (p : List UInt8 → Bool) (w : World) (hn : L.length = n) (hL : n ≤ 281474976710656) (hr : IRC w o L) (hp : ∀ W, Below w.heap.size w W → ∀ t ∈ L, Calls Tryz.prog 109 #[cubeV t, .pointer (some ⟨b1, 0, none⟩), .pointer (some ⟨b2, 0, none⟩)] W fun e w' => e = .returned (.bool (p t)) ∧ Below W.heap.size W w') :
    Calls Tryz.prog 124 #[.slice o n c, .func (.func 109) #[] #[.pointer (some ⟨b1, 0, none⟩), .pointer (some ⟨b2, 0, none⟩)]] w fun e w' => e = .returned (.int .i64 (ixP p 0 L)) ∧ Below w.heap.size w w' := by
  have HR : Hid (IRC w o L) := hr
  have HPP : Hid (∀ W, Below w.heap.size w W → ∀ t ∈ L, Calls Tryz.prog 109 #[cubeV t, .pointer (some ⟨b1, 0, none⟩), .pointer (some ⟨b2, 0, none⟩)] W fun e w' => e = .returned (.bool (p t)) ∧ Below W.heap.size W w') := hp
  have HN : Hid (L.length = n) := hn
  obtain ⟨q, hq⟩ : ∃ q, ixP p 0 L = q := ⟨_, rfl⟩
  rw [hq]
  have HQ : Hid (ixP p 0 (L.drop 0) = q) := hq
  clear hr hp hq hn
  go_enter Tryz.func124, Tryz.ntmps124
  go_wp2_with fail
  go_loopw [8] (fun vk wr => ∃ k : Nat, vk = .int .i64 k ∧ k ≤ n ∧ Hid (ixP p k (L.drop k) = q) ∧ Below w.heap.size w wr) (fun vk _ => n - (intOf vk).toNat)
  case atStart => exact ⟨0, rfl, Nat.zero_le _, HQ, Below.refl _ _⟩
  case round =>
    clear HQ
    obtain ⟨k, rfl, hk, hidx, hB⟩ := hrel
    by_cases hlt : k < n
    · have j1 : (k : Int) < (n : Int) := by omega
      have j0 : (0 : Int) ≤ (k : Int) := by omega
      obtain ⟨t, ht⟩ : ∃ t, L[k]? = some t := ⟨_, List.getElem?_eq_getElem (by rw [HN.out]; exact hlt)⟩
      obtain ⟨g, o0, rfl, p0, p1, p2, p3, p4, p5, p6, p7, p8⟩ := HR.out wr hB k t ht
      have hx2 := hidx.out
      rw [ixP_step ht] at hx2
      have H1 := HPP.out wr hB t (List.mem_of_getElem? ht)
      have HH : Hid (Calls Tryz.prog 109 #[cubeV t, .pointer (some ⟨b1, 0, none⟩), .pointer (some ⟨b2, 0, none⟩)] wr fun e w' => e = .returned (.bool (p t)) ∧ Below wr.heap.size wr w') := H1
      clear ht hidx H1
      cases hy : p t with
      | true =>
        rw [hy, if_pos rfl] at hx2
        have HX2 : Hid ((k : Int) = q) := hx2
        have HY : Hid (p t = true) := hy
        clear hx2 hy
        go_wp2_with fail
        refine HH.out.mono ?_
        rintro e W1 ⟨rfl, hb1⟩
        rw [HY.out]
        go_wp2_with fail
        go_ret
        exact ⟨by rw [← HX2.out]; rfl, bel0 hB hb1⟩
      | false =>
        rw [hy, if_neg (by simp)] at hx2
        have HX : Hid (ixP p (k + 1) (L.drop (k + 1)) = q) := hx2
        have HY : Hid (p t = false) := hy
        clear hx2 hy
        go_wp2_with fail
        refine HH.out.mono ?_
        rintro e W1 ⟨rfl, hb1⟩
        rw [HY.out]
        go_wp2_with fail
        go_roundw
        case rel => exact ⟨k + 1, by go_num, by omega, HX, bel0 hB hb1⟩
        case measure => simp [intOf]; omega
    · have j1 : ¬ (k : Int) < (n : Int) := by omega
      have HX2 : Hid (-1 = q) := by
        unfold Hid
        rw [← hidx.out, List.drop_eq_nil_of_le (by rw [HN.out]; omega)]
        rfl
      clear hidx
      go_wp2_with fail
      go_ret
      exact ⟨by rw [← HX2.out]; rfl, hB⟩
set_option maxRecDepth 100000 in
set_option maxHeartbeats 2000000 in
theorem idxc2_any (L : List (List UInt8)) (n : Nat) (o : Option Addr) (c : Nat) (b1 b2 : Nat) (p : List UInt8 → Bool) (w : World) (hn : L.length = n) (hL : n ≤ 281474976710656) (hr : IRC w o L) (hp : ∀ W, Below w.heap.size w W → ∀ t ∈ L, Calls Tryz.prog 110 #[cubeV t, .pointer (some ⟨b1, 0, none⟩), .pointer (some ⟨b2, 0, none⟩)] W fun e w' => e = .returned (.bool (p t)) ∧ Below W.heap.size W w') :
    Calls Tryz.prog 124 #[.slice o n c, .func (.func 110) #[] #[.pointer (some ⟨b1, 0, none⟩), .pointer (some ⟨b2, 0, none⟩)]] w fun e w' => e = .returned (.int .i64 (ixP p 0 L)) ∧ Below w.heap.size w w' := by
  have HR : Hid (IRC w o L) := hr
  have HPP : Hid (∀ W, Below w.heap.size w W → ∀ t ∈ L, Calls Tryz.prog 110 #[cubeV t, .pointer (some ⟨b1, 0, none⟩), .pointer (some ⟨b2, 0, none⟩)] W fun e w' => e = .returned (.bool (p t)) ∧ Below W.heap.size W w') := hp
  have HN : Hid (L.length = n) := hn
  obtain ⟨q, hq⟩ : ∃ q, ixP p 0 L = q := ⟨_, rfl⟩
  rw [hq]
  have HQ : Hid (ixP p 0 (L.drop 0) = q) := hq
  clear hr hp hq hn
  go_enter Tryz.func124, Tryz.ntmps124
  go_wp2_with fail
  go_loopw [8] (fun vk wr => ∃ k : Nat, vk = .int .i64 k ∧ k ≤ n ∧ Hid (ixP p k (L.drop k) = q) ∧ Below w.heap.size w wr) (fun vk _ => n - (intOf vk).toNat)
  case atStart => exact ⟨0, rfl, Nat.zero_le _, HQ, Below.refl _ _⟩
  case round =>
    clear HQ
    obtain ⟨k, rfl, hk, hidx, hB⟩ := hrel
    by_cases hlt : k < n
    · have j1 : (k : Int) < (n : Int) := by omega
      have j0 : (0 : Int) ≤ (k : Int) := by omega
      obtain ⟨t, ht⟩ : ∃ t, L[k]? = some t := ⟨_, List.getElem?_eq_getElem (by rw [HN.out]; exact hlt)⟩
      obtain ⟨g, o0, rfl, p0, p1, p2, p3, p4, p5, p6, p7, p8⟩ := HR.out wr hB k t ht
      have hx2 := hidx.out
      rw [ixP_step ht] at hx2
      have H1 := HPP.out wr hB t (List.mem_of_getElem? ht)
      have HH : Hid (Calls Tryz.prog 110 #[cubeV t, .pointer (some ⟨b1, 0, none⟩), .pointer (some ⟨b2, 0, none⟩)] wr fun e w' => e = .returned (.bool (p t)) ∧ Below wr.heap.size wr w') := H1
      clear ht hidx H1
      cases hy : p t with
      | true =>
        rw [hy, if_pos rfl] at hx2
        have HX2 : Hid ((k : Int) = q) := hx2
        have HY : Hid (p t = true) := hy
        clear hx2 hy
        go_wp2_with fail
        refine HH.out.mono ?_
        rintro e W1 ⟨rfl, hb1⟩
        rw [HY.out]
        go_wp2_with fail
        go_ret
        exact ⟨by rw [← HX2.out]; rfl, bel0 hB hb1⟩
      | false =>
        rw [hy, if_neg (by simp)] at hx2
        have HX : Hid (ixP p (k + 1) (L.drop (k + 1)) = q) := hx2
        have HY : Hid (p t = false) := hy
        clear hx2 hy
        go_wp2_with fail
        refine HH.out.mono ?_
        rintro e W1 ⟨rfl, hb1⟩
        rw [HY.out]
        go_wp2_with fail
        go_roundw
        case rel => exact ⟨k + 1, by go_num, by omega, HX, bel0 hB hb1⟩
        case measure => simp [intOf]; omega
    · have j1 : ¬ (k : Int) < (n : Int) := by omega
      have HX2 : Hid (-1 = q) := by
        unfold Hid
        rw [← hidx.out, List.drop_eq_nil_of_le (by rw [HN.out]; omega)]
        rfl
      clear hidx
      go_wp2_with fail
      go_ret
      exact ⟨by rw [← HX2.out]; rfl, hB⟩
set_option maxRecDepth 100000 in
set_option maxHeartbeats 1000000 in
theorem contc_any (L : List (List UInt8)) (n : Nat) (o : Option Addr) (c : Nat) (b1 b2 : Nat) (p : List UInt8 → Bool) (w : World) (hn : L.length = n) (hL : n ≤ 281474976710656) (hr : IRC w o L) (hp : ∀ W, Below w.heap.size w W → ∀ t ∈ L, Calls Tryz.prog 109 #[cubeV t, .pointer (some ⟨b1, 0, none⟩), .pointer (some ⟨b2, 0, none⟩)] W fun e w' => e = .returned (.bool (p t)) ∧ Below W.heap.size W w') :
    Calls Tryz.prog 96 #[.slice o n c, .func (.func 109) #[] #[.pointer (some ⟨b1, 0, none⟩), .pointer (some ⟨b2, 0, none⟩)]] w fun e w' => e = .returned (.bool (L.any p)) ∧ Below w.heap.size w w' := by
  have H1 := idxc1_any L n o c b1 b2 p w hn hL hr hp
  obtain ⟨b, hb⟩ : ∃ b, L.any p = b := ⟨_, rfl⟩
  obtain ⟨i, hi⟩ : ∃ i, ixP p 0 L = i := ⟨_, rfl⟩
  have HD : Hid (decide ((0 : Int) ≤ i) = b) := by
    unfold Hid
    rw [← hb, ← hi, ixP_any]
  rw [hi] at H1
  rw [hb]
  clear hr hp hb hi hn
  go_enter Tryz.func96, Tryz.ntmps96
  go_wp2_with fail
  refine H1.mono ?_
  rintro e W1 ⟨rfl, hb1⟩
  go_wp2_with fail
  go_ret
  exact ⟨by rw [← HD.out]; rfl, hb1⟩
end Go.Proofs.YtpbbmmkhlpkkbaaGreatDoor
