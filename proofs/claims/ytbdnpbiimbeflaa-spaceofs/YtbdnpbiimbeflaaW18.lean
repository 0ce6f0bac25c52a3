import Derived.Test.YtbdnpbiimbeflaaM7
import Derived.Test.YtbdnpbiimbeflaaW10
namespace Go.Proofs.Ytbdnpbiimbeflaa
open Go.RowKit

/-- the cells of a cube -/
def ce9 (t : List UInt8) : List Value := [.int .i64 (t.length : Int), .int .u64 (FW t 0 : Int), .int .u64 (FW t 1 : Int), .int .u64 (FW t 2 : Int), .int .u64 (FW t 3 : Int), .int .u64 (OW t 0 : Int), .int .u64 (OW t 1 : Int), .int .u64 (OW t 2 : Int), .int .u64 (OW t 3 : Int)]
/-- the cells of a list of cubes -/
def ces (l : List (List UInt8)) : List Value := l.flatMap ce9
theorem ces_snoc (l : List (List UInt8)) (t : List UInt8) : ces (l ++ [t]) = ces l ++ ce9 t := by simp [ces]
theorem ces_get (L : List (List UInt8)) (k m : Nat) (hm : m < 9) : (ces L)[k * 9 + m]? = (L[k]?).bind (fun t => (ce9 t)[m]?) := by
  induction L generalizing k with
  | nil => simp [ces]
  | cons t l ih =>
    have hc : ces (t :: l) = ce9 t ++ ces l := rfl
    have hl : (ce9 t).length = 9 := rfl
    rw [hc]
    cases k with
    | zero =>
      rw [List.getElem?_append_left (by rw [hl]; omega)]
      simp
    | succ k =>
      rw [List.getElem?_append_right (by rw [hl]; omega), hl, show (k + 1) * 9 + m - 9 = k * 9 + m by omega, ih]
      simp
theorem ce_at {W : World} {B g cap k : Nat} {L : List (List UInt8)} {P : List UInt8} (hown : W.ownsRow B 28 9 (.slice (some ⟨g, 0, none⟩) L.length cap) L.length (ces L)) (hk : k < L.length) (hP : L[k] = P) :
    W.cell? ⟨g, k * 9, none⟩ = some (.int .i64 (P.length : Int)) ∧ W.cell? ⟨g, k * 9 + 1, none⟩ = some (.int .u64 (FW P 0 : Int)) ∧ W.cell? ⟨g, k * 9 + 2, none⟩ = some (.int .u64 (FW P 1 : Int)) ∧ W.cell? ⟨g, k * 9 + 3, none⟩ = some (.int .u64 (FW P 2 : Int)) ∧ W.cell? ⟨g, k * 9 + 4, none⟩ = some (.int .u64 (FW P 3 : Int)) ∧ W.cell? ⟨g, k * 9 + 5, none⟩ = some (.int .u64 (OW P 0 : Int)) ∧ W.cell? ⟨g, k * 9 + 6, none⟩ = some (.int .u64 (OW P 1 : Int)) ∧ W.cell? ⟨g, k * 9 + 7, none⟩ = some (.int .u64 (OW P 2 : Int)) ∧ W.cell? ⟨g, k * 9 + 8, none⟩ = some (.int .u64 (OW P 3 : Int)) := by
  have cc : ∀ m, m < 9 → W.cell? ⟨g, k * 9 + m, none⟩ = (ce9 P)[m]? := by
    intro m hm
    rw [hown.cellAt (k * 9 + m) (by omega), ces_get L k m hm, List.getElem?_eq_getElem hk, ← hP]
    rfl
  exact ⟨cc 0 (by omega), cc 1 (by omega), cc 2 (by omega), cc 3 (by omega), cc 4 (by omega), cc 5 (by omega), cc 6 (by omega), cc 7 (by omega), cc 8 (by omega)⟩

theorem lt_of_get3 {W : World} {b : Nat} {o : Obj} (h : W.heap[b]? = some o) : b < W.heap.size := (Array.getElem?_eq_some_iff.1 h).1
theorem keepblk3 {W w' : World} {b : Nat} {o : Obj} (hb : Below W.heap.size W w') (h : W.heap[b]? = some o) : w'.heap[b]? = some o := (hb.block b (lt_of_get3 h)).trans h
theorem allocblk3 {W : World} {b : Nat} {o : Obj} (h : W.heap[b]? = some o) (O : Obj) : (W.alloc O).heap[b]? = some o := (Below.heap_alloc _ _ _ (lt_of_get3 h)).trans h

/-- the hull, one cube behind the other; none: one does not fit -/
def hulA : List UInt8 → List (List UInt8) → Option (List UInt8)
  | h, [] => some h
  | h, d :: l => if fitB h d = true then hulA (huT h d) l else none
theorem hulA_app (f : List UInt8) (l m : List (List UInt8)) : hulA f (l ++ m) = (hulA f l).bind (fun h => hulA h m) := by
  induction l generalizing f with
  | nil => rfl
  | cons d l ih =>
    show (if fitB f d = true then hulA (huT f d) (l ++ m) else none) = ((if fitB f d = true then hulA (huT f d) l else none)).bind _
    split
    · exact ih _
    · rfl
theorem hulA_step (f : List UInt8) (L : List (List UInt8)) (k : Nat) (hk : k < L.length) (H : List UInt8) (h : hulA f (L.take k) = some H) (hf : fitB H L[k] = true) : hulA f (L.take (k + 1)) = some (huT H L[k]) := by
  rw [List.take_add_one, hulA_app, h, List.getElem?_eq_getElem hk]
  show (if fitB H L[k] = true then some (huT H L[k]) else none) = _
  rw [if_pos hf]
theorem hulA_stop (f : List UInt8) (L : List (List UInt8)) (k : Nat) (hk : k < L.length) (H : List UInt8) (h : hulA f (L.take k) = some H) (hf : fitB H L[k] = false) : hulA f L = none := by
  have e : L = L.take k ++ (L[k] :: L.drop (k + 1)) := by rw [List.getElem_cons_drop, List.take_append_drop]
  have : hulA f (L.take k ++ (L[k] :: L.drop (k + 1))) = none := by
    rw [hulA_app, h]
    show (if fitB H L[k] = true then hulA (huT H L[k]) _ else none) = none
    rw [hf]; rfl
  rw [← e] at this
  exact this
/-- what Hull answers -/
def hulV (o : Option (List UInt8)) : Value := match o with
  | some h => .tuple #[cubeV h, .int .i64 0]
  | none => .tuple #[cubeV [], .int .i64 11]

set_option maxRecDepth 100000 in
set_option maxHeartbeats 2000000 in
theorem hull_some (F : List UInt8) (L : List (List UInt8)) (g c B : Nat) (w : World) (gF : good F = true) (hF0 : F ≠ []) (gL0 : ∀ x ∈ L, good x = true) (hLl : L.length < 9223372036854775807)
    (h1 : w.ownsRow B 28 9 (.slice (some ⟨g, 0, none⟩) L.length c) L.length (ces L)) :
    Calls Try.prog 13 #[cubeV F, .slice (some ⟨g, 0, none⟩) L.length c] w fun e w' => e = .returned (hulV (hulA F L)) ∧ Below w.heap.size w w' := by
  have gL : Hid (∀ x ∈ L, good x = true) := gL0
  have hF : ((F.length : Int) == 0) = false := by
    cases F with
    | nil => exact absurd rfl hF0
    | cons x l => simp; omega
  clear gL0 hF0
  unfold cubeV cv
  go_enter Try.func13, Try.ntmps13
  go_wp2
  go_loopw [17] (fun i wr => ∃ (k : Nat) (H : List UInt8), k ≤ L.length ∧ i = .int .i64 k ∧ Hid (hulA F (L.take k) = some H) ∧ good H = true ∧ wr.heap[w.heap.size + 2]? = some (.cells (#[.int .i64 (H.length : Int), .int .u64 (FW H 0 : Int), .int .u64 (FW H 1 : Int), .int .u64 (FW H 2 : Int), .int .u64 (FW H 3 : Int), .int .u64 (OW H 0 : Int), .int .u64 (OW H 1 : Int), .int .u64 (OW H 2 : Int), .int .u64 (OW H 3 : Int)]) 28 (0, 0)) ∧ wr.heap[w.heap.size + 1]? = some (.cells #[.int .i64 0, .int .u64 0, .int .u64 0, .int .u64 0, .int .u64 0, .int .u64 0, .int .u64 0, .int .u64 0, .int .u64 0] 28 (0, 0)) ∧ Below w.heap.size w wr) (fun i _ => L.length - (intOf i).toNat)
  case atStart => exact ⟨0, F, Nat.zero_le _, rfl, rfl, gF, alloc_get2 _ _ _ _, alloc3_1 _ _ _ _, belA (belA (belA (Below.refl _ _) _) _) _⟩
  case round =>
    obtain ⟨k, H, hk, rfl, hH, gH, hA, hC, hW⟩ := hrel
    have hown := owns_below h1 hW
    by_cases hlt : k < L.length
    · have i0 : (0 : Int) ≤ (k : Int) := by omega
      have i1 : (k : Int) < (L.length : Int) := by omega
      obtain ⟨D, hD⟩ : ∃ D, L[k] = D := ⟨_, rfl⟩
      have gD : good D = true := gL.out D (by rw [← hD]; exact List.getElem_mem hlt)
      obtain ⟨x0, x1, x2, x3, x4, x5, x6, x7, x8⟩ := ce_at hown hlt hD
      have hD' : Hid (L[k] = D) := hD
      obtain ⟨q, hq⟩ : ∃ q, fitB H D = q := ⟨_, rfl⟩
      have hq' : Hid (fitB H D = q) := hq
      clear hD hq hown
      obtain ⟨cA, fA⟩ := cells_block hA
      have zA := lt_of_get3 hA
      go_wp2_with fail
      refine (fits_D H D q _ hq'.out).mono ?_
      rintro e w3 ⟨rfl, hb3⟩
      have hA3 := keepblk3 hb3 (allocblk3 hA _)
      have hC3 := keepblk3 hb3 (allocblk3 hC _)
      have hD3 : w3.heap[wr.heap.size]? = some (.cells (#[.int .i64 (D.length : Int), .int .u64 (FW D 0 : Int), .int .u64 (FW D 1 : Int), .int .u64 (FW D 2 : Int), .int .u64 (FW D 3 : Int), .int .u64 (OW D 0 : Int), .int .u64 (OW D 1 : Int), .int .u64 (OW D 2 : Int), .int .u64 (OW D 3 : Int)]) 28 (0, 0)) := keepblk3 hb3 (alloc_get _ _)
      have hW3 := bel0 (belA hW _) hb3
      have zz : w.heap.size + 3 ≤ wr.heap.size := by have := lt_of_get3 hA; omega
      clear hA hC hW cA fA zA x0 x1 x2 x3 x4 x5 x6 x7 x8 hb3
      cases q
      · have hfin : Hid (hulA F L = none) := hulA_stop F L k hlt H hH.out (by rw [hD'.out]; exact hq'.out)
        obtain ⟨cC, fC⟩ := cells_block hC3
        go_wp2
        refine bodyPost_ret (v := .tuple #[cv 0 0 0 0 0 0 0 0 0, .int .i64 11]) ?_ rfl ⟨by rw [hfin.out]; unfold hulV; rw [cubeV_nil], ?_⟩
        · exact res_cube2 _ _ (w.heap.size + 1) _ _ _ _ _ _ _ _ _ Try.results13 rfl (put9_get _ _ _ _ _ _ _ _ _ hC3)
        · exact put9_below _ _ _ _ _ _ _ _ _ hW3 (by omega)
      · obtain ⟨N, hN⟩ : ∃ N, huT H D = N := ⟨_, rfl⟩
        have hl := fitB_len hq'.out
        have gN : good N = true := by rw [← hN]; exact good_huT H D gH gD
        have hlN : Hid (N.length = H.length) := by unfold Hid; rw [← hN]; exact huT_len H D hl
        have hst : Hid (hulA F (L.take (k + 1)) = some N) := by unfold Hid; rw [hulA_step F L k hlt H hH.out (by rw [hD'.out]; exact hq'.out), hD'.out, hN]
        have f0 := FW_hu H D hl gH gD 0
        have o0 := OW_hu H D hl 0
        rw [hN] at f0 o0
        have f1 := FW_hu H D hl gH gD 1
        have o1 := OW_hu H D hl 1
        rw [hN] at f1 o1
        have f2 := FW_hu H D hl gH gD 2
        have o2 := OW_hu H D hl 2
        rw [hN] at f2 o2
        have f3 := FW_hu H D hl gH gD 3
        have o3 := OW_hu H D hl 3
        rw [hN] at f3 o3
        clear hH hq' hD' hN hl gD
        go_wp2
        go_loopw [26] (fun i wr2 => ∃ j : Nat, j ≤ 4 ∧ i = .int .i64 j ∧ wr2.heap[w.heap.size + 2]? = some (.cells #[.int .i64 (H.length : Int), .int .u64 (mxi j 0 (FW H 0 : Int) (FW N 0 : Int)), .int .u64 (mxi j 1 (FW H 1 : Int) (FW N 1 : Int)), .int .u64 (mxi j 2 (FW H 2 : Int) (FW N 2 : Int)), .int .u64 (mxi j 3 (FW H 3 : Int) (FW N 3 : Int)), .int .u64 (mxi j 0 (OW H 0 : Int) (OW N 0 : Int)), .int .u64 (mxi j 1 (OW H 1 : Int) (OW N 1 : Int)), .int .u64 (mxi j 2 (OW H 2 : Int) (OW N 2 : Int)), .int .u64 (mxi j 3 (OW H 3 : Int) (OW N 3 : Int))] 28 (0, 0)) ∧ wr2.heap[wr.heap.size]? = some (.cells (#[.int .i64 (D.length : Int), .int .u64 (FW D 0 : Int), .int .u64 (FW D 1 : Int), .int .u64 (FW D 2 : Int), .int .u64 (FW D 3 : Int), .int .u64 (OW D 0 : Int), .int .u64 (OW D 1 : Int), .int .u64 (OW D 2 : Int), .int .u64 (OW D 3 : Int)]) 28 (0, 0)) ∧ wr2.heap[w.heap.size + 1]? = some (.cells #[.int .i64 0, .int .u64 0, .int .u64 0, .int .u64 0, .int .u64 0, .int .u64 0, .int .u64 0, .int .u64 0, .int .u64 0] 28 (0, 0)) ∧ Below w.heap.size w wr2) (fun i _ => 4 - (intOf i).toNat)
        case atStart => exact ⟨0, by omega, rfl, hA3, hD3, hC3, hW3⟩
        case round =>
          clear hA3 hD3 hC3 hW3
          obtain ⟨j, hj, rfl, hA0, hD, hC, hW⟩ := hrel
          obtain ⟨hcD, hfD⟩ := cells_block hD
          rcases (show j = 0 ∨ j = 1 ∨ j = 2 ∨ j = 3 ∨ j = 4 by omega) with rfl | rfl | rfl | rfl | rfl
          · have hA : wr.heap[w.heap.size + 2]? = some (.cells #[.int .i64 (H.length : Int), .int .u64 (FW H 0 : Int), .int .u64 (FW H 1 : Int), .int .u64 (FW H 2 : Int), .int .u64 (FW H 3 : Int), .int .u64 (OW H 0 : Int), .int .u64 (OW H 1 : Int), .int .u64 (OW H 2 : Int), .int .u64 (OW H 3 : Int)] 28 (0, 0)) := hA0
            obtain ⟨hcA, hfA⟩ := cells_block hA
            clear hA0
            go_wp2
            go_region
            go_wp2
            go_region
            go_wp2
            go_roundw
            case rel => exact ⟨1, by omega, rfl, set2_0 _ _ hA, set2_ne _ _ (by simp; omega) (by simp; omega) hD, set2_ne _ _ (by simp) (by simp) hC, ((hW.setCell (by simp; omega) _).setCell (by simp; omega) _).drew.drew⟩
            case measure => simp [intOf]
          · have hA : wr.heap[w.heap.size + 2]? = some (.cells #[.int .i64 (H.length : Int), .int .u64 (FW N 0 : Int), .int .u64 (FW H 1 : Int), .int .u64 (FW H 2 : Int), .int .u64 (FW H 3 : Int), .int .u64 (OW N 0 : Int), .int .u64 (OW H 1 : Int), .int .u64 (OW H 2 : Int), .int .u64 (OW H 3 : Int)] 28 (0, 0)) := hA0
            obtain ⟨hcA, hfA⟩ := cells_block hA
            clear hA0
            go_wp2
            go_region
            go_wp2
            go_region
            go_wp2
            go_roundw
            case rel => exact ⟨2, by omega, rfl, set2_1 _ _ hA, set2_ne _ _ (by simp; omega) (by simp; omega) hD, set2_ne _ _ (by simp) (by simp) hC, ((hW.setCell (by simp; omega) _).setCell (by simp; omega) _).drew.drew⟩
            case measure => simp [intOf]
          · have hA : wr.heap[w.heap.size + 2]? = some (.cells #[.int .i64 (H.length : Int), .int .u64 (FW N 0 : Int), .int .u64 (FW N 1 : Int), .int .u64 (FW H 2 : Int), .int .u64 (FW H 3 : Int), .int .u64 (OW N 0 : Int), .int .u64 (OW N 1 : Int), .int .u64 (OW H 2 : Int), .int .u64 (OW H 3 : Int)] 28 (0, 0)) := hA0
            obtain ⟨hcA, hfA⟩ := cells_block hA
            clear hA0
            go_wp2
            go_region
            go_wp2
            go_region
            go_wp2
            go_roundw
            case rel => exact ⟨3, by omega, rfl, set2_2 _ _ hA, set2_ne _ _ (by simp; omega) (by simp; omega) hD, set2_ne _ _ (by simp) (by simp) hC, ((hW.setCell (by simp; omega) _).setCell (by simp; omega) _).drew.drew⟩
            case measure => simp [intOf]
          · have hA : wr.heap[w.heap.size + 2]? = some (.cells #[.int .i64 (H.length : Int), .int .u64 (FW N 0 : Int), .int .u64 (FW N 1 : Int), .int .u64 (FW N 2 : Int), .int .u64 (FW H 3 : Int), .int .u64 (OW N 0 : Int), .int .u64 (OW N 1 : Int), .int .u64 (OW N 2 : Int), .int .u64 (OW H 3 : Int)] 28 (0, 0)) := hA0
            obtain ⟨hcA, hfA⟩ := cells_block hA
            clear hA0
            go_wp2
            go_region
            go_wp2
            go_region
            go_wp2
            go_roundw
            case rel => exact ⟨4, by omega, rfl, set2_3 _ _ hA, set2_ne _ _ (by simp; omega) (by simp; omega) hD, set2_ne _ _ (by simp) (by simp) hC, ((hW.setCell (by simp; omega) _).setCell (by simp; omega) _).drew.drew⟩
            case measure => simp [intOf]
          · have hA : wr.heap[w.heap.size + 2]? = some (.cells (#[.int .i64 (N.length : Int), .int .u64 (FW N 0 : Int), .int .u64 (FW N 1 : Int), .int .u64 (FW N 2 : Int), .int .u64 (FW N 3 : Int), .int .u64 (OW N 0 : Int), .int .u64 (OW N 1 : Int), .int .u64 (OW N 2 : Int), .int .u64 (OW N 3 : Int)]) 28 (0, 0)) := by rw [hlN.out]; exact hA0
            clear hA0 hcD hfD f0 f1 f2 f3 o0 o1 o2 o3
            go_wp2
            go_roundw
            case rel => exact ⟨k + 1, N, by omega, by go_num, hst, gN, hA, hC, hW⟩
            case measure => simp [intOf]; omega
    · have i1 : ¬ (k : Int) < (L.length : Int) := by omega
      have hfin : Hid (hulA F L = some H) := by
        have := hH.out
        rwa [List.take_of_length_le (by omega)] at this
      obtain ⟨cA, fA⟩ := cells_block hA
      obtain ⟨cC, fC⟩ := cells_block hC
      clear hown
      go_wp2
      refine bodyPost_ret (v := .tuple #[cubeV H, .int .i64 0]) ?_ rfl ⟨by rw [hfin.out]; rfl, ?_⟩
      · exact res_cube2 _ _ (w.heap.size + 1) _ _ _ _ _ _ _ _ _ Try.results13 rfl (put9_get _ _ _ _ _ _ _ _ _ hC)
      · exact put9_below _ _ _ _ _ _ _ _ _ hW (by omega)
end Go.Proofs.Ytbdnpbiimbeflaa
