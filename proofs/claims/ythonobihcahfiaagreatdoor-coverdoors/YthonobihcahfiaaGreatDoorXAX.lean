import Derived.Test.YthonobihcahfiaaGreatDoorXAW
import Derived.Laws.MakeOwn
namespace Go.Proofs.YthonobihcahfiaaGreatDoor.Nt
open Go.RowKit Go.Shelf
def vA (N : Nat) (f : Nat → Value) : Array Value := ((List.range N).map f).toArray
theorem vA_get {N : Nat} {f : Nat → Value} {j : Nat} (h : j < N) : (vA N f)[j]? = some (f j) := by simp [vA, h]
theorem vA_congr {N : Nat} {f g : Nat → Value} (h : ∀ j, j < N → f j = g j) : vA N f = vA N g := by
  unfold vA
  exact congrArg List.toArray (List.map_congr_left (fun j hj => h j (List.mem_range.1 hj)))
theorem vA_set {N k : Nat} {f : Nat → Value} {v : Value} : (vA N f).setIfInBounds k v = vA N (fun j => if j = k then v else f j) := by
  apply Array.ext
  · simp [vA]
  · intro i h1 h2
    rw [Array.getElem_setIfInBounds]
    simp only [vA, List.getElem_toArray, List.getElem_map, List.getElem_range]
    by_cases h : k = i
    · subst h; simp
    · rw [if_neg h, if_neg (fun e => h e.symm)]
    simpa [vA] using h1
theorem made_vA (z : Array Value) (N : Nat) : madeCells z N = vA N (fun j => z[j % z.size]!) := by
  apply Array.ext
  · simp [madeCells, vA]
  · intro i h1 h2
    simp [madeCells, vA]
theorem set_alloc (w : World) (a : Array Value) (T : TypeId) (fr : Nat × Nat) (k : Nat) (v : Value) : (w.alloc (.cells a T fr)).setCell ⟨w.heap.size, k, none⟩ v = w.alloc (.cells (a.setIfInBounds k v) T fr) := by
  have h : ((w.alloc (.cells a T fr)).setCell ⟨w.heap.size, k, none⟩ v).heap = (w.alloc (.cells (a.setIfInBounds k v) T fr)).heap := by
    apply Array.ext_getElem?
    intro i
    by_cases hi : i = w.heap.size
    · subst hi
      rw [set_getZ v (alloc_getZ _ _), alloc_getZ]
    · rw [heap_setCell_other _ ⟨w.heap.size, k, none⟩ i v (fun e => hi (by simpa using e))]
      show (w.heap.push _)[i]? = (w.heap.push _)[i]?
      rw [Array.getElem?_push, Array.getElem?_push, if_neg hi, if_neg hi]
  show World.mk _ _ _ _ _ = World.mk _ _ _ _ _
  exact congrArg (fun H => World.mk H w.tape w.drawn w.os w.output) h
def beh1 : Value := .string ⟨#[98, 101, 104, 105, 110, 100, 32, 116, 104, 101, 32, 101, 110, 100]⟩
def beh2 : Value := .string ⟨#[98, 101, 104, 105, 110, 100, 32, 116, 104, 101, 32, 101, 110, 100, 50]⟩
theorem info_rints : (Tryz.prog.info? 3).map (fun i => (i.zero, i.size, i.bytes)) = some (some (.int .i64 0), 1, 8) := by kernel_rfl
theorem make_rints (K : Nat) (hK : K * 8 ≤ 281474976710656) (w : World) : (Instr.makeSlice 34 (.int .i64 (K : Int)) (.int .i64 (K : Int))).run Tryz.prog w = .ok (.slice (some ⟨w.heap.size, 0, none⟩) K K) (w.alloc (.cells (vA K (fun _ => (.int .i64 0))) 3)) := by
  obtain ⟨i0, hi, hz0, hz1, hz2⟩ := info_parts info_rints
  have h := run_make (P := Tryz.prog) w 34 3 i0 _ Tryz.underlying34 hi hz0 .i64 .i64 (K : Int) (K : Int) (by omega) (Int.le_refl _) (by rw [hz2]; omega) (by omega)
  rw [Int.toNat_natCast, hz1, made_vA, Nat.mul_one] at h
  rw [h, vA_congr (g := fun _ => (.int .i64 0)) (fun j _ => by simp [Value.cells, Nat.mod_one])]
def riF (L : List (Int)) (j : Nat) : Value := match L[j]? with
  | some x => .int .i64 x
  | none => if j = L.length then .int .i64 (-4711) else .int .i64 (-4712)
def riFk (L : List (Int)) (k j : Nat) : Value := if j < k then riF L j else (.int .i64 0)
theorem riF_at {L : List (Int)} {j : Nat} {x : Int} (h : L[j]? = some x) : riF L j = .int .i64 x := by unfold riF; rw [h]
theorem riF_m1 {L : List (Int)} {n : Nat} (h : L.length = n) : riF L n = .int .i64 (-4711) := by unfold riF; rw [List.getElem?_eq_none (by omega), ]; simp [h]
theorem riF_m2 {L : List (Int)} {n j : Nat} (h : L.length = n) (hj : n < j) : riF L j = .int .i64 (-4712) := by unfold riF; rw [List.getElem?_eq_none (by omega)]; simp only; rw [if_neg (by omega)]
theorem riFk_step {L : List (Int)} {N k : Nat} {v : Value} (h : riF L k = v) : (vA N (riFk L k)).setIfInBounds k v = vA N (riFk L (k + 1)) := by
  rw [vA_set]
  refine vA_congr fun j _ => ?_
  unfold riFk
  by_cases e : j = k
  · subst e
    rw [if_pos rfl, if_pos (by omega), h]
  · rw [if_neg e]
    by_cases h1 : j < k
    · rw [if_pos h1, if_pos (by omega)]
    · rw [if_neg h1, if_neg (by omega)]
set_option maxRecDepth 100000 in
set_option maxHeartbeats 8000000 in
theorem rints_any (L : List (Int)) (p : Option Addr) (n m c : Nat) (w : World) (hn : L.length = n) (hm : n + 2 = m) (hL : LI w p L) (hO : n * 8 ≤ 140737488351232) :
    Calls Tryz.prog 28 #[.slice p n c] w fun e w' => e = .returned (.slice (some ⟨w.heap.size, 0, none⟩) n m) ∧ w' = w.alloc (.cells (vA m (riF L)) 3) := by
  have hmk := make_rints m (by omega)
  have HN : Hid (L.length = n ∧ LI w p L ∧ n + 2 = m) := ⟨hn, hL, hm⟩
  obtain ⟨B, hB⟩ : ∃ B, w.heap.size = B := ⟨_, rfl⟩
  have HB := hideL hB
  have HST : Hid (∀ (k : Nat) (v : Value), riF L k = v → (w.alloc (.cells (vA m (riFk L k)) 3)).setCell ⟨B, k, none⟩ v = w.alloc (.cells (vA m (riFk L (k + 1))) 3)) := fun k v hv => by rw [← hB, set_alloc, riFk_step hv]
  have HCL : Hid (∀ (k j : Nat), j < m → (w.alloc (.cells (vA m (riFk L k)) 3)).cell? ⟨B, j, none⟩ = some (riFk L k j) ∧ (w.alloc (.cells (vA m (riFk L k)) 3)).frozen? ⟨B, j, none⟩ = false) := fun k j hj => by
    have h := cellsZ (alloc_getZ w (.cells (vA m (riFk L k)) 3 (0, 0)))
    rw [hB] at h
    exact ⟨(h.1 j).trans (vA_get hj), h.2 j⟩
  have e2 : (n : Int) + 2 = (m : Int) := by omega
  have e3 : IntKind.i64.wrap (m : Int) = (m : Int) := by rw [IntKind.wrap_i64]; omega
  have y0 : (0 : Int) ≤ (n : Int) := by omega
  have y1 : (n : Int) ≤ (m : Int) := by omega
  have y2 : n < m := by omega
  obtain ⟨n1, hn1⟩ : ∃ n1, n + 1 = n1 := ⟨_, rfl⟩
  have e4 : (n : Int) + 1 = (n1 : Int) := by omega
  have e5 : IntKind.i64.wrap (n1 : Int) = (n1 : Int) := by rw [IntKind.wrap_i64]; omega
  have y3 : (0 : Int) ≤ (n1 : Int) := by omega
  have y4 : (n1 : Int) < (m : Int) := by omega
  have y5 : (n : Int) < (m : Int) := by omega
  have HN1 : Hid (n + 1 = n1 ∧ n1 + 1 = m) := ⟨hn1, by omega⟩
  clear hn hm hL hB hn1
  go_enter Tryz.func28, Tryz.ntmps28
  go_wp2_with fail
  rw [HB.out]
  go_loopw [4] (fun vk wr => ∃ k : Nat, vk = .int .i64 (k : Int) ∧ k ≤ n ∧ Hid (wr = w.alloc (.cells (vA m (riFk L k)) 3))) (fun vk _ => n - (intOf vk).toNat)
  case atStart => exact ⟨0, rfl, Nat.zero_le _, congrArg (fun a => w.alloc (.cells a 3)) (vA_congr (fun j _ => by unfold riFk; rw [if_neg (by omega)]))⟩
  case round =>
    obtain ⟨k, rfl, hk, HW⟩ := hrel
    by_cases hlt : k < n
    · obtain ⟨x, hx⟩ : ∃ x, L[k]? = some x := ⟨_, List.getElem?_eq_getElem (by have := HN.out.1; omega)⟩
      obtain ⟨g, o, rfl, c0⟩ := HN.out.2.1 k x hx
      have c1 : wr.cell? ⟨g, o + k, none⟩ = some (.int .i64 x) := by rw [HW.out]; exact keepC (belAZ (Below.refl _ _) _) c0
      obtain ⟨q0, q1⟩ := HCL.out k k (by omega)
      rw [← HW.out] at q0 q1
      have j0 : (0 : Int) ≤ (k : Int) := by omega
      have j1 : (k : Int) < (n : Int) := by omega
      have j2 : (k : Int) < (m : Int) := by omega
      have HX : Hid (wr.setCell ⟨B, k, none⟩ (.int .i64 x) = w.alloc (.cells (vA m (riFk L (k + 1))) 3)) := by
        show _ = _
        rw [HW.out]
        exact HST.out k _ (riF_at hx)
      clear hx c0
      go_wp2_with fail
      go_roundw
      case rel => exact ⟨k + 1, by go_num, by omega, HX⟩
      case measure => simp [intOf]; omega
    · obtain rfl : k = n := by omega
      have j1 : ¬ (k : Int) < (k : Int) := by omega
      obtain ⟨q0, q1⟩ := HCL.out k k (by omega)
      rw [← HW.out] at q0 q1
      obtain ⟨W2, hW2⟩ : ∃ W2, wr.setCell ⟨B, k, none⟩ (.int .i64 (-4711)) = W2 := ⟨_, rfl⟩
      have HW2 : Hid (W2 = w.alloc (.cells (vA m (riFk L (k + 1))) 3)) := by
        show _ = _
        rw [← hW2, HW.out]
        exact HST.out k _ (riF_m1 HN.out.1)
      have HE2 := hideL hW2
      clear hW2
      go_upto_region 7 with fail
      rw [HE2.out]
      clear q0 q1
      obtain ⟨q0, q1⟩ := HCL.out (k + 1) n1 (by omega)
      rw [← HW2.out] at q0 q1
      have HX : Hid (W2.setCell ⟨B, n1, none⟩ (.int .i64 (-4712)) = w.alloc (.cells (vA m (riF L)) 3)) := by
        show _ = _
        rw [HW2.out, HN1.out.1]
        refine (HST.out n1 _ (riF_m2 HN.out.1 (by have := HN1.out.1; omega))).trans ?_
        exact congrArg (fun a => w.alloc (.cells a 3)) (vA_congr (fun j hj => by unfold riFk; rw [if_pos (by have := HN1.out.2; omega)]))
      go_wp2_with fail
      go_ret
      exact ⟨by rw [HB.out]; rfl, HX.out⟩
theorem info_rtexts : (Tryz.prog.info? 9).map (fun i => (i.zero, i.size, i.bytes)) = some (some (.string ⟨#[]⟩), 1, 16) := by kernel_rfl
theorem make_rtexts (K : Nat) (hK : K * 16 ≤ 281474976710656) (w : World) : (Instr.makeSlice 44 (.int .i64 (K : Int)) (.int .i64 (K : Int))).run Tryz.prog w = .ok (.slice (some ⟨w.heap.size, 0, none⟩) K K) (w.alloc (.cells (vA K (fun _ => (.string ⟨#[]⟩))) 9)) := by
  obtain ⟨i0, hi, hz0, hz1, hz2⟩ := info_parts info_rtexts
  have h := run_make (P := Tryz.prog) w 44 9 i0 _ Tryz.underlying44 hi hz0 .i64 .i64 (K : Int) (K : Int) (by omega) (Int.le_refl _) (by rw [hz2]; omega) (by omega)
  rw [Int.toNat_natCast, hz1, made_vA, Nat.mul_one] at h
  rw [h, vA_congr (g := fun _ => (.string ⟨#[]⟩)) (fun j _ => by simp [Value.cells, Nat.mod_one])]
def rsF (L : List (List UInt8)) (j : Nat) : Value := match L[j]? with
  | some x => .string ⟨x.toArray⟩
  | none => if j = L.length then beh1 else beh2
def rsFk (L : List (List UInt8)) (k j : Nat) : Value := if j < k then rsF L j else (.string ⟨#[]⟩)
theorem rsF_at {L : List (List UInt8)} {j : Nat} {x : List UInt8} (h : L[j]? = some x) : rsF L j = .string ⟨x.toArray⟩ := by unfold rsF; rw [h]
theorem rsF_m1 {L : List (List UInt8)} {n : Nat} (h : L.length = n) : rsF L n = beh1 := by unfold rsF; rw [List.getElem?_eq_none (by omega), ]; simp [h]
theorem rsF_m2 {L : List (List UInt8)} {n j : Nat} (h : L.length = n) (hj : n < j) : rsF L j = beh2 := by unfold rsF; rw [List.getElem?_eq_none (by omega)]; simp only; rw [if_neg (by omega)]
theorem rsFk_step {L : List (List UInt8)} {N k : Nat} {v : Value} (h : rsF L k = v) : (vA N (rsFk L k)).setIfInBounds k v = vA N (rsFk L (k + 1)) := by
  rw [vA_set]
  refine vA_congr fun j _ => ?_
  unfold rsFk
  by_cases e : j = k
  · subst e
    rw [if_pos rfl, if_pos (by omega), h]
  · rw [if_neg e]
    by_cases h1 : j < k
    · rw [if_pos h1, if_pos (by omega)]
    · rw [if_neg h1, if_neg (by omega)]
set_option maxRecDepth 100000 in
set_option maxHeartbeats 8000000 in
theorem rtexts_any (L : List (List UInt8)) (p : Option Addr) (n m c : Nat) (w : World) (hn : L.length = n) (hm : n + 2 = m) (hL : LS w p L) (hO : n * 16 ≤ 140737488351232) :
    Calls Tryz.prog 29 #[.slice p n c] w fun e w' => e = .returned (.slice (some ⟨w.heap.size, 0, none⟩) n m) ∧ w' = w.alloc (.cells (vA m (rsF L)) 9) := by
  have hmk := make_rtexts m (by omega)
  have HN : Hid (L.length = n ∧ LS w p L ∧ n + 2 = m) := ⟨hn, hL, hm⟩
  obtain ⟨B, hB⟩ : ∃ B, w.heap.size = B := ⟨_, rfl⟩
  have HB := hideL hB
  have HST : Hid (∀ (k : Nat) (v : Value), rsF L k = v → (w.alloc (.cells (vA m (rsFk L k)) 9)).setCell ⟨B, k, none⟩ v = w.alloc (.cells (vA m (rsFk L (k + 1))) 9)) := fun k v hv => by rw [← hB, set_alloc, rsFk_step hv]
  have HCL : Hid (∀ (k j : Nat), j < m → (w.alloc (.cells (vA m (rsFk L k)) 9)).cell? ⟨B, j, none⟩ = some (rsFk L k j) ∧ (w.alloc (.cells (vA m (rsFk L k)) 9)).frozen? ⟨B, j, none⟩ = false) := fun k j hj => by
    have h := cellsZ (alloc_getZ w (.cells (vA m (rsFk L k)) 9 (0, 0)))
    rw [hB] at h
    exact ⟨(h.1 j).trans (vA_get hj), h.2 j⟩
  have e2 : (n : Int) + 2 = (m : Int) := by omega
  have e3 : IntKind.i64.wrap (m : Int) = (m : Int) := by rw [IntKind.wrap_i64]; omega
  have y0 : (0 : Int) ≤ (n : Int) := by omega
  have y1 : (n : Int) ≤ (m : Int) := by omega
  have y2 : n < m := by omega
  obtain ⟨n1, hn1⟩ : ∃ n1, n + 1 = n1 := ⟨_, rfl⟩
  have e4 : (n : Int) + 1 = (n1 : Int) := by omega
  have e5 : IntKind.i64.wrap (n1 : Int) = (n1 : Int) := by rw [IntKind.wrap_i64]; omega
  have y3 : (0 : Int) ≤ (n1 : Int) := by omega
  have y4 : (n1 : Int) < (m : Int) := by omega
  have y5 : (n : Int) < (m : Int) := by omega
  have HN1 : Hid (n + 1 = n1 ∧ n1 + 1 = m) := ⟨hn1, by omega⟩
  clear hn hm hL hB hn1
  go_enter Tryz.func29, Tryz.ntmps29
  go_wp2_with fail
  rw [HB.out]
  go_loopw [4] (fun vk wr => ∃ k : Nat, vk = .int .i64 (k : Int) ∧ k ≤ n ∧ Hid (wr = w.alloc (.cells (vA m (rsFk L k)) 9))) (fun vk _ => n - (intOf vk).toNat)
  case atStart => exact ⟨0, rfl, Nat.zero_le _, congrArg (fun a => w.alloc (.cells a 9)) (vA_congr (fun j _ => by unfold rsFk; rw [if_neg (by omega)]))⟩
  case round =>
    obtain ⟨k, rfl, hk, HW⟩ := hrel
    by_cases hlt : k < n
    · obtain ⟨x, hx⟩ : ∃ x, L[k]? = some x := ⟨_, List.getElem?_eq_getElem (by have := HN.out.1; omega)⟩
      obtain ⟨g, o, rfl, c0⟩ := HN.out.2.1 k x hx
      have c1 : wr.cell? ⟨g, o + k, none⟩ = some (.string ⟨x.toArray⟩) := by rw [HW.out]; exact keepC (belAZ (Below.refl _ _) _) c0
      obtain ⟨q0, q1⟩ := HCL.out k k (by omega)
      rw [← HW.out] at q0 q1
      have j0 : (0 : Int) ≤ (k : Int) := by omega
      have j1 : (k : Int) < (n : Int) := by omega
      have j2 : (k : Int) < (m : Int) := by omega
      have HX : Hid (wr.setCell ⟨B, k, none⟩ (.string ⟨x.toArray⟩) = w.alloc (.cells (vA m (rsFk L (k + 1))) 9)) := by
        show _ = _
        rw [HW.out]
        exact HST.out k _ (rsF_at hx)
      clear hx c0
      go_wp2_with fail
      go_roundw
      case rel => exact ⟨k + 1, by go_num, by omega, HX⟩
      case measure => simp [intOf]; omega
    · obtain rfl : k = n := by omega
      have j1 : ¬ (k : Int) < (k : Int) := by omega
      obtain ⟨q0, q1⟩ := HCL.out k k (by omega)
      rw [← HW.out] at q0 q1
      obtain ⟨W2, hW2⟩ : ∃ W2, wr.setCell ⟨B, k, none⟩ (.string ⟨#[98, 101, 104, 105, 110, 100, 32, 116, 104, 101, 32, 101, 110, 100]⟩) = W2 := ⟨_, rfl⟩
      have HW2 : Hid (W2 = w.alloc (.cells (vA m (rsFk L (k + 1))) 9)) := by
        show _ = _
        rw [← hW2, HW.out]
        exact HST.out k _ (rsF_m1 HN.out.1)
      have HE2 := hideL hW2
      clear hW2
      go_upto_region 7 with fail
      rw [HE2.out]
      clear q0 q1
      obtain ⟨q0, q1⟩ := HCL.out (k + 1) n1 (by omega)
      rw [← HW2.out] at q0 q1
      have HX : Hid (W2.setCell ⟨B, n1, none⟩ (.string ⟨#[98, 101, 104, 105, 110, 100, 32, 116, 104, 101, 32, 101, 110, 100, 50]⟩) = w.alloc (.cells (vA m (rsF L)) 9)) := by
        show _ = _
        rw [HW2.out, HN1.out.1]
        refine (HST.out n1 _ (rsF_m2 HN.out.1 (by have := HN1.out.1; omega))).trans ?_
        exact congrArg (fun a => w.alloc (.cells a 9)) (vA_congr (fun j hj => by unfold rsFk; rw [if_pos (by have := HN1.out.2; omega)]))
      go_wp2_with fail
      go_ret
      exact ⟨by rw [HB.out]; rfl, HX.out⟩
end Go.Proofs.YthonobihcahfiaaGreatDoor.Nt
namespace Go.Proofs.YthonobihcahfiaaGreatDoor.Nt
open Go.RowKit Go.Shelf
set_option maxRecDepth 100000 in
set_option maxHeartbeats 8000000 in
theorem sints_any (L : List (Int)) (p1 p2 : Option Addr) (n c1 c2 : Nat) (w : World) (hn : L.length = n) (h1 : LI w p1 L) (h2 : LI w p2 L) (hO : n * 8 ≤ 140737488351232) :
    Calls Tryz.prog 33 #[.slice p1 n c1, .slice p2 n c2] w fun e w' => e = .returned (.bool true) ∧ Below w.heap.size w w' := by
  have HN : Hid (L.length = n ∧ (∀ U, Below w.heap.size w U → LI U p1 L) ∧ ∀ U, Below w.heap.size w U → LI U p2 L) := ⟨hn, fun U hU => h1.below hU, fun U hU => h2.below hU⟩
  clear hn h1 h2
  go_enter Tryz.func33, Tryz.ntmps33
  go_wp2_with fail
  go_loopw [5] (fun vk wr => ∃ k : Nat, vk = .int .i64 (k : Int) ∧ k ≤ n ∧ Hid (Below w.heap.size w wr)) (fun vk _ => n - (intOf vk).toNat)
  case atStart => exact ⟨0, rfl, Nat.zero_le _, Below.refl _ _⟩
  case round =>
    obtain ⟨k, rfl, hk, HB⟩ := hrel
    by_cases hlt : k < n
    · obtain ⟨x, hx⟩ : ∃ x, L[k]? = some x := ⟨_, List.getElem?_eq_getElem (by have := HN.out.1; omega)⟩
      obtain ⟨g1, o1, rfl, a0⟩ := HN.out.2.1 wr HB.out k x hx
      obtain ⟨g2, o2, rfl, b0⟩ := HN.out.2.2 wr HB.out k x hx
      have j0 : (0 : Int) ≤ (k : Int) := by omega
      have j1 : (k : Int) < (n : Int) := by omega
      clear hx
      go_wp2_with fail
      go_quiet (fail)
      go_wp2_with fail
      go_roundw
      case rel => exact ⟨k + 1, by go_num, by omega, bel_drewZ nq HB.out⟩
      case measure => simp [intOf]; omega
    · obtain rfl : k = n := by omega
      have j1 : ¬ (k : Int) < (k : Int) := by omega
      go_wp2_with fail
      go_ret
      exact ⟨rfl, HB.out⟩
set_option maxRecDepth 100000 in
set_option maxHeartbeats 8000000 in
theorem stexts_any (L : List (List UInt8)) (p1 p2 : Option Addr) (n c1 c2 : Nat) (w : World) (hn : L.length = n) (h1 : LS w p1 L) (h2 : LS w p2 L) (hO : n * 8 ≤ 140737488351232) :
    Calls Tryz.prog 34 #[.slice p1 n c1, .slice p2 n c2] w fun e w' => e = .returned (.bool true) ∧ Below w.heap.size w w' := by
  have HN : Hid (L.length = n ∧ (∀ U, Below w.heap.size w U → LS U p1 L) ∧ ∀ U, Below w.heap.size w U → LS U p2 L) := ⟨hn, fun U hU => h1.below hU, fun U hU => h2.below hU⟩
  clear hn h1 h2
  go_enter Tryz.func34, Tryz.ntmps34
  go_wp2_with fail
  go_loopw [5] (fun vk wr => ∃ k : Nat, vk = .int .i64 (k : Int) ∧ k ≤ n ∧ Hid (Below w.heap.size w wr)) (fun vk _ => n - (intOf vk).toNat)
  case atStart => exact ⟨0, rfl, Nat.zero_le _, Below.refl _ _⟩
  case round =>
    obtain ⟨k, rfl, hk, HB⟩ := hrel
    by_cases hlt : k < n
    · obtain ⟨x, hx⟩ : ∃ x, L[k]? = some x := ⟨_, List.getElem?_eq_getElem (by have := HN.out.1; omega)⟩
      obtain ⟨g1, o1, rfl, a0⟩ := HN.out.2.1 wr HB.out k x hx
      obtain ⟨g2, o2, rfl, b0⟩ := HN.out.2.2 wr HB.out k x hx
      have j0 : (0 : Int) ≤ (k : Int) := by omega
      have j1 : (k : Int) < (n : Int) := by omega
      clear hx
      go_wp2_with fail
      go_quiet (fail)
      go_wp2_with fail
      go_roundw
      case rel => exact ⟨k + 1, by go_num, by omega, bel_drewZ nq HB.out⟩
      case measure => simp [intOf]; omega
    · obtain rfl : k = n := by omega
      have j1 : ¬ (k : Int) < (k : Int) := by omega
      go_wp2_with fail
      go_ret
      exact ⟨rfl, HB.out⟩
set_option maxRecDepth 100000 in
set_option maxHeartbeats 8000000 in
theorem mints_any (g n n1 m : Nat) (w : World) (hm : n + 2 = m) (hn1 : n + 1 = n1) (c1 : w.cell? ⟨g, n, none⟩ = some (.int .i64 (-4711))) (c2 : w.cell? ⟨g, n1, none⟩ = some (.int .i64 (-4712))) (hO : n * 8 ≤ 140737488351232) :
    Calls Tryz.prog 21 #[.slice (some ⟨g, 0, none⟩) n m] w fun e w' => e = .returned (.bool true) ∧ w' = w := by
  have e2 : (n : Int) + 2 = (m : Int) := by omega
  have e3 : IntKind.i64.wrap (m : Int) = (m : Int) := by rw [IntKind.wrap_i64]; omega
  have e4 : (n : Int) + 1 = (n1 : Int) := by omega
  have e5 : IntKind.i64.wrap (n1 : Int) = (n1 : Int) := by rw [IntKind.wrap_i64]; omega
  have y0 : (0 : Int) ≤ (n : Int) := by omega
  have y1 : (0 : Int) ≤ (m : Int) := by omega
  have y3 : (0 : Int) ≤ (n1 : Int) := by omega
  have y4 : (n1 : Int) < (m : Int) := by omega
  have y5 : (n : Int) < (m : Int) := by omega
  clear hm hn1
  go_enter Tryz.func21, Tryz.ntmps21
  go_wp2_with fail
  go_ret
  exact ⟨rfl, by first | rfl | trivial⟩
set_option maxRecDepth 100000 in
set_option maxHeartbeats 8000000 in
theorem mtexts_any (g n n1 m : Nat) (w : World) (hm : n + 2 = m) (hn1 : n + 1 = n1) (c1 : w.cell? ⟨g, n, none⟩ = some (.string ⟨#[98, 101, 104, 105, 110, 100, 32, 116, 104, 101, 32, 101, 110, 100]⟩)) (c2 : w.cell? ⟨g, n1, none⟩ = some (.string ⟨#[98, 101, 104, 105, 110, 100, 32, 116, 104, 101, 32, 101, 110, 100, 50]⟩)) (hO : n * 8 ≤ 140737488351232) :
    Calls Tryz.prog 22 #[.slice (some ⟨g, 0, none⟩) n m] w fun e w' => e = .returned (.bool true) ∧ w' = w := by
  have e2 : (n : Int) + 2 = (m : Int) := by omega
  have e3 : IntKind.i64.wrap (m : Int) = (m : Int) := by rw [IntKind.wrap_i64]; omega
  have e4 : (n : Int) + 1 = (n1 : Int) := by omega
  have e5 : IntKind.i64.wrap (n1 : Int) = (n1 : Int) := by rw [IntKind.wrap_i64]; omega
  have y0 : (0 : Int) ≤ (n : Int) := by omega
  have y1 : (0 : Int) ≤ (m : Int) := by omega
  have y3 : (0 : Int) ≤ (n1 : Int) := by omega
  have y4 : (n1 : Int) < (m : Int) := by omega
  have y5 : (n : Int) < (m : Int) := by omega
  clear hm hn1
  go_enter Tryz.func22, Tryz.ntmps22
  go_wp2_with fail
  go_ret
  exact ⟨rfl, by first | rfl | trivial⟩
end Go.Proofs.YthonobihcahfiaaGreatDoor.Nt
