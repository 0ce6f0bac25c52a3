import Derived.Test.YtcejejiomhhpgaaGreatDoorXBK
import Derived.Defers
import Derived.Recover
import Derived.Laws.Pointers
import Derived.Shelf.Spec.SlicesGrow
import Derived.Ground.Names8Prog
import Derived.Ground.NamesProg
import Derived.Test.YtcejejiomhhpgaaGreatDoorProg
import Derived.Laws.AppendOwnNone
namespace Go.Proofs.YtcejejiomhhpgaaGreatDoor
open Go.RowKit Go.Shelf
set_option maxRecDepth 100000 in
theorem eq_over (w : World) : (binOp BinOp.eql 20 (.iface 81 (.agg #[])) (.iface 81 (.agg #[]))).run Tryz.prog w = .ok (.bool true) w := by
  first | rfl | kernel_rfl | simp [go_sem]
set_option maxRecDepth 100000 in
theorem caught (b : Nat) (x : Int) (older : List PanicEntry) (w : World) (hc : w.cell? ⟨b, 0, none⟩ = some (.int .i64 x)) (hz : w.frozen? ⟨b, 0, none⟩ = false) :
    CallsD Tryz.prog 48 #[.pointer (some ⟨b, 0, none⟩)] (.panicking ({ v := .iface 81 (.agg #[]), recovered := false } :: older)) w fun e u' w' =>
      e = .returned (.tuple #[]) ∧ u' = .panicking ({ v := .iface 81 (.agg #[]), recovered := true } :: older) ∧ w' = w.setCell ⟨b, 0, none⟩ (.int .i64 3) := by
  refine callsD_of_wpS Tryz.func48 rfl fun c₀ cs hu => ?_
  apply wpS_seq
  apply wpS_region
  simp [wpOpsS, go_sem, recoverD, hu, Tryz.ntmps48, Exit.thenS]
  refine wpS_of_wp ?_
  have hE := eq_over
  go_wp2_with fail
  simp [bodyPostS, results, Tryz.results48]
set_option maxRecDepth 100000 in
theorem idle (b : Nat) (w : World) :
    CallsD Tryz.prog 48 #[.pointer (some ⟨b, 0, none⟩)] .returning w fun e u' w' => e = .returned (.tuple #[]) ∧ u' = .returning ∧ w' = w := by
  refine callsD_of_wpS Tryz.func48 rfl fun c₀ cs hu => ?_
  apply wpS_seq
  apply wpS_region
  simp [wpOpsS, go_sem, recoverD, hu, Tryz.ntmps48, Exit.thenS]
  refine wpS_of_wp ?_
  go_wp2_with fail
  cases c₀
  simp_all [bodyPostS, results, Tryz.results48]
set_option maxRecDepth 100000 in
set_option maxHeartbeats 4000000 in
theorem giveJ (b : Int) (Ts : List (List UInt8 × List (List UInt8))) (ok : Bool) (c1 c2 : Nat) (w : World) (HO : ∀ W, Below w.heap.size w W → Calls Tryz.prog 32 #[.pointer (some ⟨c1, 0, none⟩), .pointer (some ⟨c2, 0, none⟩)] W fun e w' => Below W.heap.size W w' ∧ ((ok = true ∧ ∃ V, e = .returned (.agg #[.int .i64 b, V, .bool false]) ∧ SPL w' W.heap.size V Ts) ∨ (ok = false ∧ e = .panicked [{ v := .iface 81 (.agg #[]), recovered := false }]))) :
    Calls Tryz.prog 31 #[.func (.func 32) #[] #[.pointer (some ⟨c1, 0, none⟩), .pointer (some ⟨c2, 0, none⟩)]] w fun e w' => ∃ V, e = .returned (.tuple #[.agg #[.int .i64 (if ok = true then b else 0), V, .bool false], .int .i64 (if ok = true then 0 else 3)]) ∧ SPL w' w.heap.size V (if ok = true then Ts else []) ∧ Below w.heap.size w w' := by
  have hmf : ∀ (fn : Fn) (first cap : Array Value) (w : World), (Instr.makeFunc fn first cap).run Tryz.prog w = .ok (.func fn first cap) w := fun _ _ _ _ => rfl
  obtain ⟨w2, hw2⟩ : ∃ w2, (w.alloc (.cells #[.int .i64 0, .slice none 0 0, .bool false] 26 (0, 0))).alloc (.cells #[.int .i64 0] 27 (0, 0)) = w2 := ⟨_, rfl⟩
  have hA : w2.heap[w.heap.size]? = some (.cells #[.int .i64 0, .slice none 0 0, .bool false] 26 (0, 0)) := by rw [← hw2]; exact alw_0 _ _ _
  have hE : w2.heap[w.heap.size + 1]? = some (.cells #[.int .i64 0] 27 (0, 0)) := by rw [← hw2]; exact alw_1 _ _ _
  have hB2 : Below w.heap.size w w2 := by rw [← hw2]; exact belA (belA (Below.refl _ _) _) _
  have HO2 := HO w2 hB2
  have HA : Hid (w2.heap[w.heap.size]? = some (.cells #[.int .i64 0, .slice none 0 0, .bool false] 26 (0, 0)) ∧ w2.heap[w.heap.size + 1]? = some (.cells #[.int .i64 0] 27 (0, 0)) ∧ Below w.heap.size w w2) := ⟨hA, hE, hB2⟩
  clear hA hE hB2 HO
  cases ok with
  | true =>
    have HO3 : Hid (Calls Tryz.prog 32 #[.pointer (some ⟨c1, 0, none⟩), .pointer (some ⟨c2, 0, none⟩)] w2 fun e w' => ∃ V, e = .returned (.agg #[.int .i64 b, V, .bool false]) ∧ SPL w' w2.heap.size V Ts ∧ Below w2.heap.size w2 w') := by
      refine HO2.mono ?_
      rintro e w' ⟨h1, ⟨-, V, rfl, h2⟩ | ⟨h2, -⟩⟩
      · exact ⟨V, rfl, h2, h1⟩
      · cases h2
    clear HO2
    simp only [if_true]
    go_enter_defers Tryz.func31, Tryz.ntmps31
    go_wp2_with fail
    refine HO3.out.mono ?_
    rintro e W1 ⟨V, rfl, o8, hb1⟩
    obtain ⟨p8, c8, rfl⟩ := o8.shape
    clear HO3 hw2
    obtain ⟨hcA, hfA⟩ := cells_block (keepblk3 hb1 HA.out.1)
    obtain ⟨hcE, hfE⟩ := cells_block (keepblk3 hb1 HA.out.2.1)
    go_wp2_with fail
    obtain ⟨X, hX⟩ : ∃ X, (((W1.setCell ⟨w.heap.size, 0, none⟩ (.int .i64 b)).setCell ⟨w.heap.size, 1, none⟩ (.slice p8 Ts.length c8)).setCell ⟨w.heap.size, 2, none⟩ (.bool false)).setCell ⟨w.heap.size + 1, 0, none⟩ (.int .i64 0) = X := ⟨_, rfl⟩
    have hXA : X.heap[w.heap.size]? = some (.cells #[.int .i64 b, .slice p8 Ts.length c8, .bool false] 26 (0, 0)) := by
      rw [← hX, heap_setCell_other _ ⟨w.heap.size + 1, 0, none⟩ _ _ (by simp)]
      exact put3_get _ _ _ (keepblk3 hb1 HA.out.1)
    have hXE : X.heap[w.heap.size + 1]? = some (.cells #[.int .i64 0] 27 (0, 0)) := by
      have h0 : (((W1.setCell ⟨w.heap.size, 0, none⟩ (.int .i64 b)).setCell ⟨w.heap.size, 1, none⟩ (.slice p8 Ts.length c8)).setCell ⟨w.heap.size, 2, none⟩ (.bool false)).heap[w.heap.size + 1]? = some (.cells #[.int .i64 0] 27 (0, 0)) := by
        rw [far3h _ _ _ (by omega)]
        exact keepblk3 hb1 HA.out.2.1
      have h1 := set_get (j := 0) (.int .i64 0) h0
      rw [← hX, h1]
      simp
    have hXB : Below w.heap.size w X := by
      rw [← hX]
      exact ((((bel0 HA.out.2.2 hb1).setCell (Nat.le_refl _) _).setCell (Nat.le_refl _) _).setCell (Nat.le_refl _) _).setCell (Nat.le_succ _) _
    have hXO : SPL X w.heap.size (.slice p8 Ts.length c8) Ts := by
      have l2 := lt_of_get3 HA.out.2.1
      rw [← hX]
      exact ((o8.kept (gr3 _ _ _ _ _) (by omega)).kept (set_grS _ (w.heap.size + 1) 0 _) l2).base (by omega)
    have HXX : Hid (SPL X w.heap.size (.slice p8 Ts.length c8) Ts ∧ Below w.heap.size w X) := ⟨hXO, hXB⟩
    rw [hX]
    clear o8 hcA hfA hcE hfE hX hXO hXB
    refine leaves_cons (f := 48) (args := #[.pointer (some ⟨w.heap.size + 1, 0, none⟩)]) (by simp) (by simp [go_sem]) ?_
    refine (idle (w.heap.size + 1) _).mono ?_
    rintro e u' w'' ⟨rfl, rfl, rfl⟩
    have cA := (cells_block hXA).1
    have cE := (cells_block hXE).1
    simp [Leaves, settle, results, Tryz.results31, go_sem, cA, cE]
    exact HXX.out
  | false =>
    have HO3 : Hid (Calls Tryz.prog 32 #[.pointer (some ⟨c1, 0, none⟩), .pointer (some ⟨c2, 0, none⟩)] w2 fun e w' => e = .panicked [{ v := .iface 81 (.agg #[]), recovered := false }] ∧ Below w2.heap.size w2 w') := by
      refine HO2.mono ?_
      rintro e w' ⟨h1, ⟨h2, -⟩ | ⟨-, rfl⟩⟩
      · cases h2
      · exact ⟨rfl, h1⟩
    clear HO2
    simp only [Bool.false_eq_true, if_false]
    go_enter_defers Tryz.func31, Tryz.ntmps31
    go_wp2_with fail
    refine HO3.out.mono ?_
    rintro e W1 ⟨rfl, hb1⟩
    clear HO3 hw2
    have hEE := keepblk3 hb1 HA.out.2.1
    have hAA := keepblk3 hb1 HA.out.1
    obtain ⟨hcE, hfE⟩ := cells_block hEE
    refine leaves_cons (f := 48) (args := #[.pointer (some ⟨w.heap.size + 1, 0, none⟩)]) (by simp) (by simp [go_sem]) ?_
    refine (caught (w.heap.size + 1) 0 [] W1 (hcE 0) (hfE 0)).mono ?_
    rintro e u' w'' ⟨rfl, rfl, rfl⟩
    have hX0 : (W1.setCell ⟨w.heap.size + 1, 0, none⟩ (.int .i64 3)).heap[w.heap.size + 1]? = some (.cells #[.int .i64 3] 27 (0, 0)) := by
      have h1 := set_get (j := 0) (.int .i64 3) hEE
      rw [h1]
      simp
    have hX1 : (W1.setCell ⟨w.heap.size + 1, 0, none⟩ (.int .i64 3)).heap[w.heap.size]? = some (.cells #[.int .i64 0, .slice none 0 0, .bool false] 26 (0, 0)) := by
      rw [heap_setCell_other _ ⟨w.heap.size + 1, 0, none⟩ _ _ (by simp)]
      exact hAA
    have hXB : Below w.heap.size w (W1.setCell ⟨w.heap.size + 1, 0, none⟩ (.int .i64 3)) := (bel0 HA.out.2.2 hb1).setCell (Nat.le_succ _) _
    have cA := (cells_block hX1).1
    have cE := (cells_block hX0).1
    have HXX : Hid (SPL (W1.setCell ⟨w.heap.size + 1, 0, none⟩ (.int .i64 3)) w.heap.size (.slice none 0 0) [] ∧ Below w.heap.size w (W1.setCell ⟨w.heap.size + 1, 0, none⟩ (.int .i64 3))) := ⟨SPL_nil _ _, hXB⟩
    clear hcE hfE hXB
    simp [Leaves, settle, results, Tryz.results31, go_sem, cA, cE]
    exact HXX.out
end Go.Proofs.YtcejejiomhhpgaaGreatDoor
namespace Go.Proofs
open Go.Shelf
def Tryz.lgr_ren : Go.Shelf.Ren := ⟨fun | 4 => 56 | n => n, fun | 22 => 24 | 25 => 59 | 3 => 3 | 4 => 4 | 9 => 9 | 20 => 20 | 0 => 0 | n => n, fun | n => n⟩
theorem Tryz.lgr : Go.Proofs.Lays8.n4 Tryz.prog Tryz.lgr_ren := {
  mixed := by kernel_rfl
  f4 := ⟨Tryz.f56.name, by decide, Tryz.func56.trans (congrArg some (by kernel_rfl))⟩
  t0 := Tryz.underlying0
  a0 := Tryz.isAgg0
  z0 := Tryz.sizeOf0
  v0 := Tryz.zeroValue0
  t3 := Tryz.underlying3
  a3 := Tryz.isAgg3
  z3 := Tryz.sizeOf3
  v3 := Tryz.zeroValue3
  t4 := Tryz.underlying4
  a4 := Tryz.isAgg4
  z4 := Tryz.sizeOf4
  v4 := Tryz.zeroValue4
  t9 := Tryz.underlying9
  a9 := Tryz.isAgg9
  z9 := Tryz.sizeOf9
  v9 := Tryz.zeroValue9
  t20 := Tryz.underlying20
  a20 := Tryz.isAgg20
  z20 := Tryz.sizeOf20
  v20 := Tryz.zeroValue20
  t22 := Tryz.underlying24
  a22 := Tryz.isAgg24
  z22 := Tryz.sizeOf24
  v22 := Tryz.zeroValue24 }
end Go.Proofs
namespace Go.Proofs.YtcejejiomhhpgaaGreatDoor
open Go.RowKit Go.Shelf
theorem tes_len10 (L : List ZT) : (tes L).length = L.length * 10 := by
  induction L with
  | nil => rfl
  | cons z l ih =>
    have e : tes (z :: l) = z.cells ++ tes l := rfl
    rw [e, List.length_append, ih, List.length_cons]
    have : z.cells.length = 10 := rfl
    omega
theorem tes_one (L : List ZT) : ∀ v ∈ tes L, v.oneCell' = true := fun v hv => by
  obtain ⟨z, _, hz⟩ := List.mem_flatMap.1 hv
  simp only [ZT.cells, List.mem_cons, List.not_mem_nil, or_false] at hz
  rcases hz with rfl | rfl | rfl | rfl | rfl | rfl | rfl | rfl | rfl | rfl <;> rfl
theorem app_belC {w W X : World} {n : Nat} {e : TypeId} {sz : Nat} {v : Value} {xs : List Value} (hB : Below w.heap.size w W) (h : W.ownsRow w.heap.size e sz v n xs) (hg : W.grownBy X v.ownBlock) : Below w.heap.size w X :=
  hB.grown hg hB.size (fun k hk => (h.lt k hk).1)
theorem grow_any (n : Nat) (w : World) (hn : n ≤ 1000000) : Calls Tryz.prog 56 #[.slice none 0 0, .int .i64 (n : Int)] w fun e w' => ∃ v, e = .returned v ∧ w'.ownsRow w.heap.size 59 10 v 0 [] ∧ Below w.heap.size w w' := by
  by_cases h0 : n = 0
  · subst h0
    refine Calls.mono (Any8.slices_Grow_room Tryz.lgr none 0 0 0 w (Nat.le_refl _) (by omega) (by omega) (by omega)) ?_
    rintro e w' ⟨rfl, rfl⟩
    exact ⟨_, rfl, World.ownsRow_nil _ _ _ _, Below.refl _ _⟩
  · obtain ⟨i1, hi1, hy0, hy1, hy2⟩ := info_parts info_term
    have hb := hy2
    refine Calls.mono (Any8.slices_Grow_grow Tryz.lgr i1 _ hi1 hy0 (by rw [hy1]; decide) none 0 0 n [] w (Nat.le_refl _) (by omega) (by rw [hy2]; omega) (by omega) (by simp) (fun _ => rfl) (fun a h => by cases h)) ?_
    rintro e w' ⟨rfl, rfl⟩
    have hG := grownCap_ge w (0 + n) 0 59
    refine ⟨_, rfl, ?_, (belA (Below.refl _ _).drew _)⟩
    have hm : grownCap w (0 + n) 0 59 ≤ maxLen := grownCap_le_maxLen w (0 + n) 0 59 (by unfold maxLen; omega)
    refine World.ownsRow_made (e := 59) (base := w.heap.size) (size := 10) w.drew _ _ (Nat.le_refl _) hm ?_
    obtain ⟨G, hGG⟩ : ∃ G, grownCap w (0 + n) 0 59 = G := ⟨_, rfl⟩
    rw [hGG] at hG hm
    have hzc : (Value.cells (.agg #[.int .i64 0, .int .u64 0, .int .u64 0, .int .u64 0, .int .u64 0, .int .u64 0, .int .u64 0, .int .u64 0, .int .u64 0, .slice none 0 0])).size = 10 := rfl
    show ((#[] : Array Value) ++ Builtin.zeroCells (Value.cells (.agg #[.int .i64 0, .int .u64 0, .int .u64 0, .int .u64 0, .int .u64 0, .int .u64 0, .int .u64 0, .int .u64 0, .int .u64 0, .slice none 0 0])) (0 + n - 0) ++ Builtin.zeroCells (Value.cells (.agg #[.int .i64 0, .int .u64 0, .int .u64 0, .int .u64 0, .int .u64 0, .int .u64 0, .int .u64 0, .int .u64 0, .int .u64 0, .slice none 0 0])) (grownCap w (0 + n) 0 59 - (0 + n))).size = grownCap w (0 + n) 0 59 * 10
    rw [hGG, Array.size_append, Array.size_append, size_zeroCells, size_zeroCells, hzc]
    show 0 + (0 + n - 0) * 10 + (G - (0 + n)) * 10 = G * 10
    omega
set_option maxRecDepth 100000 in
set_option maxHeartbeats 4000000 in
theorem concat_any (Z1 Z2 : List ZT) (n1 n2 g B1 B2 : Nat) (V1 V2 : Value) (w : World) (hn1 : Z1.length = n1) (hn2 : Z2.length = n2) (hN1 : n1 ≤ 1000) (hN2 : n2 ≤ 1000) (hg : w.heap[g]? = some (.cells #[V1, V2] 24 (0, 0))) (h1 : w.ownsRow B1 59 10 V1 n1 (tes Z1)) (h2 : w.ownsRow B2 59 10 V2 n2 (tes Z2)) :
    Calls Tryz.prog 35 #[.slice (some ⟨g, 0, none⟩) 2 2] w fun e w' => ∃ v, e = .returned v ∧ w'.ownsRow w.heap.size 59 10 v (n1 + n2) (tes (Z1 ++ Z2)) ∧ Below w.heap.size w w' := by
  obtain ⟨i1, hi1, hy0, hy1, hy2⟩ := info_parts info_term
  obtain ⟨p1, c1, hV1⟩ := shapeQ1 h1
  obtain ⟨p2, c2, hV2⟩ := shapeQ1 h2
  have HN : Hid (Z1.length = n1 ∧ Z2.length = n2) := ⟨hn1, hn2⟩
  have HV1 : Hid (w.ownsRow B1 59 10 V1 n1 (tes Z1)) := h1
  have HV2 : Hid (w.ownsRow B2 59 10 V2 n2 (tes Z2)) := h2
  have HC : Hid (∀ W, Below w.heap.size w W → W.cell? ⟨g, 0, none⟩ = some V1 ∧ W.cell? ⟨g, 1, none⟩ = some V2) := fun W hW => ⟨(cells_block (keepblk3 hW hg)).1 0, (cells_block (keepblk3 hW hg)).1 1⟩
  have HG : Hid (∀ W, Calls Tryz.prog 56 #[.slice none 0 0, .int .i64 ((n1 : Int) + (n2 : Int))] W fun e w' => ∃ v, e = .returned v ∧ w'.ownsRow W.heap.size 59 10 v 0 [] ∧ Below W.heap.size W w') := fun W => by
    have h := grow_any (n1 + n2) W (by omega)
    rw [show ((n1 + n2 : Nat) : Int) = (n1 : Int) + (n2 : Int) by omega] at h
    exact h
  clear hg h1 h2 hn1 hn2
  have f1 : ¬ ((n1 : Int) < 0) := by omega
  have f2 : ¬ ((n1 : Int) + (n2 : Int) < 0) := by omega
  go_enter Tryz.func35, Tryz.ntmps35
  go_wp2_with fail
  go_loopw [3, 11] (fun v3 v11 wr => ∃ k : Nat, v3 = .int .i64 (match k with | 0 => 0 | 1 => (n1 : Int) | _ => (n1 : Int) + (n2 : Int)) ∧ v11 = .int .i64 k ∧ k ≤ 2 ∧ w = wr) (fun _ v11 _ => 2 - (intOf v11).toNat)
  case atStart => exact ⟨0, rfl, rfl, by omega, rfl⟩
  case round =>
    obtain ⟨k, rfl, rfl, hk, rfl⟩ := hrel
    obtain ⟨q1, q2⟩ := HC.out w (Below.refl _ _)
    rw [hV1] at q1
    rw [hV2] at q2
    rcases (show k = 0 ∨ k = 1 ∨ k = 2 by omega) with rfl | rfl | rfl
    · go_wp2_with fail
      go_roundw
      case rel => exact ⟨1, by go_num, by go_num, by omega, trivial⟩
      case measure => simp [intOf]
    · go_wp2_with fail
      go_roundw
      case rel => exact ⟨2, by go_num, by go_num, by omega, trivial⟩
      case measure => simp [intOf]
    · go_wp2_with fail
      refine (HG.out _).mono ?_
      rintro e w4 ⟨v4, rfl, o4, hb4⟩
      obtain ⟨p4, c4, rfl⟩ := shapeQ1 o4
      have HO4 : Hid (w4.ownsRow w.heap.size 59 10 (.slice p4 0 c4) 0 (tes [])) := o4
      have HB4 : Hid (Below w.heap.size w w4) := hb4
      clear o4 hb4 q1 q2
      go_wp2_with fail
      go_loopw [6, 27] (fun v6 v27 wr => ∃ k : Nat, v27 = .int .i64 k ∧ k ≤ 2 ∧ Hid (wr.ownsRow w.heap.size 59 10 v6 (match k with | 0 => 0 | 1 => n1 | _ => n1 + n2) (tes (match k with | 0 => [] | 1 => Z1 | _ => Z1 ++ Z2))) ∧ Below w.heap.size w wr) (fun _ v27 _ => 2 - (intOf v27).toNat)
      case atStart => exact ⟨0, rfl, by omega, HO4, HB4.out⟩
      case round =>
        clear HO4 HB4
        obtain ⟨k, rfl, hk, hO, hBk⟩ := hrel
        rcases (show k = 0 ∨ k = 1 ∨ k = 2 by omega) with rfl | rfl | rfl
        · simp only at hO
          have ho := hO.out
          obtain ⟨pq, cq, rfl⟩ := shapeQ1 ho
          have hk1 := (HC.out wr hBk).1
          have hsz := hBk.size
          rcases own_shapeQ (own_belQ HV1.out hBk) with ⟨e1, e2⟩ | ⟨g1, c1, e1, hnc, -, -⟩
          · have hz : Z1 = [] := List.length_eq_zero_iff.1 (by rw [HN.out.1]; exact e2)
            have HO2 : Hid (wr.ownsRow w.heap.size 59 10 (.slice pq 0 cq) n1 (tes Z1)) := by
              have e3 : n1 = 0 := by omega
              have e4 : tes Z1 = tes [] := by rw [hz]
              unfold Hid
              rw [e3, e4]
              exact ho
            rw [e1] at hk1
            clear hz e2 e1
            go_wp2_with (at_builtin; refine wpList_append_own_none rfl _ _ 24 rfl w.heap.size 59 i1 10 Tryz.underlying24 hi1 _ _ _ rfl ho rfl ?_)
            go_roundw
            case rel => exact ⟨1, by go_num, by omega, HO2, hBk⟩
            case measure => simp [intOf]
          · rw [e1] at hk1
            have hr := own_belQ HV1.out hBk
            rw [e1] at hr
            have hcl := hr.cells rfl
            go_wp2_with (at_builtin; refine wpList_append_own _ rfl _ _ 24 rfl w.heap.size 59 i1 _ 10 96 Tryz.underlying24 hi1 hy0 hy1 hy2 rfl (by decide) _ _ _ rfl ho ⟨g1, 0, none⟩ n1 c1 (tes Z1) rfl (by rw [tes_len10, HN.out.1]) hcl (tes_one Z1) (by unfold maxLen; omega) (by omega) hsz ?_)
            intro v' w8 oR hgrow _
            have HO2 : Hid (w8.ownsRow w.heap.size 59 10 v' n1 (tes Z1)) := by
              unfold Hid
              have e5 : tes Z1 = tes [] ++ tes Z1 := by simp [tes]
              rw [e5]
              have e7 : 0 + n1 = n1 := Nat.zero_add _
              try rw [e7] at oR
              exact oR
            have hB8 : Below w.heap.size w w8 := app_belC hBk ho hgrow
            obtain ⟨pv, cv, rfl⟩ := shapeQ1 oR
            clear oR hgrow hk1 hr hcl ho
            go_wp2_with fail
            go_roundw
            case rel => exact ⟨1, by go_num, by omega, HO2, hB8⟩
            case measure => simp [intOf]
        · simp only at hO
          have ho := hO.out
          obtain ⟨pq, cq, rfl⟩ := shapeQ1 ho
          have hk1 := (HC.out wr hBk).2
          have hsz := hBk.size
          rcases own_shapeQ (own_belQ HV2.out hBk) with ⟨e1, e2⟩ | ⟨g2, c2, e1, hnc, -, -⟩
          · have hz : Z2 = [] := List.length_eq_zero_iff.1 (by rw [HN.out.2]; exact e2)
            have HO2 : Hid (wr.ownsRow w.heap.size 59 10 (.slice pq n1 cq) (n1 + n2) (tes (Z1 ++ Z2))) := by
              have e3 : (n1 + n2) = n1 := by omega
              have e4 : tes (Z1 ++ Z2) = tes Z1 := by rw [hz]; simp
              unfold Hid
              rw [e3, e4]
              exact ho
            rw [e1] at hk1
            clear hz e2 e1
            go_wp2_with (at_builtin; refine wpList_append_own_none rfl _ _ 24 rfl w.heap.size 59 i1 10 Tryz.underlying24 hi1 _ _ _ rfl ho rfl ?_)
            go_roundw
            case rel => exact ⟨2, by go_num, by omega, HO2, hBk⟩
            case measure => simp [intOf]
          · rw [e1] at hk1
            have hr := own_belQ HV2.out hBk
            rw [e1] at hr
            have hcl := hr.cells rfl
            go_wp2_with (at_builtin; refine wpList_append_own _ rfl _ _ 24 rfl w.heap.size 59 i1 _ 10 96 Tryz.underlying24 hi1 hy0 hy1 hy2 rfl (by decide) _ _ _ rfl ho ⟨g2, 0, none⟩ n2 c2 (tes Z2) rfl (by rw [tes_len10, HN.out.2]) hcl (tes_one Z2) (by unfold maxLen; omega) (by omega) hsz ?_)
            intro v' w8 oR hgrow _
            have HO2 : Hid (w8.ownsRow w.heap.size 59 10 v' (n1 + n2) (tes (Z1 ++ Z2))) := by
              unfold Hid
              have e5 : tes (Z1 ++ Z2) = tes Z1 ++ tes Z2 := by simp [tes]
              rw [e5]
              skip
              skip
              exact oR
            have hB8 : Below w.heap.size w w8 := app_belC hBk ho hgrow
            obtain ⟨pv, cv, rfl⟩ := shapeQ1 oR
            clear oR hgrow hk1 hr hcl ho
            go_wp2_with fail
            go_roundw
            case rel => exact ⟨2, by go_num, by omega, HO2, hB8⟩
            case measure => simp [intOf]
        · have ho : Hid (wr.ownsRow w.heap.size 59 10 u6 (n1 + n2) (tes (Z1 ++ Z2))) := hO
          obtain ⟨pq, cq, rfl⟩ := shapeQ1 ho.out
          have HBk : Hid (Below w.heap.size w wr) := hBk
          clear hO hBk
          go_wp2_with fail
          go_ret
          exact ⟨_, rfl, ho.out, HBk.out⟩
end Go.Proofs.YtcejejiomhhpgaaGreatDoor
