import Derived.Test.YtccbfaembcefjaaGreatDoorXE3
import Derived.Test.YtccbfaembcefjaaGreatDoorXG3
import Derived.Test.YtccbfaembcefjaaGreatDoorXF1
import Derived.Test.YtccbfaembcefjaaGreatDoorXBE
namespace Go.Proofs.YtccbfaembcefjaaGreatDoor
open Go.RowKit Go.Shelf
set_option maxRecDepth 100000 in
theorem widthA (c : List UInt8) (w : World) (gc : good c = true) : Calls Tryz.prog 36 #[.agg #[.int .i64 (c.length : Int), .int .u64 (FW c 0 : Int), .int .u64 (FW c 1 : Int), .int .u64 (FW c 2 : Int), .int .u64 (FW c 3 : Int), .int .u64 (OW c 0 : Int), .int .u64 (OW c 1 : Int), .int .u64 (OW c 2 : Int), .int .u64 (OW c 3 : Int)]] w fun e w' => e = .returned (.int .i64 (c.length : Int)) ∧ Below w.heap.size w w' := by
  obtain ⟨w2, hw2⟩ : ∃ w2, w.alloc (.cells #[.int .i64 (c.length : Int), .int .u64 (FW c 0 : Int), .int .u64 (FW c 1 : Int), .int .u64 (FW c 2 : Int), .int .u64 (FW c 3 : Int), .int .u64 (OW c 0 : Int), .int .u64 (OW c 1 : Int), .int .u64 (OW c 2 : Int), .int .u64 (OW c 3 : Int)] 50 (0, 0)) = w2 := ⟨_, rfl⟩
  have hA : w2.heap[w.heap.size]? = some (.cells #[.int .i64 (c.length : Int), .int .u64 (FW c 0 : Int), .int .u64 (FW c 1 : Int), .int .u64 (FW c 2 : Int), .int .u64 (FW c 3 : Int), .int .u64 (OW c 0 : Int), .int .u64 (OW c 1 : Int), .int .u64 (OW c 2 : Int), .int .u64 (OW c 3 : Int)] 50 (0, 0)) := by rw [← hw2]; exact alloc_get _ _
  have hB2 : Below w.heap.size w w2 := by rw [← hw2]; exact belA (Below.refl _ _) _
  obtain ⟨hcT, -⟩ := cells_block hA
  have hl : c.length ≤ 256 := by
    have := gc
    unfold good at this
    simp at this
    exact this.1
  have H1 : Calls Tryz.prog 28 #[.agg #[.int .i64 (c.length : Int), .int .u64 (FW c 0 : Int), .int .u64 (FW c 1 : Int), .int .u64 (FW c 2 : Int), .int .u64 (FW c 3 : Int), .int .u64 (OW c 0 : Int), .int .u64 (OW c 1 : Int), .int .u64 (OW c 2 : Int), .int .u64 (OW c 3 : Int)]] w2 fun e w' => e = .returned (.string ⟨c.toArray⟩) ∧ Below w2.heap.size w2 w' := text_any c w2 gc
  have h2 : (⟨c.toArray⟩ : ByteArray).size = c.length := by simp [ByteArray.size]
  clear hA
  go_enter Tryz.func36, Tryz.ntmps36
  go_wp2_with fail
  refine H1.mono ?_
  rintro e W1 ⟨rfl, hb1⟩
  go_wp2_with fail
  go_ret
  exact ⟨by simp, bel0 hB2 hb1⟩
set_option maxRecDepth 100000 in
set_option maxHeartbeats 4000000 in
theorem giveA (b : Int) (Ts : List (List UInt8 × List (List UInt8))) (ok : Bool) (c1 c2 c3 : Nat) (w : World) (HO : ∀ W, Below w.heap.size w W → Calls Tryz.prog 38 #[.pointer (some ⟨c1, 0, none⟩), .pointer (some ⟨c2, 0, none⟩), .pointer (some ⟨c3, 0, none⟩)] W fun e w' => Below W.heap.size W w' ∧ ((ok = true ∧ ∃ V, e = .returned (.agg #[.int .i64 b, V, .bool false]) ∧ SPL w' W.heap.size V Ts) ∨ (ok = false ∧ e = .panicked [{ v := .iface 103 (.agg #[]), recovered := false }]))) :
    Calls Tryz.prog 37 #[.func (.func 38) #[] #[.pointer (some ⟨c1, 0, none⟩), .pointer (some ⟨c2, 0, none⟩), .pointer (some ⟨c3, 0, none⟩)]] w fun e w' => ∃ V, e = .returned (.tuple #[.agg #[.int .i64 (if ok = true then b else 0), V, .bool false], .int .i64 (if ok = true then 0 else 3)]) ∧ SPL w' w.heap.size V (if ok = true then Ts else []) ∧ Below w.heap.size w w' := by
  have hmf : ∀ (fn : Fn) (first cap : Array Value) (w : World), (Instr.makeFunc fn first cap).run Tryz.prog w = .ok (.func fn first cap) w := fun _ _ _ _ => rfl
  obtain ⟨w2, hw2⟩ : ∃ w2, (w.alloc (.cells #[.int .i64 0, .slice none 0 0, .bool false] 24 (0, 0))).alloc (.cells #[.int .i64 0] 31 (0, 0)) = w2 := ⟨_, rfl⟩
  have hA : w2.heap[w.heap.size]? = some (.cells #[.int .i64 0, .slice none 0 0, .bool false] 24 (0, 0)) := by rw [← hw2]; exact alw_0 _ _ _
  have hE : w2.heap[w.heap.size + 1]? = some (.cells #[.int .i64 0] 31 (0, 0)) := by rw [← hw2]; exact alw_1 _ _ _
  have hB2 : Below w.heap.size w w2 := by rw [← hw2]; exact belA (belA (Below.refl _ _) _) _
  have HO2 := HO w2 hB2
  have HA : Hid (w2.heap[w.heap.size]? = some (.cells #[.int .i64 0, .slice none 0 0, .bool false] 24 (0, 0)) ∧ w2.heap[w.heap.size + 1]? = some (.cells #[.int .i64 0] 31 (0, 0)) ∧ Below w.heap.size w w2) := ⟨hA, hE, hB2⟩
  clear hA hE hB2 HO
  cases ok with
  | true =>
    have HO3 : Hid (Calls Tryz.prog 38 #[.pointer (some ⟨c1, 0, none⟩), .pointer (some ⟨c2, 0, none⟩), .pointer (some ⟨c3, 0, none⟩)] w2 fun e w' => ∃ V, e = .returned (.agg #[.int .i64 b, V, .bool false]) ∧ SPL w' w2.heap.size V Ts ∧ Below w2.heap.size w2 w') := by
      refine HO2.mono ?_
      rintro e w' ⟨h1, ⟨-, V, rfl, h2⟩ | ⟨h2, -⟩⟩
      · exact ⟨V, rfl, h2, h1⟩
      · cases h2
    clear HO2
    simp only [if_true]
    go_enter_defers Tryz.func37, Tryz.ntmps37
    go_wp2_with fail
    refine HO3.out.mono ?_
    rintro e W1 ⟨V, rfl, o8, hb1⟩
    obtain ⟨p8, c8, rfl⟩ := o8.shape
    clear HO3 hw2
    obtain ⟨hcA, hfA⟩ := cells_block (keepblk3 hb1 HA.out.1)
    obtain ⟨hcE, hfE⟩ := cells_block (keepblk3 hb1 HA.out.2.1)
    go_wp2_with fail
    obtain ⟨X, hX⟩ : ∃ X, (((W1.setCell ⟨w.heap.size, 0, none⟩ (.int .i64 b)).setCell ⟨w.heap.size, 1, none⟩ (.slice p8 Ts.length c8)).setCell ⟨w.heap.size, 2, none⟩ (.bool false)).setCell ⟨w.heap.size + 1, 0, none⟩ (.int .i64 0) = X := ⟨_, rfl⟩
    have hXA : X.heap[w.heap.size]? = some (.cells #[.int .i64 b, .slice p8 Ts.length c8, .bool false] 24 (0, 0)) := by
      rw [← hX, heap_setCell_other _ ⟨w.heap.size + 1, 0, none⟩ _ _ (by simp)]
      exact put3_get _ _ _ (keepblk3 hb1 HA.out.1)
    have hXE : X.heap[w.heap.size + 1]? = some (.cells #[.int .i64 0] 31 (0, 0)) := by
      have h0 : (((W1.setCell ⟨w.heap.size, 0, none⟩ (.int .i64 b)).setCell ⟨w.heap.size, 1, none⟩ (.slice p8 Ts.length c8)).setCell ⟨w.heap.size, 2, none⟩ (.bool false)).heap[w.heap.size + 1]? = some (.cells #[.int .i64 0] 31 (0, 0)) := by
        rw [far3h _ _ _ (by omega)]
        exact keepblk3 hb1 HA.out.2.1
      have h1 := set_get (j := 0) (.int .i64 0) h0
      rw [← hX, h1]
      simp
    have hXB : Below w.heap.size w X := by
      rw [← hX]
      exact ((((bel0 HA.out.2.2 hb1).setCell (Nat.le_refl _) _).setCell (Nat.le_refl _) _).setCell (Nat.le_refl _) _).setCell (Nat.le_succ _) _
    have hXO : SPL X w.heap.size (.slice p8 Ts.length c8) Ts := by
      have l2 := lt_of_get3 HA.out.2.1
      rw [← hX]
      exact ((o8.kept (gr3 _ _ _ _ _) (by omega)).kept (set_grS _ (w.heap.size + 1) 0 _) l2).base (by omega)
    have HXX : Hid (SPL X w.heap.size (.slice p8 Ts.length c8) Ts ∧ Below w.heap.size w X) := ⟨hXO, hXB⟩
    rw [hX]
    clear o8 hcA hfA hcE hfE hX hXO hXB
    refine leaves_cons (f := 69) (args := #[.pointer (some ⟨w.heap.size + 1, 0, none⟩)]) (by simp) (by simp [go_sem]) ?_
    refine (idle (w.heap.size + 1) _).mono ?_
    rintro e u' w'' ⟨rfl, rfl, rfl⟩
    have cA := (cells_block hXA).1
    have cE := (cells_block hXE).1
    simp [Leaves, settle, results, Tryz.results37, go_sem, cA, cE]
    exact HXX.out
  | false =>
    have HO3 : Hid (Calls Tryz.prog 38 #[.pointer (some ⟨c1, 0, none⟩), .pointer (some ⟨c2, 0, none⟩), .pointer (some ⟨c3, 0, none⟩)] w2 fun e w' => e = .panicked [{ v := .iface 103 (.agg #[]), recovered := false }] ∧ Below w2.heap.size w2 w') := by
      refine HO2.mono ?_
      rintro e w' ⟨h1, ⟨h2, -⟩ | ⟨-, rfl⟩⟩
      · cases h2
      · exact ⟨rfl, h1⟩
    clear HO2
    simp only [Bool.false_eq_true, if_false]
    go_enter_defers Tryz.func37, Tryz.ntmps37
    go_wp2_with fail
    refine HO3.out.mono ?_
    rintro e W1 ⟨rfl, hb1⟩
    clear HO3 hw2
    have hEE := keepblk3 hb1 HA.out.2.1
    have hAA := keepblk3 hb1 HA.out.1
    obtain ⟨hcE, hfE⟩ := cells_block hEE
    refine leaves_cons (f := 69) (args := #[.pointer (some ⟨w.heap.size + 1, 0, none⟩)]) (by simp) (by simp [go_sem]) ?_
    refine (caught (w.heap.size + 1) 0 [] W1 (hcE 0) (hfE 0)).mono ?_
    rintro e u' w'' ⟨rfl, rfl, rfl⟩
    have hX0 : (W1.setCell ⟨w.heap.size + 1, 0, none⟩ (.int .i64 3)).heap[w.heap.size + 1]? = some (.cells #[.int .i64 3] 31 (0, 0)) := by
      have h1 := set_get (j := 0) (.int .i64 3) hEE
      rw [h1]
      simp
    have hX1 : (W1.setCell ⟨w.heap.size + 1, 0, none⟩ (.int .i64 3)).heap[w.heap.size]? = some (.cells #[.int .i64 0, .slice none 0 0, .bool false] 24 (0, 0)) := by
      rw [heap_setCell_other _ ⟨w.heap.size + 1, 0, none⟩ _ _ (by simp)]
      exact hAA
    have hXB : Below w.heap.size w (W1.setCell ⟨w.heap.size + 1, 0, none⟩ (.int .i64 3)) := (bel0 HA.out.2.2 hb1).setCell (Nat.le_succ _) _
    have cA := (cells_block hX1).1
    have cE := (cells_block hX0).1
    have HXX : Hid (SPL (W1.setCell ⟨w.heap.size + 1, 0, none⟩ (.int .i64 3)) w.heap.size (.slice none 0 0) [] ∧ Below w.heap.size w (W1.setCell ⟨w.heap.size + 1, 0, none⟩ (.int .i64 3))) := ⟨SPL_nil _ _, hXB⟩
    clear hcE hfE hXB
    simp [Leaves, settle, results, Tryz.results37, go_sem, cA, cE]
    exact HXX.out
/-- the written cubes, as terms -/
def afX (r : List UInt8) (L : List (List UInt8)) : List (List UInt8 × List (List UInt8)) := L.map (fun c => (wtT c r, []))
def afZ (r : List UInt8) (L : List (List UInt8)) : List ZT := L.map (fun c => ⟨wtT c r, none, 0, []⟩)
theorem afZ_cont (r : List UInt8) (L : List (List UInt8)) : (afZ r L).map ZT.cont = afX r L := by
  unfold afZ afX
  rw [List.map_map]
  rfl
theorem afZ_take {r x : List UInt8} {L : List (List UInt8)} {i : Nat} (h : L[i]? = some x) : afZ r (L.take (i + 1)) = afZ r (L.take i) ++ [⟨wtT x r, none, 0, []⟩] := by
  unfold afZ
  rw [List.take_add_one, h, List.map_append]
  rfl
theorem afZ_len (r : List UInt8) (L : List (List UInt8)) : (afZ r L).length = L.length := by simp [afZ]
theorem IRK_nil (w : World) (p : Option Addr) : IRK w p [] := fun _ _ k t h => by cases h
set_option maxRecDepth 100000 in
set_option maxHeartbeats 8000000 in
theorem after1_any (b : Int) (r : List UInt8) (L : List (List UInt8)) (n : Nat) (p : Option Addr) (cp c0 c1 c2 : Nat) (V : Value) (w : World) (hn : L.length = n) (hN : n ≤ 4096) (d0 : w.heap[c0]? = some (.cells #[.slice p n cp] 30 (0, 0))) (d1 : w.heap[c1]? = some (.cells #[.int .i64 (r.length : Int), .int .u64 (FW r 0 : Int), .int .u64 (FW r 1 : Int), .int .u64 (FW r 2 : Int), .int .u64 (FW r 3 : Int), .int .u64 (OW r 0 : Int), .int .u64 (OW r 1 : Int), .int .u64 (OW r 2 : Int), .int .u64 (OW r 3 : Int)] 50 (0, 0))) (d2 : w.heap[c2]? = some (.cells #[.int .i64 b, V, .bool false] 24 (0, 0))) (hr : IRC w p L) (gL : ∀ x ∈ L, good x = true) (gr : good r = true) :
    Calls Tryz.prog 38 #[.pointer (some ⟨c0, 0, none⟩), .pointer (some ⟨c1, 0, none⟩), .pointer (some ⟨c2, 0, none⟩)] w fun e w' => FRL w w' b (afX r L) e := by
  obtain ⟨i1, hi1, hy0, hy1, hy2⟩ := info_parts info_term
  obtain ⟨w2, hw2⟩ : ∃ w2, w.alloc (.cells #[.int .i64 0, .slice none 0 0, .bool false] 24 (0, 0)) = w2 := ⟨_, rfl⟩
  have hA : w2.heap[w.heap.size]? = some (.cells #[.int .i64 0, .slice none 0 0, .bool false] 24 (0, 0)) := by rw [← hw2]; exact alloc_get _ _
  have hB2 : Below w.heap.size w w2 := by rw [← hw2]; exact belA (Below.refl _ _) _
  have HA : Hid (w2.heap[w.heap.size]? = some (.cells #[.int .i64 0, .slice none 0 0, .bool false] 24 (0, 0)) ∧ Below w.heap.size w w2 ∧ w.heap.size < w2.heap.size) := ⟨hA, hB2, lt_of_get3 hA⟩
  have HK : Hid (∀ W, Below w2.heap.size w2 W → (∀ j, W.cell? ⟨c1, j, none⟩ = (#[.int .i64 (r.length : Int), .int .u64 (FW r 0 : Int), .int .u64 (FW r 1 : Int), .int .u64 (FW r 2 : Int), .int .u64 (FW r 3 : Int), .int .u64 (OW r 0 : Int), .int .u64 (OW r 1 : Int), .int .u64 (OW r 2 : Int), .int .u64 (OW r 3 : Int)] : Array Value)[j]?) ∧ W.cell? ⟨c2, 0, none⟩ = some (.int .i64 b)) := fun W hW => ⟨(cells_block (keepblk3 (bel0 hB2 hW) d1)).1, (cells_block (keepblk3 (bel0 hB2 hW) d2)).1 0⟩
  have hc0 : w2.cell? ⟨c0, 0, none⟩ = some (.slice p n cp) := (cells_block (keepblk3 hB2 d0)).1 0
  have HR : Hid (∀ W, Below w2.heap.size w2 W → IRC W p L) := fun W hW => hr.later (bel0 hB2 hW)
  have HN : Hid (L.length = n ∧ (∀ x ∈ L, good x = true) ∧ good r = true) := ⟨hn, gL, gr⟩
  clear hA hB2 d0 d1 d2 hr hn gL gr
  go_enter Tryz.func38, Tryz.ntmps38
  go_wp2_with fail
  clear hc0 hw2
  go_loopw [4, 9] (fun v4 v9 wr => ∃ i : Nat, v9 = .int .i64 (i : Int) ∧ i ≤ n ∧ Hid (wr.ownsRow w2.heap.size 84 10 v4 i (tes (afZ r (L.take i))) ∧ Below w2.heap.size w2 wr)) (fun _ v9 _ => n - (intOf v9).toNat)
  case atStart => exact ⟨0, rfl, Nat.zero_le _, World.ownsRow_nil _ _ _ _, Below.refl _ _⟩
  case round =>
    obtain ⟨i, rfl, hi, hrel⟩ := hrel
    obtain ⟨ho, hB⟩ := hrel.out
    clear hrel
    obtain ⟨p4, k4, rfl⟩ := shapeQ1 ho
    by_cases hlt : i < n
    · have j1 : (i : Int) < (n : Int) := by omega
      have j0 : (0 : Int) ≤ (i : Int) := by omega
      obtain ⟨x, hx⟩ : ∃ x, L[i]? = some x := ⟨_, List.getElem?_eq_getElem (by rw [HN.out.1]; exact hlt)⟩
      obtain ⟨g, o0, rfl, p0, p1, p2, p3, p4', p5, p6, p7, p8⟩ := HR.out wr hB wr (Below.refl _ _) i x hx
      obtain ⟨y, hy⟩ : ∃ y, wtT x r = y := ⟨_, rfl⟩
      have HWR : Hid (∀ V, Calls Tryz.prog 33 #[.agg #[.int .i64 (x.length : Int), .int .u64 (FW x 0 : Int), .int .u64 (FW x 1 : Int), .int .u64 (FW x 2 : Int), .int .u64 (FW x 3 : Int), .int .u64 (OW x 0 : Int), .int .u64 (OW x 1 : Int), .int .u64 (OW x 2 : Int), .int .u64 (OW x 3 : Int)], .agg #[.int .i64 (r.length : Int), .int .u64 (FW r 0 : Int), .int .u64 (FW r 1 : Int), .int .u64 (FW r 2 : Int), .int .u64 (FW r 3 : Int), .int .u64 (OW r 0 : Int), .int .u64 (OW r 1 : Int), .int .u64 (OW r 2 : Int), .int .u64 (OW r 3 : Int)]] V fun e w' => e = .returned (.agg #[.int .i64 (y.length : Int), .int .u64 (FW y 0 : Int), .int .u64 (FW y 1 : Int), .int .u64 (FW y 2 : Int), .int .u64 (FW y 3 : Int), .int .u64 (OW y 0 : Int), .int .u64 (OW y 1 : Int), .int .u64 (OW y 2 : Int), .int .u64 (OW y 3 : Int)]) ∧ Below V.heap.size V w') := fun V => write_D x r y V hy
      have HT : Hid (afZ r (L.take (i + 1)) = afZ r (L.take i) ++ [⟨y, none, 0, []⟩]) := by
        unfold Hid
        rw [afZ_take hx, hy]
      obtain ⟨wa, hwa⟩ : ∃ wa, wr.alloc (.cells #[.int .i64 (x.length : Int), .int .u64 (FW x 0 : Int), .int .u64 (FW x 1 : Int), .int .u64 (FW x 2 : Int), .int .u64 (FW x 3 : Int), .int .u64 (OW x 0 : Int), .int .u64 (OW x 1 : Int), .int .u64 (OW x 2 : Int), .int .u64 (OW x 3 : Int)] 50 (0, 0)) = wa := ⟨_, rfl⟩
      have hBa : Below wr.heap.size wr wa := by rw [← hwa]; exact belA (Below.refl _ _) _
      have hga := (cells_block (show wa.heap[wr.heap.size]? = some (.cells #[.int .i64 (x.length : Int), .int .u64 (FW x 0 : Int), .int .u64 (FW x 1 : Int), .int .u64 (FW x 2 : Int), .int .u64 (FW x 3 : Int), .int .u64 (OW x 0 : Int), .int .u64 (OW x 1 : Int), .int .u64 (OW x 2 : Int), .int .u64 (OW x 3 : Int)] 50 (0, 0)) by rw [← hwa]; exact alloc_get _ _)).1
      have hBA : Below w2.heap.size w2 wa := bel0 hB hBa
      obtain ⟨hcr, -⟩ := HK.out wa hBA
      have HO : Hid (wa.ownsRow w2.heap.size 84 10 (.slice p4 i k4) i (tes (afZ r (L.take i))) ∧ Below w2.heap.size w2 wa) := ⟨own_belQ ho hBa, hBA⟩
      clear ho hB hBa hBA hx hy
      go_wp2_with fail
      refine (HWR.out _).mono ?_
      rintro e w5 ⟨rfl, hb5⟩
      have o5 := own_belQ HO.out.1 hb5
      have hB5 := bel0 HO.out.2 hb5
      have hs5 := hB5.size
      clear p0 p1 p2 p3 p4' p5 p6 p7 p8 hga hcr hwa hb5
      go_wp2_with (at_builtin; refine wpList_append_own _ rfl _ _ 22 rfl w2.heap.size 84 i1 _ 10 96 Tryz.underlying22 hi1 hy0 hy1 hy2 rfl (by decide) _ _ _ rfl (o5.alloc _) ⟨_, 0, none⟩ 1 1 [.int .i64 (y.length : Int), .int .u64 (FW y 0 : Int), .int .u64 (FW y 1 : Int), .int .u64 (FW y 2 : Int), .int .u64 (FW y 3 : Int), .int .u64 (OW y 0 : Int), .int .u64 (OW y 1 : Int), .int .u64 (OW y 2 : Int), .int .u64 (OW y 3 : Int), .slice none 0 0] rfl rfl (World.news_of_block (cs := #[.int .i64 (y.length : Int), .int .u64 (FW y 0 : Int), .int .u64 (FW y 1 : Int), .int .u64 (FW y 2 : Int), .int .u64 (FW y 3 : Int), .int .u64 (OW y 0 : Int), .int .u64 (OW y 1 : Int), .int .u64 (OW y 2 : Int), .int .u64 (OW y 3 : Int), .slice none 0 0]) (t := 84) (fr := (0, 0)) (alloc_get _ _)) (by simp [Value.oneCell']) (by unfold maxLen; omega) (by omega) (by simp; omega) ?_; intro v8 w8 o8 g8 _)
      obtain ⟨p8, k8, rfl⟩ := shapeQ1 o8
      have HZ : Hid (w8.ownsRow w2.heap.size 84 10 (.slice p8 (i + 1) k8) (i + 1) (tes (afZ r (L.take (i + 1)))) ∧ Below w2.heap.size w2 w8) := by
        refine ⟨?_, (belA hB5 _).grown g8 (by simp; omega) (fun k e => (o5.lt k e).1)⟩
        rw [HT.out, tes_snoc]
        exact o8
      clear o5 hB5 o8 g8 HO HT HWR
      go_wp2_with fail
      go_roundw
      case rel => exact ⟨i + 1, by go_num, by omega, HZ⟩
      case measure => simp [intOf]; omega
    · have j1 : ¬ (i : Int) < (n : Int) := by omega
      obtain rfl : i = n := by omega
      have et : L.take i = L := List.take_of_length_le (by rw [HN.out.1]; exact Nat.le_refl _)
      rw [et] at ho
      obtain ⟨-, hcb⟩ := HK.out wr hB
      have hln : (afZ r L).length = i := by rw [afZ_len]; exact HN.out.1
      have HF := formed_any b (afZ r L) i p4 k4 wr hln (by omega) (IRZ_own ho hln) (fun z hz => by
        unfold afZ at hz
        obtain ⟨c, hc, rfl⟩ := List.mem_map.1 hz
        exact ⟨IRK_nil _ _, Nat.zero_le _, good_wtT c r (HN.out.2.1 c hc) HN.out.2.2, fun x hx => by cases hx⟩)
      rw [afZ_cont] at HF
      have HBr : Hid (Below w2.heap.size w2 wr) := hB
      clear ho hB et hln
      go_wp2_with fail
      refine HF.mono ?_
      rintro e w3 ⟨hb3, ⟨hle, V3, rfl, sv3⟩ | ⟨hgt, rfl⟩⟩
      · obtain ⟨XX, hXX⟩ : ∃ X, ordT (topC (stl (afX r L))) = X := ⟨_, rfl⟩
        obtain ⟨p3, k3, rfl⟩ := sv3.shape
        rw [hXX] at sv3 ⊢
        obtain ⟨m3, hm3⟩ : ∃ m, XX.length = m := ⟨_, rfl⟩
        rw [hm3] at sv3 ⊢
        have hg3 := keepblk3 (bel0 HBr.out hb3) HA.out.1
        obtain ⟨hcR, hfR⟩ := cells_block hg3
        have hlt3 : w.heap.size < wr.heap.size := Nat.lt_of_lt_of_le HA.out.2.2 HBr.out.size
        have HP : Hid (Below w.heap.size w (((w3.setCell ⟨w.heap.size, 0, none⟩ (.int .i64 b)).setCell ⟨w.heap.size, 1, none⟩ (.slice p3 m3 k3)).setCell ⟨w.heap.size, 2, none⟩ (.bool false)) ∧ (((w3.setCell ⟨w.heap.size, 0, none⟩ (.int .i64 b)).setCell ⟨w.heap.size, 1, none⟩ (.slice p3 m3 k3)).setCell ⟨w.heap.size, 2, none⟩ (.bool false)).heap[w.heap.size]? = some (.cells #[.int .i64 b, .slice p3 m3 k3, .bool false] 24 (0, 0)) ∧ SPL (((w3.setCell ⟨w.heap.size, 0, none⟩ (.int .i64 b)).setCell ⟨w.heap.size, 1, none⟩ (.slice p3 m3 k3)).setCell ⟨w.heap.size, 2, none⟩ (.bool false)) w.heap.size (.slice p3 m3 k3) XX) := ⟨(((bel0 HA.out.2.1 (bel0 HBr.out hb3)).setCell (Nat.le_refl _) _).setCell (Nat.le_refl _) _).setCell (Nat.le_refl _) _, put3w _ _ _ hg3, (sv3.kept (gr3 _ _ _ _ _) hlt3).base (Nat.le_of_lt hlt3)⟩
        have HQ : Hid (szC (topC (stl (afX r L))) ≤ 128 ∧ ordT (topC (stl (afX r L))) = XX) := ⟨hle, hXX⟩
        clear hg3 sv3 hb3 hcb HF hle hXX hm3
        go_wp2_with fail
        refine bodyPost_ret (v := .agg #[.int .i64 b, .slice p3 m3 k3, .bool false]) (res_space _ _ w.heap.size _ _ _ Tryz.results38 rfl HP.out.2.1) rfl ?_
        exact ⟨HP.out.1, .inl ⟨HQ.out.1, _, rfl, by rw [HQ.out.2]; exact HP.out.2.2⟩⟩
      · exact ⟨rfl, bel0 HA.out.2.1 (bel0 HBr.out hb3), .inr ⟨hgt, rfl⟩⟩
end Go.Proofs.YtccbfaembcefjaaGreatDoor
