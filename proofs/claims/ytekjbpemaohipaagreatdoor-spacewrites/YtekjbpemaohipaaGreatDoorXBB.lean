import Derived.Test.YtekjbpemaohipaaGreatDoorXBA
import Derived.Laws.AppendOwnNone
import Derived.Test.YtekjbpemaohipaaGreatDoorXAY
namespace Go.Proofs.YtekjbpemaohipaaGreatDoor
open Go.RowKit Go.Shelf
set_option maxRecDepth 100000 in
theorem widthA (c : List UInt8) (w : World) (gc : good c = true) : Calls Tryz.prog 26 #[.agg #[.int .i64 (c.length : Int), .int .u64 (FW c 0 : Int), .int .u64 (FW c 1 : Int), .int .u64 (FW c 2 : Int), .int .u64 (FW c 3 : Int), .int .u64 (OW c 0 : Int), .int .u64 (OW c 1 : Int), .int .u64 (OW c 2 : Int), .int .u64 (OW c 3 : Int)]] w fun e w' => e = .returned (.int .i64 (c.length : Int)) ∧ Below w.heap.size w w' := by
  obtain ⟨w2, hw2⟩ : ∃ w2, w.alloc (.cells #[.int .i64 (c.length : Int), .int .u64 (FW c 0 : Int), .int .u64 (FW c 1 : Int), .int .u64 (FW c 2 : Int), .int .u64 (FW c 3 : Int), .int .u64 (OW c 0 : Int), .int .u64 (OW c 1 : Int), .int .u64 (OW c 2 : Int), .int .u64 (OW c 3 : Int)] 34 (0, 0)) = w2 := ⟨_, rfl⟩
  have hA : w2.heap[w.heap.size]? = some (.cells #[.int .i64 (c.length : Int), .int .u64 (FW c 0 : Int), .int .u64 (FW c 1 : Int), .int .u64 (FW c 2 : Int), .int .u64 (FW c 3 : Int), .int .u64 (OW c 0 : Int), .int .u64 (OW c 1 : Int), .int .u64 (OW c 2 : Int), .int .u64 (OW c 3 : Int)] 34 (0, 0)) := by rw [← hw2]; exact alloc_get _ _
  have hB2 : Below w.heap.size w w2 := by rw [← hw2]; exact belA (Below.refl _ _) _
  obtain ⟨hcT, -⟩ := cells_block hA
  have hl : c.length ≤ 256 := by
    have := gc
    unfold good at this
    simp at this
    exact this.1
  have H1 : Calls Tryz.prog 37 #[.agg #[.int .i64 (c.length : Int), .int .u64 (FW c 0 : Int), .int .u64 (FW c 1 : Int), .int .u64 (FW c 2 : Int), .int .u64 (FW c 3 : Int), .int .u64 (OW c 0 : Int), .int .u64 (OW c 1 : Int), .int .u64 (OW c 2 : Int), .int .u64 (OW c 3 : Int)]] w2 fun e w' => e = .returned (.string ⟨c.toArray⟩) ∧ Below w2.heap.size w2 w' := text_any c w2 gc
  have h2 : (⟨c.toArray⟩ : ByteArray).size = c.length := by simp [ByteArray.size]
  clear hA
  go_enter Tryz.func26, Tryz.ntmps26
  go_wp2_with fail
  refine H1.mono ?_
  rintro e W1 ⟨rfl, hb1⟩
  go_wp2_with fail
  go_ret
  exact ⟨by simp, bel0 hB2 hb1⟩
set_option maxRecDepth 100000 in
set_option maxHeartbeats 4000000 in
theorem giveA (b : Int) (Ts : List (List UInt8 × List (List UInt8))) (ok : Bool) (c1 c2 c3 : Nat) (w : World) (HO : ∀ W, Below w.heap.size w W → Calls Tryz.prog 32 #[.pointer (some ⟨c1, 0, none⟩), .pointer (some ⟨c2, 0, none⟩), .pointer (some ⟨c3, 0, none⟩)] W fun e w' => Below W.heap.size W w' ∧ ((ok = true ∧ ∃ V, e = .returned (.agg #[.int .i64 b, V, .bool false]) ∧ SPL w' W.heap.size V Ts) ∨ (ok = false ∧ e = .panicked [{ v := .iface 94 (.agg #[]), recovered := false }]))) :
    Calls Tryz.prog 31 #[.func (.func 32) #[] #[.pointer (some ⟨c1, 0, none⟩), .pointer (some ⟨c2, 0, none⟩), .pointer (some ⟨c3, 0, none⟩)]] w fun e w' => ∃ V, e = .returned (.tuple #[.agg #[.int .i64 (if ok = true then b else 0), V, .bool false], .int .i64 (if ok = true then 0 else 3)]) ∧ SPL w' w.heap.size V (if ok = true then Ts else []) ∧ Below w.heap.size w w' := by
  have hmf : ∀ (fn : Fn) (first cap : Array Value) (w : World), (Instr.makeFunc fn first cap).run Tryz.prog w = .ok (.func fn first cap) w := fun _ _ _ _ => rfl
  obtain ⟨w2, hw2⟩ : ∃ w2, (w.alloc (.cells #[.int .i64 0, .slice none 0 0, .bool false] 26 (0, 0))).alloc (.cells #[.int .i64 0] 27 (0, 0)) = w2 := ⟨_, rfl⟩
  have hA : w2.heap[w.heap.size]? = some (.cells #[.int .i64 0, .slice none 0 0, .bool false] 26 (0, 0)) := by rw [← hw2]; exact alw_0 _ _ _
  have hE : w2.heap[w.heap.size + 1]? = some (.cells #[.int .i64 0] 27 (0, 0)) := by rw [← hw2]; exact alw_1 _ _ _
  have hB2 : Below w.heap.size w w2 := by rw [← hw2]; exact belA (belA (Below.refl _ _) _) _
  have HO2 := HO w2 hB2
  have HA : Hid (w2.heap[w.heap.size]? = some (.cells #[.int .i64 0, .slice none 0 0, .bool false] 26 (0, 0)) ∧ w2.heap[w.heap.size + 1]? = some (.cells #[.int .i64 0] 27 (0, 0)) ∧ Below w.heap.size w w2) := ⟨hA, hE, hB2⟩
  clear hA hE hB2 HO
  cases ok with
  | true =>
    have HO3 : Hid (Calls Tryz.prog 32 #[.pointer (some ⟨c1, 0, none⟩), .pointer (some ⟨c2, 0, none⟩), .pointer (some ⟨c3, 0, none⟩)] w2 fun e w' => ∃ V, e = .returned (.agg #[.int .i64 b, V, .bool false]) ∧ SPL w' w2.heap.size V Ts ∧ Below w2.heap.size w2 w') := by
      refine HO2.mono ?_
      rintro e w' ⟨h1, ⟨-, V, rfl, h2⟩ | ⟨h2, -⟩⟩
      · exact ⟨V, rfl, h2, h1⟩
      · cases h2
    clear HO2
    simp only [if_true]
    go_enter_defers Tryz.func31, Tryz.ntmps31
    go_wp2_with fail
    refine HO3.out.mono ?_
    rintro e W1 ⟨V, rfl, o8, hb1⟩
    obtain ⟨p8, c8, rfl⟩ := o8.shape
    clear HO3 hw2
    obtain ⟨hcA, hfA⟩ := cells_block (keepblk3 hb1 HA.out.1)
    obtain ⟨hcE, hfE⟩ := cells_block (keepblk3 hb1 HA.out.2.1)
    go_wp2_with fail
    obtain ⟨X, hX⟩ : ∃ X, (((W1.setCell ⟨w.heap.size, 0, none⟩ (.int .i64 b)).setCell ⟨w.heap.size, 1, none⟩ (.slice p8 Ts.length c8)).setCell ⟨w.heap.size, 2, none⟩ (.bool false)).setCell ⟨w.heap.size + 1, 0, none⟩ (.int .i64 0) = X := ⟨_, rfl⟩
    have hXA : X.heap[w.heap.size]? = some (.cells #[.int .i64 b, .slice p8 Ts.length c8, .bool false] 26 (0, 0)) := by
      rw [← hX, heap_setCell_other _ ⟨w.heap.size + 1, 0, none⟩ _ _ (by simp)]
      exact put3_get _ _ _ (keepblk3 hb1 HA.out.1)
    have hXE : X.heap[w.heap.size + 1]? = some (.cells #[.int .i64 0] 27 (0, 0)) := by
      have h0 : (((W1.setCell ⟨w.heap.size, 0, none⟩ (.int .i64 b)).setCell ⟨w.heap.size, 1, none⟩ (.slice p8 Ts.length c8)).setCell ⟨w.heap.size, 2, none⟩ (.bool false)).heap[w.heap.size + 1]? = some (.cells #[.int .i64 0] 27 (0, 0)) := by
        rw [far3h _ _ _ (by omega)]
        exact keepblk3 hb1 HA.out.2.1
      have h1 := set_get (j := 0) (.int .i64 0) h0
      rw [← hX, h1]
      simp
    have hXB : Below w.heap.size w X := by
      rw [← hX]
      exact ((((bel0 HA.out.2.2 hb1).setCell (Nat.le_refl _) _).setCell (Nat.le_refl _) _).setCell (Nat.le_refl _) _).setCell (Nat.le_succ _) _
    have hXO : SPL X w.heap.size (.slice p8 Ts.length c8) Ts := by
      have l2 := lt_of_get3 HA.out.2.1
      rw [← hX]
      exact ((o8.kept (gr3 _ _ _ _ _) (by omega)).kept (set_grS _ (w.heap.size + 1) 0 _) l2).base (by omega)
    have HXX : Hid (SPL X w.heap.size (.slice p8 Ts.length c8) Ts ∧ Below w.heap.size w X) := ⟨hXO, hXB⟩
    rw [hX]
    clear o8 hcA hfA hcE hfE hX hXO hXB
    refine leaves_cons (f := 49) (args := #[.pointer (some ⟨w.heap.size + 1, 0, none⟩)]) (by simp) (by simp [go_sem]) ?_
    refine (idle (w.heap.size + 1) _).mono ?_
    rintro e u' w'' ⟨rfl, rfl, rfl⟩
    have cA := (cells_block hXA).1
    have cE := (cells_block hXE).1
    simp [Leaves, settle, results, Tryz.results31, go_sem, cA, cE]
    exact HXX.out
  | false =>
    have HO3 : Hid (Calls Tryz.prog 32 #[.pointer (some ⟨c1, 0, none⟩), .pointer (some ⟨c2, 0, none⟩), .pointer (some ⟨c3, 0, none⟩)] w2 fun e w' => e = .panicked [{ v := .iface 94 (.agg #[]), recovered := false }] ∧ Below w2.heap.size w2 w') := by
      refine HO2.mono ?_
      rintro e w' ⟨h1, ⟨h2, -⟩ | ⟨-, rfl⟩⟩
      · cases h2
      · exact ⟨rfl, h1⟩
    clear HO2
    simp only [Bool.false_eq_true, if_false]
    go_enter_defers Tryz.func31, Tryz.ntmps31
    go_wp2_with fail
    refine HO3.out.mono ?_
    rintro e W1 ⟨rfl, hb1⟩
    clear HO3 hw2
    have hEE := keepblk3 hb1 HA.out.2.1
    have hAA := keepblk3 hb1 HA.out.1
    obtain ⟨hcE, hfE⟩ := cells_block hEE
    refine leaves_cons (f := 49) (args := #[.pointer (some ⟨w.heap.size + 1, 0, none⟩)]) (by simp) (by simp [go_sem]) ?_
    refine (caught (w.heap.size + 1) 0 [] W1 (hcE 0) (hfE 0)).mono ?_
    rintro e u' w'' ⟨rfl, rfl, rfl⟩
    have hX0 : (W1.setCell ⟨w.heap.size + 1, 0, none⟩ (.int .i64 3)).heap[w.heap.size + 1]? = some (.cells #[.int .i64 3] 27 (0, 0)) := by
      have h1 := set_get (j := 0) (.int .i64 3) hEE
      rw [h1]
      simp
    have hX1 : (W1.setCell ⟨w.heap.size + 1, 0, none⟩ (.int .i64 3)).heap[w.heap.size]? = some (.cells #[.int .i64 0, .slice none 0 0, .bool false] 26 (0, 0)) := by
      rw [heap_setCell_other _ ⟨w.heap.size + 1, 0, none⟩ _ _ (by simp)]
      exact hAA
    have hXB : Below w.heap.size w (W1.setCell ⟨w.heap.size + 1, 0, none⟩ (.int .i64 3)) := (bel0 HA.out.2.2 hb1).setCell (Nat.le_succ _) _
    have cA := (cells_block hX1).1
    have cE := (cells_block hX0).1
    have HXX : Hid (SPL (W1.setCell ⟨w.heap.size + 1, 0, none⟩ (.int .i64 3)) w.heap.size (.slice none 0 0) [] ∧ Below w.heap.size w (W1.setCell ⟨w.heap.size + 1, 0, none⟩ (.int .i64 3))) := ⟨SPL_nil _ _, hXB⟩
    clear hcE hfE hXB
    simp [Leaves, settle, results, Tryz.results31, go_sem, cA, cE]
    exact HXX.out
/-- the written cubes, as terms -/
def afX (r : List UInt8) (L : List (List UInt8)) : List (List UInt8 × List (List UInt8)) := L.map (fun c => (wtT c r, []))
def afZ (r : List UInt8) (L : List (List UInt8)) : List ZT := L.map (fun c => ⟨wtT c r, none, 0, []⟩)
theorem afZ_cont (r : List UInt8) (L : List (List UInt8)) : (afZ r L).map ZT.cont = afX r L := by
  unfold afZ afX
  rw [List.map_map]
  rfl
theorem afZ_take {r x : List UInt8} {L : List (List UInt8)} {i : Nat} (h : L[i]? = some x) : afZ r (L.take (i + 1)) = afZ r (L.take i) ++ [⟨wtT x r, none, 0, []⟩] := by
  unfold afZ
  rw [List.take_add_one, h, List.map_append]
  rfl
theorem afZ_len (r : List UInt8) (L : List (List UInt8)) : (afZ r L).length = L.length := by simp [afZ]
theorem IRK_nil (w : World) (p : Option Addr) : IRK w p [] := fun _ _ k t h => by cases h
set_option maxRecDepth 100000 in
set_option maxHeartbeats 8000000 in
theorem after1_any (b : Int) (r : List UInt8) (L : List (List UInt8)) (n : Nat) (p : Option Addr) (cp c0 c1 c2 : Nat) (V : Value) (w : World) (hn : L.length = n) (hN : n ≤ 4096) (d0 : w.heap[c0]? = some (.cells #[.slice p n cp] 60 (0, 0))) (d1 : w.heap[c1]? = some (.cells #[.int .i64 (r.length : Int), .int .u64 (FW r 0 : Int), .int .u64 (FW r 1 : Int), .int .u64 (FW r 2 : Int), .int .u64 (FW r 3 : Int), .int .u64 (OW r 0 : Int), .int .u64 (OW r 1 : Int), .int .u64 (OW r 2 : Int), .int .u64 (OW r 3 : Int)] 34 (0, 0))) (d2 : w.heap[c2]? = some (.cells #[.int .i64 b, V, .bool false] 26 (0, 0))) (hr : IRC w p L) (gL : ∀ x ∈ L, good x = true) (gr : good r = true) :
    Calls Tryz.prog 32 #[.pointer (some ⟨c0, 0, none⟩), .pointer (some ⟨c1, 0, none⟩), .pointer (some ⟨c2, 0, none⟩)] w fun e w' => FRL w w' b (afX r L) e := by
  obtain ⟨i1, hi1, hy0, hy1, hy2⟩ := info_parts info_term
  obtain ⟨w2, hw2⟩ : ∃ w2, w.alloc (.cells #[.int .i64 0, .slice none 0 0, .bool false] 26 (0, 0)) = w2 := ⟨_, rfl⟩
  have hA : w2.heap[w.heap.size]? = some (.cells #[.int .i64 0, .slice none 0 0, .bool false] 26 (0, 0)) := by rw [← hw2]; exact alloc_get _ _
  have hB2 : Below w.heap.size w w2 := by rw [← hw2]; exact belA (Below.refl _ _) _
  have HA : Hid (w2.heap[w.heap.size]? = some (.cells #[.int .i64 0, .slice none 0 0, .bool false] 26 (0, 0)) ∧ Below w.heap.size w w2 ∧ w.heap.size < w2.heap.size) := ⟨hA, hB2, lt_of_get3 hA⟩
  have HK : Hid (∀ W, Below w2.heap.size w2 W → (∀ j, W.cell? ⟨c1, j, none⟩ = (#[.int .i64 (r.length : Int), .int .u64 (FW r 0 : Int), .int .u64 (FW r 1 : Int), .int .u64 (FW r 2 : Int), .int .u64 (FW r 3 : Int), .int .u64 (OW r 0 : Int), .int .u64 (OW r 1 : Int), .int .u64 (OW r 2 : Int), .int .u64 (OW r 3 : Int)] : Array Value)[j]?) ∧ W.cell? ⟨c2, 0, none⟩ = some (.int .i64 b)) := fun W hW => ⟨(cells_block (keepblk3 (bel0 hB2 hW) d1)).1, (cells_block (keepblk3 (bel0 hB2 hW) d2)).1 0⟩
  have hc0 : w2.cell? ⟨c0, 0, none⟩ = some (.slice p n cp) := (cells_block (keepblk3 hB2 d0)).1 0
  have HR : Hid (∀ W, Below w2.heap.size w2 W → IRC W p L) := fun W hW => hr.later (bel0 hB2 hW)
  have HN : Hid (L.length = n ∧ (∀ x ∈ L, good x = true) ∧ good r = true) := ⟨hn, gL, gr⟩
  clear hA hB2 d0 d1 d2 hr hn gL gr
  go_enter Tryz.func32, Tryz.ntmps32
  go_wp2_with fail
  clear hc0 hw2
  go_loopw [4, 9] (fun v4 v9 wr => ∃ i : Nat, v9 = .int .i64 (i : Int) ∧ i ≤ n ∧ Hid (wr.ownsRow w2.heap.size 62 10 v4 i (tes (afZ r (L.take i))) ∧ Below w2.heap.size w2 wr)) (fun _ v9 _ => n - (intOf v9).toNat)
  case atStart => exact ⟨0, rfl, Nat.zero_le _, World.ownsRow_nil _ _ _ _, Below.refl _ _⟩
  case round =>
    obtain ⟨i, rfl, hi, hrel⟩ := hrel
    obtain ⟨ho, hB⟩ := hrel.out
    clear hrel
    obtain ⟨p4, k4, rfl⟩ := shapeQ1 ho
    by_cases hlt : i < n
    · have j1 : (i : Int) < (n : Int) := by omega
      have j0 : (0 : Int) ≤ (i : Int) := by omega
      obtain ⟨x, hx⟩ : ∃ x, L[i]? = some x := ⟨_, List.getElem?_eq_getElem (by rw [HN.out.1]; exact hlt)⟩
      obtain ⟨g, o0, rfl, p0, p1, p2, p3, p4', p5, p6, p7, p8⟩ := HR.out wr hB wr (Below.refl _ _) i x hx
      obtain ⟨y, hy⟩ : ∃ y, wtT x r = y := ⟨_, rfl⟩
      have HWR : Hid (∀ V, Calls Tryz.prog 33 #[.agg #[.int .i64 (x.length : Int), .int .u64 (FW x 0 : Int), .int .u64 (FW x 1 : Int), .int .u64 (FW x 2 : Int), .int .u64 (FW x 3 : Int), .int .u64 (OW x 0 : Int), .int .u64 (OW x 1 : Int), .int .u64 (OW x 2 : Int), .int .u64 (OW x 3 : Int)], .agg #[.int .i64 (r.length : Int), .int .u64 (FW r 0 : Int), .int .u64 (FW r 1 : Int), .int .u64 (FW r 2 : Int), .int .u64 (FW r 3 : Int), .int .u64 (OW r 0 : Int), .int .u64 (OW r 1 : Int), .int .u64 (OW r 2 : Int), .int .u64 (OW r 3 : Int)]] V fun e w' => e = .returned (.agg #[.int .i64 (y.length : Int), .int .u64 (FW y 0 : Int), .int .u64 (FW y 1 : Int), .int .u64 (FW y 2 : Int), .int .u64 (FW y 3 : Int), .int .u64 (OW y 0 : Int), .int .u64 (OW y 1 : Int), .int .u64 (OW y 2 : Int), .int .u64 (OW y 3 : Int)]) ∧ Below V.heap.size V w') := fun V => write_D x r y V hy
      have HT : Hid (afZ r (L.take (i + 1)) = afZ r (L.take i) ++ [⟨y, none, 0, []⟩]) := by
        unfold Hid
        rw [afZ_take hx, hy]
      obtain ⟨wa, hwa⟩ : ∃ wa, wr.alloc (.cells #[.int .i64 (x.length : Int), .int .u64 (FW x 0 : Int), .int .u64 (FW x 1 : Int), .int .u64 (FW x 2 : Int), .int .u64 (FW x 3 : Int), .int .u64 (OW x 0 : Int), .int .u64 (OW x 1 : Int), .int .u64 (OW x 2 : Int), .int .u64 (OW x 3 : Int)] 34 (0, 0)) = wa := ⟨_, rfl⟩
      have hBa : Below wr.heap.size wr wa := by rw [← hwa]; exact belA (Below.refl _ _) _
      have hga := (cells_block (show wa.heap[wr.heap.size]? = some (.cells #[.int .i64 (x.length : Int), .int .u64 (FW x 0 : Int), .int .u64 (FW x 1 : Int), .int .u64 (FW x 2 : Int), .int .u64 (FW x 3 : Int), .int .u64 (OW x 0 : Int), .int .u64 (OW x 1 : Int), .int .u64 (OW x 2 : Int), .int .u64 (OW x 3 : Int)] 34 (0, 0)) by rw [← hwa]; exact alloc_get _ _)).1
      have hBA : Below w2.heap.size w2 wa := bel0 hB hBa
      obtain ⟨hcr, -⟩ := HK.out wa hBA
      have HO : Hid (wa.ownsRow w2.heap.size 62 10 (.slice p4 i k4) i (tes (afZ r (L.take i))) ∧ Below w2.heap.size w2 wa) := ⟨own_belQ ho hBa, hBA⟩
      clear ho hB hBa hBA hx hy
      go_wp2_with fail
      refine (HWR.out _).mono ?_
      rintro e w5 ⟨rfl, hb5⟩
      have o5 := own_belQ HO.out.1 hb5
      have hB5 := bel0 HO.out.2 hb5
      have hs5 := hB5.size
      clear p0 p1 p2 p3 p4' p5 p6 p7 p8 hga hcr hwa hb5
      go_wp2_with (at_builtin; refine wpList_append_own _ rfl _ _ 24 rfl w2.heap.size 62 i1 _ 10 96 Tryz.underlying24 hi1 hy0 hy1 hy2 rfl (by decide) _ _ _ rfl (o5.alloc _) ⟨_, 0, none⟩ 1 1 [.int .i64 (y.length : Int), .int .u64 (FW y 0 : Int), .int .u64 (FW y 1 : Int), .int .u64 (FW y 2 : Int), .int .u64 (FW y 3 : Int), .int .u64 (OW y 0 : Int), .int .u64 (OW y 1 : Int), .int .u64 (OW y 2 : Int), .int .u64 (OW y 3 : Int), .slice none 0 0] rfl rfl (World.news_of_block (cs := #[.int .i64 (y.length : Int), .int .u64 (FW y 0 : Int), .int .u64 (FW y 1 : Int), .int .u64 (FW y 2 : Int), .int .u64 (FW y 3 : Int), .int .u64 (OW y 0 : Int), .int .u64 (OW y 1 : Int), .int .u64 (OW y 2 : Int), .int .u64 (OW y 3 : Int), .slice none 0 0]) (t := 62) (fr := (0, 0)) (alloc_get _ _)) (by simp [Value.oneCell']) (by unfold maxLen; omega) (by omega) (by simp; omega) ?_; intro v8 w8 o8 g8 _)
      obtain ⟨p8, k8, rfl⟩ := shapeQ1 o8
      have HZ : Hid (w8.ownsRow w2.heap.size 62 10 (.slice p8 (i + 1) k8) (i + 1) (tes (afZ r (L.take (i + 1)))) ∧ Below w2.heap.size w2 w8) := by
        refine ⟨?_, (belA hB5 _).grown g8 (by simp; omega) (fun k e => (o5.lt k e).1)⟩
        rw [HT.out, tes_snoc]
        exact o8
      clear o5 hB5 o8 g8 HO HT HWR
      go_wp2_with fail
      go_roundw
      case rel => exact ⟨i + 1, by go_num, by omega, HZ⟩
      case measure => simp [intOf]; omega
    · have j1 : ¬ (i : Int) < (n : Int) := by omega
      obtain rfl : i = n := by omega
      have et : L.take i = L := List.take_of_length_le (by rw [HN.out.1]; exact Nat.le_refl _)
      rw [et] at ho
      obtain ⟨-, hcb⟩ := HK.out wr hB
      have hln : (afZ r L).length = i := by rw [afZ_len]; exact HN.out.1
      have HF := formed_any b (afZ r L) i p4 k4 wr hln (by omega) (IRZ_own ho hln) (fun z hz => by
        unfold afZ at hz
        obtain ⟨c, hc, rfl⟩ := List.mem_map.1 hz
        exact ⟨IRK_nil _ _, Nat.zero_le _, good_wtT c r (HN.out.2.1 c hc) HN.out.2.2, fun x hx => by cases hx⟩)
      rw [afZ_cont] at HF
      have HBr : Hid (Below w2.heap.size w2 wr) := hB
      clear ho hB et hln
      go_wp2_with fail
      refine HF.mono ?_
      rintro e w3 ⟨hb3, ⟨hle, V3, rfl, sv3⟩ | ⟨hgt, rfl⟩⟩
      · obtain ⟨XX, hXX⟩ : ∃ X, ordT (topC (stl (afX r L))) = X := ⟨_, rfl⟩
        obtain ⟨p3, k3, rfl⟩ := sv3.shape
        rw [hXX] at sv3 ⊢
        obtain ⟨m3, hm3⟩ : ∃ m, XX.length = m := ⟨_, rfl⟩
        rw [hm3] at sv3 ⊢
        have hg3 := keepblk3 (bel0 HBr.out hb3) HA.out.1
        obtain ⟨hcR, hfR⟩ := cells_block hg3
        have hlt3 : w.heap.size < wr.heap.size := Nat.lt_of_lt_of_le HA.out.2.2 HBr.out.size
        have HP : Hid (Below w.heap.size w (((w3.setCell ⟨w.heap.size, 0, none⟩ (.int .i64 b)).setCell ⟨w.heap.size, 1, none⟩ (.slice p3 m3 k3)).setCell ⟨w.heap.size, 2, none⟩ (.bool false)) ∧ (((w3.setCell ⟨w.heap.size, 0, none⟩ (.int .i64 b)).setCell ⟨w.heap.size, 1, none⟩ (.slice p3 m3 k3)).setCell ⟨w.heap.size, 2, none⟩ (.bool false)).heap[w.heap.size]? = some (.cells #[.int .i64 b, .slice p3 m3 k3, .bool false] 26 (0, 0)) ∧ SPL (((w3.setCell ⟨w.heap.size, 0, none⟩ (.int .i64 b)).setCell ⟨w.heap.size, 1, none⟩ (.slice p3 m3 k3)).setCell ⟨w.heap.size, 2, none⟩ (.bool false)) w.heap.size (.slice p3 m3 k3) XX) := ⟨(((bel0 HA.out.2.1 (bel0 HBr.out hb3)).setCell (Nat.le_refl _) _).setCell (Nat.le_refl _) _).setCell (Nat.le_refl _) _, put3w _ _ _ hg3, (sv3.kept (gr3 _ _ _ _ _) hlt3).base (Nat.le_of_lt hlt3)⟩
        have HQ : Hid (szC (topC (stl (afX r L))) ≤ 128 ∧ ordT (topC (stl (afX r L))) = XX) := ⟨hle, hXX⟩
        clear hg3 sv3 hb3 hcb HF hle hXX hm3
        go_wp2_with fail
        refine bodyPost_ret (v := .agg #[.int .i64 b, .slice p3 m3 k3, .bool false]) (res_space _ _ w.heap.size _ _ _ Tryz.results32 rfl HP.out.2.1) rfl ?_
        exact ⟨HP.out.1, .inl ⟨HQ.out.1, _, rfl, by rw [HQ.out.2]; exact HP.out.2.2⟩⟩
      · exact ⟨rfl, bel0 HA.out.2.1 (bel0 HBr.out hb3), .inr ⟨hgt, rfl⟩⟩
end Go.Proofs.YtekjbpemaohipaaGreatDoor
namespace Go.Proofs.YtekjbpemaohipaaGreatDoor
open Go.RowKit Go.Shelf
def afE (b lim : Int) (Ts : List (List UInt8 × List (List UInt8))) (r : List UInt8) : Int := if (!(b == 0) && (b == (r.length : Int))) = false then 11 else if xpE b lim Ts = 0 then (if szC (topC (stl (afX r (xpL b lim Ts)))) ≤ 128 then 0 else 3) else xpE b lim Ts
def afB (b lim : Int) (Ts : List (List UInt8 × List (List UInt8))) (r : List UInt8) : Int := if afE b lim Ts r = 0 then b else 0
def afT (b lim : Int) (Ts : List (List UInt8 × List (List UInt8))) (r : List UInt8) : List (List UInt8 × List (List UInt8)) := if afE b lim Ts r = 0 then ordT (topC (stl (afX r (xpL b lim Ts)))) else []
def AFR (b lim : Int) (Ts : List (List UInt8 × List (List UInt8))) (r : List UInt8) (B E : Int) (T : List (List UInt8 × List (List UInt8))) : Prop := afB b lim Ts r = B ∧ afE b lim Ts r = E ∧ afT b lim Ts r = T
theorem af_no {b lim : Int} {Ts : List (List UInt8 × List (List UInt8))} {r : List UInt8} {E : Int} (h : afE b lim Ts r = E) (hE : ¬ E = 0) : AFR b lim Ts r 0 E [] := by
  refine ⟨?_, h, ?_⟩
  · unfold afB; rw [h, if_neg hE]
  · unfold afT; rw [h, if_neg hE]
theorem af_fit {b lim : Int} {Ts : List (List UInt8 × List (List UInt8))} {r : List UInt8} (h : (!(b == 0) && (b == (r.length : Int))) = false) : AFR b lim Ts r 0 11 [] := af_no (by unfold afE; rw [if_pos h]) (by decide)
theorem af_xp {b lim : Int} {Ts : List (List UInt8 × List (List UInt8))} {r : List UInt8} (h : (!(b == 0) && (b == (r.length : Int))) = true) (hx : ¬ xpE b lim Ts = 0) : AFR b lim Ts r 0 (xpE b lim Ts) [] := af_no (by
  have hnf : ¬ ((!(b == 0) && (b == (r.length : Int))) = false) := by rw [h]; simp
  unfold afE; rw [if_neg hnf, if_neg hx]) hx
theorem af_big {b lim : Int} {Ts : List (List UInt8 × List (List UInt8))} {r : List UInt8} (h : (!(b == 0) && (b == (r.length : Int))) = true) (hx : xpE b lim Ts = 0) (hs : ¬ szC (topC (stl (afX r (xpL b lim Ts)))) ≤ 128) : AFR b lim Ts r 0 3 [] := af_no (by
  have hnf : ¬ ((!(b == 0) && (b == (r.length : Int))) = false) := by rw [h]; simp
  unfold afE; rw [if_neg hnf, if_pos hx, if_neg hs]) (by decide)
theorem af_ok {b lim : Int} {Ts : List (List UInt8 × List (List UInt8))} {r : List UInt8} (h : (!(b == 0) && (b == (r.length : Int))) = true) (hx : xpE b lim Ts = 0) (hs : szC (topC (stl (afX r (xpL b lim Ts)))) ≤ 128) : AFR b lim Ts r b 0 (ordT (topC (stl (afX r (xpL b lim Ts))))) := by
  have hnf : ¬ ((!(b == 0) && (b == (r.length : Int))) = false) := by rw [h]; simp
  have e : afE b lim Ts r = 0 := by unfold afE; rw [if_neg hnf, if_pos hx, if_pos hs]
  exact ⟨by unfold afB; rw [if_pos e], e, by unfold afT; rw [if_pos e]⟩
theorem xpG_ok {lim : Nat} : ∀ (Ts : List (List UInt8 × List (List UInt8))) (out R : List (List UInt8)), gdS Ts → (∀ x ∈ out, good x = true) → out.length ≤ lim → exE splT lim out Ts = some R → (∀ x ∈ R, good x = true) ∧ R.length ≤ lim
  | [], out, R, _, g, h, e => by
    injection e with e
    subst e
    exact ⟨g, h⟩
  | t :: r, out, R, gt, g, h, e => by
    unfold exE at e
    split at e
    · rename_i ho
      obtain ⟨t1, t3⟩ := gt t List.mem_cons_self
      refine xpG_ok r _ R (fun x hx => gt x (List.mem_cons_of_mem _ hx)) (fun x hx => ?_) ?_ e
      · rcases List.mem_append.1 hx with hx | hx
        · exact g x hx
        · exact (gdW_exT t.2 [t.1] (fun y hy => by rw [List.mem_singleton] at hy; subst hy; exact ⟨t1, rfl⟩) t3 x hx).1
      · rw [List.length_append]
        exact exO_len splT ho
    · cases e
theorem xpG {b lim : Int} {Ts : List (List UInt8 × List (List UInt8))} (h : gdS Ts) : (∀ x ∈ xpL b lim Ts, good x = true) ∧ (xpL b lim Ts).length ≤ 2048 := by
  unfold xpL
  split
  · exact ⟨(fun x hx => by cases hx), Nat.zero_le _⟩
  · split
    · exact ⟨(fun x hx => by cases hx), Nat.zero_le _⟩
    · rename_i h2
      cases hx : exE splT lim.toNat [] Ts with
      | none => exact ⟨(fun x hx => by cases hx), Nat.zero_le _⟩
      | some R =>
        obtain ⟨h3, h4⟩ := xpG_ok Ts [] R h (fun x hx => by cases hx) (Nat.zero_le _) hx
        exact ⟨h3, by show R.length ≤ 2048; omega⟩
set_option maxRecDepth 100000 in
set_option maxHeartbeats 8000000 in
theorem sAfter_any (b lim : Int) (A : List (List UInt8 × List (List UInt8))) (r : List UInt8) (V1 : Value) (w : World) (h1 : SPL w 0 V1 A) (hs1 : szC A ≤ 128) (hg : gdS A) (gr : good r = true) :
    Calls Tryz.prog 9 #[.agg #[.int .i64 b, V1, .bool false], .agg #[.int .i64 (r.length : Int), .int .u64 (FW r 0 : Int), .int .u64 (FW r 1 : Int), .int .u64 (FW r 2 : Int), .int .u64 (FW r 3 : Int), .int .u64 (OW r 0 : Int), .int .u64 (OW r 1 : Int), .int .u64 (OW r 2 : Int), .int .u64 (OW r 3 : Int)], .int .i64 lim] w fun e w' => ∃ V, e = .returned (.tuple #[.agg #[.int .i64 (afB b lim A r), V, .bool false], .int .i64 (afE b lim A r)]) ∧ SPL w' 0 V (afT b lim A r) ∧ Below w.heap.size w w' := by
  obtain ⟨p1, k1, rfl⟩ := h1.shape
  obtain ⟨n1, hn1⟩ : ∃ n, A.length = n := ⟨_, rfl⟩
  rw [hn1] at h1 ⊢
  obtain ⟨w2, hw2⟩ : ∃ w2, (((w.alloc (.cells #[.int .i64 b, .slice p1 n1 k1, .bool false] 26 (0, 0))).alloc (.cells #[.int .i64 (r.length : Int), .int .u64 (FW r 0 : Int), .int .u64 (FW r 1 : Int), .int .u64 (FW r 2 : Int), .int .u64 (FW r 3 : Int), .int .u64 (OW r 0 : Int), .int .u64 (OW r 1 : Int), .int .u64 (OW r 2 : Int), .int .u64 (OW r 3 : Int)] 34 (0, 0))).alloc (.cells #[.int .i64 0, .slice none 0 0, .bool false] 26 (0, 0))) = w2 := ⟨_, rfl⟩
  have hB2 : Below w.heap.size w w2 := by rw [← hw2]; exact belA (belA (belA (Below.refl _ _) _) _) _
  have d1 : w2.heap[w.heap.size]? = some (.cells #[.int .i64 b, .slice p1 n1 k1, .bool false] 26 (0, 0)) := by rw [← hw2, Below.heap_alloc _ _ _ (by simp <;> omega)]; exact alw_0 _ _ _
  have d2 : w2.heap[w.heap.size + 1]? = some (.cells #[.int .i64 (r.length : Int), .int .u64 (FW r 0 : Int), .int .u64 (FW r 1 : Int), .int .u64 (FW r 2 : Int), .int .u64 (FW r 3 : Int), .int .u64 (OW r 0 : Int), .int .u64 (OW r 1 : Int), .int .u64 (OW r 2 : Int), .int .u64 (OW r 3 : Int)] 34 (0, 0)) := by rw [← hw2, Below.heap_alloc _ _ _ (by simp <;> omega)]; exact alw_1 _ _ _
  have d3 : w2.heap[w.heap.size + 1 + 1]? = some (.cells #[.int .i64 0, .slice none 0 0, .bool false] 26 (0, 0)) := by rw [← hw2]; have := alloc_get ((w.alloc (.cells #[.int .i64 b, .slice p1 n1 k1, .bool false] 26 (0, 0))).alloc (.cells #[.int .i64 (r.length : Int), .int .u64 (FW r 0 : Int), .int .u64 (FW r 1 : Int), .int .u64 (FW r 2 : Int), .int .u64 (FW r 3 : Int), .int .u64 (OW r 0 : Int), .int .u64 (OW r 1 : Int), .int .u64 (OW r 2 : Int), .int .u64 (OW r 3 : Int)] 34 (0, 0))) (.cells #[.int .i64 0, .slice none 0 0, .bool false] 26 (0, 0)); simpa using this
  have HK : Hid (∀ W, Below w2.heap.size w2 W → ((∀ j, W.cell? ⟨w.heap.size, j, none⟩ = (#[.int .i64 b, .slice p1 n1 k1, .bool false] : Array Value)[j]?) ∧ (∀ j, W.cell? ⟨w.heap.size + 1, j, none⟩ = (#[.int .i64 (r.length : Int), .int .u64 (FW r 0 : Int), .int .u64 (FW r 1 : Int), .int .u64 (FW r 2 : Int), .int .u64 (FW r 3 : Int), .int .u64 (OW r 0 : Int), .int .u64 (OW r 1 : Int), .int .u64 (OW r 2 : Int), .int .u64 (OW r 3 : Int)] : Array Value)[j]?))) := fun W hW => ⟨(cells_block (keepblk3 hW d1)).1, (cells_block (keepblk3 hW d2)).1⟩
  have HRS : Hid (∀ W, Below w2.heap.size w2 W → W.heap[w.heap.size + 1 + 1]? = some (.cells #[.int .i64 0, .slice none 0 0, .bool false] 26 (0, 0)) ∧ Below w.heap.size w W) := fun W hW => ⟨keepblk3 hW d3, bel0 hB2 hW⟩
  have HDD : Hid (∀ W, Below w2.heap.size w2 W → W.heap[w.heap.size]? = some (.cells #[.int .i64 b, .slice p1 n1 k1, .bool false] 26 (0, 0)) ∧ W.heap[w.heap.size + 1]? = some (.cells #[.int .i64 (r.length : Int), .int .u64 (FW r 0 : Int), .int .u64 (FW r 1 : Int), .int .u64 (FW r 2 : Int), .int .u64 (FW r 3 : Int), .int .u64 (OW r 0 : Int), .int .u64 (OW r 1 : Int), .int .u64 (OW r 2 : Int), .int .u64 (OW r 3 : Int)] 34 (0, 0))) := fun W hW => ⟨keepblk3 hW d1, keepblk3 hW d2⟩
  have HLT : Hid (w.heap.size + 1 + 1 < w2.heap.size) := lt_of_get3 d3
  obtain ⟨q, hq⟩ : ∃ q, (!(b == 0) && (b == (r.length : Int))) = q := ⟨_, rfl⟩
  have HF : Hid (∀ W, Calls Tryz.prog 25 #[.agg #[.int .i64 b, .slice p1 n1 k1, .bool false], .int .i64 (r.length : Int)] W fun e w' => e = .returned (.bool q) ∧ Below W.heap.size W w') := fun W => by
    have h := fits_any2 b (r.length : Int) p1 n1 k1 W
    rw [hq] at h
    exact h
  have HWD : Hid (∀ W, Calls Tryz.prog 26 #[.agg #[.int .i64 (r.length : Int), .int .u64 (FW r 0 : Int), .int .u64 (FW r 1 : Int), .int .u64 (FW r 2 : Int), .int .u64 (FW r 3 : Int), .int .u64 (OW r 0 : Int), .int .u64 (OW r 1 : Int), .int .u64 (OW r 2 : Int), .int .u64 (OW r 3 : Int)]] W fun e w' => e = .returned (.int .i64 (r.length : Int)) ∧ Below W.heap.size W w') := fun W => widthA r W gr
  have HXP : Hid (∀ W, Below w2.heap.size w2 W → Calls Tryz.prog 30 #[.agg #[.int .i64 b, .slice p1 n1 k1, .bool false], .int .i64 lim] W fun e w' => ∃ v, e = .returned (.tuple #[v, .int .i64 (xpE b lim A)]) ∧ w'.ownsRow W.heap.size 34 9 v (xpL b lim A).length (ces (xpL b lim A)) ∧ Below W.heap.size W w') := fun W hW => sExpand_any b lim A 0 _ W (h1.below (bel0 hB2 hW)) hs1 hg
  obtain ⟨gL, hL⟩ := xpG (b := b) (lim := lim) hg
  obtain ⟨aB, haB⟩ : ∃ x, afB b lim A r = x := ⟨_, rfl⟩
  obtain ⟨aE, haE⟩ : ∃ x, afE b lim A r = x := ⟨_, rfl⟩
  obtain ⟨aT, haT⟩ : ∃ x, afT b lim A r = x := ⟨_, rfl⟩
  have cfit := af_fit (b := b) (lim := lim) (Ts := A) (r := r)
  have cxp := af_xp (b := b) (lim := lim) (Ts := A) (r := r)
  have cbig := af_big (b := b) (lim := lim) (Ts := A) (r := r)
  have cok := af_ok (b := b) (lim := lim) (Ts := A) (r := r)
  unfold AFR at cfit cxp cbig cok
  rw [haB, haE, haT] at cfit cxp cbig cok ⊢
  rw [hq] at cfit cxp cbig cok
  obtain ⟨E, hE⟩ : ∃ B, xpE b lim A = B := ⟨_, rfl⟩
  obtain ⟨L, hLL⟩ : ∃ B, xpL b lim A = B := ⟨_, rfl⟩
  rw [hE] at HXP cxp cbig cok
  rw [hLL] at HXP cbig cok
  rw [hLL] at gL hL
  obtain ⟨n, hn⟩ : ∃ n, L.length = n := ⟨_, rfl⟩
  rw [hn] at HXP hL
  have HC : Hid ((q = false → aB = 0 ∧ aE = 11 ∧ aT = []) ∧ (q = true → ¬ E = 0 → aB = 0 ∧ aE = E ∧ aT = []) ∧ (q = true → E = 0 → ¬ szC (topC (stl (afX r L))) ≤ 128 → aB = 0 ∧ aE = 3 ∧ aT = []) ∧ (q = true → E = 0 → szC (topC (stl (afX r L))) ≤ 128 → aB = b ∧ aE = 0 ∧ aT = ordT (topC (stl (afX r L))))) := ⟨cfit, cxp, cbig, cok⟩
  have HN : Hid (L.length = n ∧ n ≤ 4096 ∧ (∀ x ∈ L, good x = true) ∧ good r = true) := ⟨hn, by omega, gL, gr⟩
  have hmf : ∀ (fn : Fn) (first cap : Array Value) (w : World), (Instr.makeFunc fn first cap).run Tryz.prog w = .ok (.func fn first cap) w := fun _ _ _ _ => rfl
  have hk0 := HK.out w2 (Below.refl _ _)
  have hk0d : ((∀ j, w2.drew.cell? ⟨w.heap.size, j, none⟩ = (#[.int .i64 b, .slice p1 n1 k1, .bool false] : Array Value)[j]?) ∧ (∀ j, w2.drew.cell? ⟨w.heap.size + 1, j, none⟩ = (#[.int .i64 (r.length : Int), .int .u64 (FW r 0 : Int), .int .u64 (FW r 1 : Int), .int .u64 (FW r 2 : Int), .int .u64 (FW r 3 : Int), .int .u64 (OW r 0 : Int), .int .u64 (OW r 1 : Int), .int .u64 (OW r 2 : Int), .int .u64 (OW r 3 : Int)] : Array Value)[j]?)) := hk0
  obtain ⟨hka, hkb⟩ := hk0
  have hk0 : ((∀ j, w2.cell? ⟨w.heap.size, j, none⟩ = (#[.int .i64 b, .slice p1 n1 k1, .bool false] : Array Value)[j]?) ∧ (∀ j, w2.cell? ⟨w.heap.size + 1, j, none⟩ = (#[.int .i64 (r.length : Int), .int .u64 (FW r 0 : Int), .int .u64 (FW r 1 : Int), .int .u64 (FW r 2 : Int), .int .u64 (FW r 3 : Int), .int .u64 (OW r 0 : Int), .int .u64 (OW r 1 : Int), .int .u64 (OW r 2 : Int), .int .u64 (OW r 3 : Int)] : Array Value)[j]?)) := ⟨hka, hkb⟩
  clear hB2 d1 d2 d3 h1 hs1 hg gr hn1 hq haB haE haT cfit cxp cbig cok hE hLL hn gL hL
  cases q with
  | false =>
    obtain ⟨e1, e2, e3⟩ := HC.out.1 rfl
    subst e1 e2 e3
    go_enter Tryz.func9, Tryz.ntmps9
    go_upto_region 1 with fail
    clear hw2 hka hkb
    go_region_held3 (fun W => ((∀ j, W.cell? ⟨w.heap.size, j, none⟩ = (#[.int .i64 b, .slice p1 n1 k1, .bool false] : Array Value)[j]?) ∧ (∀ j, W.cell? ⟨w.heap.size + 1, j, none⟩ = (#[.int .i64 (r.length : Int), .int .u64 (FW r 0 : Int), .int .u64 (FW r 1 : Int), .int .u64 (FW r 2 : Int), .int .u64 (FW r 3 : Int), .int .u64 (OW r 0 : Int), .int .u64 (OW r 1 : Int), .int .u64 (OW r 2 : Int), .int .u64 (OW r 3 : Int)] : Array Value)[j]?))) (first | with_reducible exact hk0 | with_reducible exact hk0d | with_reducible exact hk5 | with_reducible exact hk6) (first | (go_at_call 25; refine (HF.out _).mono ?_; rintro e w6 ⟨rfl, hb6⟩; have hb6' : Below w2.heap.size w2 w6 := bel0 hb5' hb6; have hk6 := HK.out w6 hb6') | (go_at_call 26; refine (HWD.out _).mono ?_; rintro e w5 ⟨rfl, hb5⟩; have hb5' : Below w2.heap.size w2 w5 := (by first | exact hb5 | exact und hb5); have hk5 := HK.out w5 hb5'))
    obtain ⟨k3, hB1⟩ := HRS.out w6 hb6'
    obtain ⟨hc3, hf3⟩ := cells_block k3
    have HP : Hid ((((w6.setCell ⟨w.heap.size + 1 + 1, 0, none⟩ (.int .i64 0)).setCell ⟨w.heap.size + 1 + 1, 1, none⟩ (.slice none 0 0)).setCell ⟨w.heap.size + 1 + 1, 2, none⟩ (.bool false)).heap[w.heap.size + 1 + 1]? = some (.cells #[.int .i64 0, .slice none 0 0, .bool false] 26 (0, 0)) ∧ Below w.heap.size w (((w6.setCell ⟨w.heap.size + 1 + 1, 0, none⟩ (.int .i64 0)).setCell ⟨w.heap.size + 1 + 1, 1, none⟩ (.slice none 0 0)).setCell ⟨w.heap.size + 1 + 1, 2, none⟩ (.bool false))) := ⟨put3w _ _ _ k3, ((hB1.setCell (by simp; omega) _).setCell (by simp; omega) _).setCell (by simp; omega) _⟩
    clear hk0 hk0d hk5 hk6 k3 hB1
    go_wp2_with fail
    refine bodyPost_ret (v := .tuple #[.agg #[.int .i64 0, .slice none 0 0, .bool false], .int .i64 11]) (res_space2 _ _ (w.heap.size + 1 + 1) _ _ _ Tryz.results9 rfl HP.out.1) rfl ?_
    exact ⟨_, rfl, SPL_nil _ _, HP.out.2⟩
  | true =>
    go_enter Tryz.func9, Tryz.ntmps9
    go_upto_region 1 with fail
    clear hw2 hka hkb
    go_region_held3 (fun W => ((∀ j, W.cell? ⟨w.heap.size, j, none⟩ = (#[.int .i64 b, .slice p1 n1 k1, .bool false] : Array Value)[j]?) ∧ (∀ j, W.cell? ⟨w.heap.size + 1, j, none⟩ = (#[.int .i64 (r.length : Int), .int .u64 (FW r 0 : Int), .int .u64 (FW r 1 : Int), .int .u64 (FW r 2 : Int), .int .u64 (FW r 3 : Int), .int .u64 (OW r 0 : Int), .int .u64 (OW r 1 : Int), .int .u64 (OW r 2 : Int), .int .u64 (OW r 3 : Int)] : Array Value)[j]?))) (first | with_reducible exact hk0 | with_reducible exact hk0d | with_reducible exact hk5 | with_reducible exact hk6) (first | (go_at_call 25; refine (HF.out _).mono ?_; rintro e w6 ⟨rfl, hb6⟩; have hb6' : Below w2.heap.size w2 w6 := bel0 hb5' hb6; have hk6 := HK.out w6 hb6') | (go_at_call 26; refine (HWD.out _).mono ?_; rintro e w5 ⟨rfl, hb5⟩; have hb5' : Below w2.heap.size w2 w5 := (by first | exact hb5 | exact und hb5); have hk5 := HK.out w5 hb5'))
    obtain ⟨g1, g2⟩ := hk6
    have HB6 : Hid (Below w2.heap.size w2 w6) := hb6'
    clear hk0 hk0d hk5 hb5 hb6 hb5' hb6'
    go_wp2_with fail
    refine (HXP.out w6 HB6.out).mono ?_
    rintro e w7 ⟨v7, rfl, o7, hb7⟩
    obtain ⟨p7, k7, rfl⟩ := shapeQ1 o7
    have hb7' : Below w2.heap.size w2 w7 := bel0 HB6.out hb7
    have HW : Hid (w7.ownsRow w6.heap.size 34 9 (.slice p7 n k7) n (ces L) ∧ Below w2.heap.size w2 (w7.alloc (.cells #[.slice p7 n k7] 60 (0, 0)))) := ⟨o7, belA hb7' _⟩
    clear o7 hb7 hb7' g1 g2
    by_cases hE : E = 0
    · subst hE
      obtain ⟨wb, hwb⟩ : ∃ wb, w7.alloc (.cells #[.slice p7 n k7] 60 (0, 0)) = wb := ⟨_, rfl⟩
      have hbb : Below w2.heap.size w2 wb := by rw [← hwb]; exact HW.out.2
      have hg7 : wb.heap[w7.heap.size]? = some (.cells #[.slice p7 n k7] 60 (0, 0)) := by rw [← hwb]; exact alloc_get _ _
      have hirc : IRC wb p7 L := (IRC_own HW.out.1 HN.out.1).later (by rw [← hwb]; exact belA (Below.refl _ _) _)
      have hlb : w.heap.size + 1 + 1 < wb.heap.size := Nat.lt_of_lt_of_le HLT.out hbb.size
      have HAF : ∀ X, Below wb.heap.size wb X → Calls Tryz.prog 32 #[.pointer (some ⟨w7.heap.size, 0, none⟩), .pointer (some ⟨w.heap.size + 1, 0, none⟩), .pointer (some ⟨w.heap.size, 0, none⟩)] X fun e w' => FRL X w' b (afX r L) e := fun X hX => after1_any b r L n p7 k7 w7.heap.size (w.heap.size + 1) w.heap.size (.slice p1 n1 k1) X HN.out.1 HN.out.2.1 (keepblk3 hX hg7) (HDD.out X (bel0 hbb hX)).2 (HDD.out X (bel0 hbb hX)).1 (hirc.later hX) HN.out.2.2.1 HN.out.2.2.2
      obtain ⟨ok, HT, HGV⟩ : ∃ ok : Bool, (aB = (if ok = true then b else 0) ∧ aE = (if ok = true then 0 else 3) ∧ aT = (if ok = true then ordT (topC (stl (afX r L))) else [])) ∧ Calls Tryz.prog 31 #[.func (.func 32) #[] #[.pointer (some ⟨w7.heap.size, 0, none⟩), .pointer (some ⟨w.heap.size + 1, 0, none⟩), .pointer (some ⟨w.heap.size, 0, none⟩)]] wb fun e w' => ∃ V, e = .returned (.tuple #[.agg #[.int .i64 (if ok = true then b else 0), V, .bool false], .int .i64 (if ok = true then 0 else 3)]) ∧ SPL w' wb.heap.size V (if ok = true then ordT (topC (stl (afX r L))) else []) ∧ Below wb.heap.size wb w' := by
        by_cases hz : szC (topC (stl (afX r L))) ≤ 128
        · obtain ⟨e1, e2, e3⟩ := HC.out.2.2.2 (by trivial) (by trivial) hz
          refine ⟨true, ⟨e1, e2, e3⟩, giveA b _ true _ _ _ wb (fun X hX => (HAF X hX).mono ?_)⟩
          rintro e w' ⟨h1, ⟨-, V, h3, h4⟩ | ⟨h2, -⟩⟩
          · exact ⟨h1, .inl ⟨rfl, V, h3, h4⟩⟩
          · omega
        · obtain ⟨e1, e2, e3⟩ := HC.out.2.2.1 (by trivial) (by trivial) hz
          refine ⟨false, ⟨e1, e2, e3⟩, giveA b [] false _ _ _ wb (fun X hX => (HAF X hX).mono ?_)⟩
          rintro e w' ⟨h1, ⟨h2, -⟩ | ⟨-, h3⟩⟩
          · omega
          · exact ⟨h1, .inr ⟨rfl, h3⟩⟩
      obtain ⟨e1, e2, e3⟩ := HT
      rw [← e1, ← e2, ← e3] at HGV
      clear HAF e1 e2 e3 hg7 hirc HC
      obtain ⟨m, hm⟩ : ∃ m, aT.length = m := ⟨_, rfl⟩
      have HBB : Hid (Below w2.heap.size w2 wb ∧ w.heap.size + 1 + 1 < wb.heap.size) := ⟨hbb, hlb⟩
      clear hbb hlb
      go_wp2_with fail
      refine HGV.mono ?_
      rintro e w8 ⟨V8, rfl, sv8, hb8⟩
      obtain ⟨p8, k8, rfl⟩ := sv8.shape
      rw [hm] at sv8 ⊢
      obtain ⟨k3, hB1⟩ := HRS.out w8 (bel0 HBB.out.1 hb8)
      obtain ⟨hc3, hf3⟩ := cells_block k3
      have HP : Hid ((((w8.setCell ⟨w.heap.size + 1 + 1, 0, none⟩ (.int .i64 aB)).setCell ⟨w.heap.size + 1 + 1, 1, none⟩ (.slice p8 m k8)).setCell ⟨w.heap.size + 1 + 1, 2, none⟩ (.bool false)).heap[w.heap.size + 1 + 1]? = some (.cells #[.int .i64 aB, .slice p8 m k8, .bool false] 26 (0, 0)) ∧ Below w.heap.size w (((w8.setCell ⟨w.heap.size + 1 + 1, 0, none⟩ (.int .i64 aB)).setCell ⟨w.heap.size + 1 + 1, 1, none⟩ (.slice p8 m k8)).setCell ⟨w.heap.size + 1 + 1, 2, none⟩ (.bool false)) ∧ SPL (((w8.setCell ⟨w.heap.size + 1 + 1, 0, none⟩ (.int .i64 aB)).setCell ⟨w.heap.size + 1 + 1, 1, none⟩ (.slice p8 m k8)).setCell ⟨w.heap.size + 1 + 1, 2, none⟩ (.bool false)) 0 (.slice p8 m k8) aT) := ⟨put3w _ _ _ k3, ((hB1.setCell (by simp; omega) _).setCell (by simp; omega) _).setCell (by simp; omega) _, (sv8.kept (gr3 _ _ _ _ _) HBB.out.2).base (Nat.zero_le _)⟩
      clear k3 hB1 sv8 hb8 HGV hwb
      go_wp2_with fail
      refine bodyPost_ret (v := .tuple #[.agg #[.int .i64 aB, .slice p8 m k8, .bool false], .int .i64 aE]) (res_space2 _ _ (w.heap.size + 1 + 1) _ _ _ Tryz.results9 rfl HP.out.1) rfl ?_
      exact ⟨_, rfl, HP.out.2.2, HP.out.2.1⟩
    · obtain ⟨e1, e2, e3⟩ := HC.out.2.1 (by trivial) hE
      subst e1 e3
      have HE2 : Hid (aE = E) := e2
      clear e2
      have hEn : (E != 0) = true := by rw [bne_iff_ne]; exact hE
      obtain ⟨k3, hB1⟩ := HRS.out _ HW.out.2
      obtain ⟨hc3, hf3⟩ := cells_block k3
      have HP : Hid (((((w7.alloc (.cells #[.slice p7 n k7] 60 (0, 0))).setCell ⟨w.heap.size + 1 + 1, 0, none⟩ (.int .i64 0)).setCell ⟨w.heap.size + 1 + 1, 1, none⟩ (.slice none 0 0)).setCell ⟨w.heap.size + 1 + 1, 2, none⟩ (.bool false)).heap[w.heap.size + 1 + 1]? = some (.cells #[.int .i64 0, .slice none 0 0, .bool false] 26 (0, 0)) ∧ Below w.heap.size w ((((w7.alloc (.cells #[.slice p7 n k7] 60 (0, 0))).setCell ⟨w.heap.size + 1 + 1, 0, none⟩ (.int .i64 0)).setCell ⟨w.heap.size + 1 + 1, 1, none⟩ (.slice none 0 0)).setCell ⟨w.heap.size + 1 + 1, 2, none⟩ (.bool false))) := ⟨put3w _ _ _ k3, ((hB1.setCell (by simp; omega) _).setCell (by simp; omega) _).setCell (by simp; omega) _⟩
      clear k3 hB1
      go_wp2_with fail
      refine bodyPost_ret (v := .tuple #[.agg #[.int .i64 0, .slice none 0 0, .bool false], .int .i64 E]) (res_space2 _ _ (w.heap.size + 1 + 1) _ _ _ Tryz.results9 rfl HP.out.1) rfl ?_
      exact ⟨.slice none 0 0, by rw [HE2.out], SPL_nil _ _, HP.out.2⟩
end Go.Proofs.YtekjbpemaohipaaGreatDoor
namespace Go.Proofs.YtekjbpemaohipaaGreatDoor
open Go.RowKit Go.Shelf
/-- append of no elements, whatever room the slice says it has -/
theorem rts_one (L : List ZT) : ∀ v ∈ rts L, v.oneCell' = true := fun v hv => by
  obtain ⟨z, _, hz⟩ := List.mem_flatMap.1 hv
  simp only [rtc, List.mem_cons, List.not_mem_nil, or_false] at hz
  rcases hz with rfl | rfl <;> rfl
theorem rts_news {W : World} {ad : Addr} {Z : List ZT} (h : IRR W (some ad) Z) : ∀ j u, (rts Z)[j]? = some u → W.cell? (ad.add j) = some u := fun j u hu => by
  have hm : j % 2 < 2 := Nat.mod_lt _ (by omega)
  have e := rts_get Z (j / 2) (j % 2) hm
  rw [show j / 2 * 2 + j % 2 = j by omega, hu] at e
  cases hz : Z[j / 2]? with
  | none => rw [hz] at e; cases e
  | some z =>
    rw [hz] at e
    obtain ⟨g, o0, e1, c0, c1⟩ := h W (Below.refl _ _) _ z hz
    injection e1 with e1
    subst e1
    have ea : (⟨g, o0, none⟩ : Addr).add j = ⟨g, o0 + j, none⟩ := by simp [Addr.add]
    rw [ea]
    rcases (show j % 2 = 0 ∨ j % 2 = 1 by omega) with h0 | h0
    · rw [h0] at e
      rw [show o0 + j = o0 + j / 2 * 2 by omega, c0]
      exact e.symm
    · rw [h0] at e
      rw [show o0 + j = o0 + j / 2 * 2 + 1 by omega, c1]
      exact e.symm
theorem frm_ord {X : List (List UInt8 × List (List UInt8))} (h : ∀ t ∈ X, t.2.Pairwise (fun a b => leB a b = true)) : frmD (topC X) = ordT (topC X) := by
  unfold frmD ordT
  congr 2
  refine List.map_congr_left (fun t ht => ?_)
  rcases topCF_mem X [] t ht with h1 | h1
  · cases h1
  · rw [srtT_id (h t h1)]
end Go.Proofs.YtekjbpemaohipaaGreatDoor
namespace Go.Proofs.YtekjbpemaohipaaGreatDoor
open Go.RowKit Go.Shelf
end Go.Proofs.YtekjbpemaohipaaGreatDoor
namespace Go.Proofs.YtekjbpemaohipaaGreatDoor
open Go.RowKit Go.Shelf
theorem jn_ok (b b2 : Int) (A C : List (List UInt8 × List (List UInt8))) (hg1 : gdC A) (hg2 : gdC C) : gdC (jnT b b2 A C) ∧ szC (jnT b b2 A C) ≤ 128 := by
  unfold jnT
  split
  · rename_i h
    have h2 : szC (topC (A ++ C)) ≤ 128 := by
      unfold jnE at h
      split at h
      · exact absurd h (by decide)
      · split at h
        · assumption
        · exact absurd h (by decide)
    refine ⟨gdC_ord (gdC_top (fun t ht => ?_)), by rw [szC_ord]; exact h2⟩
    rcases List.mem_append.1 ht with ht | ht
    · exact hg1 t ht
    · exact hg2 t ht
  · exact ⟨(fun t h => by cases h), Nat.zero_le _⟩
theorem prB_ge (b : Int) (l : List UInt8) : 0 ≤ prB b l := by
  unfold prB
  split
  · rename_i h
    have := (prE_zero h).1
    omega
  · exact Int.le_refl _
end Go.Proofs.YtekjbpemaohipaaGreatDoor
