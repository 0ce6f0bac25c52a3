import Derived.Test.YtmblloddhpcdeacI1
import Derived.Laws.EntriesVeiled
namespace Go.Proofs.Ytmblloddhpcdeac
open Go.RowKit Go.Shelf

attribute [local go_sem] Oper.semAt_some

/-- all but one of the old blocks stand -/
def Kx (j x : Nat) (X W : World) : Prop := x ≤ W.heap.size ∧ ∀ b, b < x → b ≠ j → W.heap[b]? = X.heap[b]?
theorem Kx.put {j x l : Nat} {X W : World} (h : Kx j x X W) (hl : x ≤ l) (o : Obj) : Kx j x X (W.putObj l o) := ⟨by simpa using h.1, fun b hb hne => (World.putObj_heap_other (by omega)).trans (h.2 b hb hne)⟩
theorem Kx.alloc {j x : Nat} {X W : World} (h : Kx j x X W) (o : Obj) : Kx j x X (W.alloc o) := ⟨by have := h.1; simp; omega, fun b hb hne => (Below.heap_alloc _ _ _ (by have := h.1; omega)).trans (h.2 b hb hne)⟩
theorem Kx.set {j x b p : Nat} {v : Value} {X W : World} (h : Kx j x X W) (hb : b = j ∨ x ≤ b) : Kx j x X (W.setCell ⟨b, p, none⟩ v) := ⟨by have := h.1; simpa [World.setCell] using this, fun c hc hne => (Below.heap_setCell _ _ _ _ (fun e => by have e' : c = b := e; omega)).trans (h.2 c hc hne)⟩
theorem Kx.grow {j x : Nat} {X W W' : World} {row : Option Nat} (h : Kx j x X W) (hg : W.grownBy W' row) (hr : ∀ r, row = some r → x ≤ r) : Kx j x X W' := ⟨Nat.le_trans h.1 hg.size, fun b hb hne => (hg.block b (by have := h.1; omega) (fun e => by have := hr b e.symm; omega)).trans (h.2 b hb hne)⟩
theorem Kx.get {j x b : Nat} {X W : World} {o : Obj} (h : Kx j x X W) (hb : b < x) (hne : b ≠ j) (ho : X.heap[b]? = some o) : W.heap[b]? = some o := (h.2 b hb hne).trans ho
theorem Kx.trans2 {j x kb : Nat} {X V U : World} (h1 : Kx j x X V) (h2 : Kx kb kb V U) (hx : x ≤ kb) : Kx j x X U := ⟨Nat.le_trans hx h2.1, fun b hb hne => (h2.2 b (by omega) (by omega)).trans (h1.2 b hb hne)⟩
theorem own_cellsI {X : World} {B n c j : Nat} {q : Option Addr} {xs : List Value} {cs : Array Value} {mm : Nat × Nat} (h : X.ownsRow B 9 1 (.slice q n c) n xs) (kJ : X.heap[j]? = some (.cells cs 3 mm)) : ∃ g, ∀ i, i < n → q = some ⟨g, 0, none⟩ ∧ g < X.heap.size ∧ g ≠ j ∧ X.cell? ⟨g, i, none⟩ = xs[i]? := by
  obtain ⟨q2, g, c2, e, hq, hc⟩ := own_shapeY h
  injection e with e1 e2 e3
  subst e1
  refine ⟨g, fun i hi => ?_⟩
  obtain ⟨cs2, h1, h2⟩ := hc i hi
  exact ⟨hq i hi, lt_of_get h1, (fun e => by rw [e, kJ] at h1; cases h1), h2⟩
theorem size_put (W : World) (l : Nat) (o : Obj) : (W.putObj l o).heap.size = W.heap.size := by simp

set_option maxRecDepth 100000 in
set_option maxHeartbeats 1000000 in
theorem nested_try (s : ByteArray) (n m : Int) (T : List UInt8) (w : World) (hs : s.size ≤ maxLen) (hT0 : cubeT s.data.toList = T) (gT : good T = true) :
    Calls Try.prog 4 #[.string s, .int .i64 n, .int .i64 m] w fun e w' => e = .returned (.bool true) ∧ Below w.heap.size w w' := by
  have hT : Hid (cubeT s.data.toList = T) := hT0
  clear hT0
  obtain ⟨N0, hN0, hWn0⟩ := within_nat n 12
  obtain ⟨M0, hM0, hWm0⟩ := within_nat m 12
  obtain ⟨N, hN⟩ : ∃ N : Nat, N = N0 + 1 := ⟨_, rfl⟩
  obtain ⟨M, hM⟩ : ∃ M : Nat, M = M0 + 1 := ⟨_, rfl⟩
  obtain ⟨a, ha0⟩ := cnt_ex T N (by omega)
  obtain ⟨b, hb0⟩ := cnt_ex T M (by omega)
  have ha : Hid (cntN T N a) := ha0
  have hb : Hid (cntN T M b) := hb0
  have haN : a ≤ N := cnt_le ha0
  have hbM : b ≤ M := cnt_le hb0
  have hWn : Hid (∀ w, Calls Try.prog 21 #[.int .i64 n, .int .i64 12] w fun e w' => e = .returned (.int .i64 (N0 : Int)) ∧ w = w') := fun w => (hWn0 w).mono (fun _ _ h => ⟨h.1, h.2.symm⟩)
  have hWm : Hid (∀ w, Calls Try.prog 21 #[.int .i64 m, .int .i64 12] w fun e w' => e = .returned (.int .i64 (M0 : Int)) ∧ w = w') := fun w => (hWm0 w).mono (fun _ _ h => ⟨h.1, h.2.symm⟩)
  have hRa : Hid (∀ w, Calls Try.prog 22 #[.string ⟨T.toArray⟩, .int .i64 (N : Int)] w fun e w' => ∃ v, e = .returned v ∧ w'.ownsRow w.heap.size 9 1 v a (mL T a) ∧ Below w.heap.size w w') := fun w => rMem_D T N a w gT (by omega) (by omega) ha0
  have hRb : Hid (∀ w, Calls Try.prog 22 #[.string ⟨T.toArray⟩, .int .i64 (M : Int)] w fun e w' => ∃ v, e = .returned v ∧ w'.ownsRow w.heap.size 9 1 v b (mL T b) ∧ Below w.heap.size w w') := fun w => rMem_D T M b w gT (by omega) (by omega) hb0
  have HA : Hid (∀ W, Calls Try.prog 12 #[.int .i64 1] W fun e w' => e = .returned (cubeV [120]) ∧ Below W.heap.size W w') := fun W => allV 1 W
  have HT1 : Hid (∀ W, Calls Try.prog 13 #[cubeV [120]] W fun e w' => e = .returned (.string ⟨#[120]⟩) ∧ Below W.heap.size W w') := fun W => text_any [120] W (by decide)
  have N1 : (N0 : Int) + 1 = (N : Int) := by omega
  have N2 : IntKind.i64.wrap (N : Int) = (N : Int) := by rw [IntKind.wrap_i64]; omega
  have M1 : (M0 : Int) + 1 = (M : Int) := by omega
  have M2 : IntKind.i64.wrap (M : Int) = (M : Int) := by rw [IntKind.wrap_i64]; omega
  have HN : Hid (N = N0 + 1) := hN
  have HM : Hid (M = M0 + 1) := hM
  have hn := seq_nil
  clear hWn0 hWm0 ha0 hb0 hN hM
  obtain ⟨S, hS⟩ : ∃ S, w.heap.size = S := ⟨_, rfl⟩
  have Hs : Hid (w.heap.size = S) := hS
  refine (callsIn_wide (n := 8)).1 ?_
  refine callsIn_of_wp_marks Try.func4 rfl trivial ?_ rfl
  simp only [Try.ntmps4, List.size_toArray, List.length_cons, List.length_nil, Nat.reduceAdd, Nat.reduceSub, Array.replicate_succ, Array.replicate_zero, List.push_toArray, List.append_toArray, List.nil_append, List.cons_append]

  have kN : (((w.alloc (.cells #[.int .i64 n] 3)).alloc (.cells #[.int .i64 m] 3)).alloc (.cells #[.bool false] 4)).heap[S]? = some (.cells #[.int .i64 n] 3 (0, 0)) := by rw [← hS]; exact allocblk (allocblk (alloc_get _ _) _) _
  have kM : (((w.alloc (.cells #[.int .i64 n] 3)).alloc (.cells #[.int .i64 m] 3)).alloc (.cells #[.bool false] 4)).heap[S + 1]? = some (.cells #[.int .i64 m] 3 (0, 0)) := by
    have := alloc_get (w.alloc (.cells #[.int .i64 n] 3)) (.cells #[.int .i64 m] 3)
    simp only [World.size_alloc, hS] at this
    exact allocblk this _
  have kR : (((w.alloc (.cells #[.int .i64 n] 3)).alloc (.cells #[.int .i64 m] 3)).alloc (.cells #[.bool false] 4)).heap[S + 1 + 1]? = some (.cells #[.bool false] 4 (0, 0)) := by
    have := alloc_get ((w.alloc (.cells #[.int .i64 n] 3)).alloc (.cells #[.int .i64 m] 3)) (.cells #[.bool false] 4)
    simp only [World.size_alloc, hS] at this
    exact this
  have BB : Below w.heap.size w (((w.alloc (.cells #[.int .i64 n] 3)).alloc (.cells #[.int .i64 m] 3)).alloc (.cells #[.bool false] 4)) := belA (belA (belA (Below.refl _ _) _) _) _
  gi_wp2_with fail
  refine ⟨trivial, (callsIn_wide.2 (made_D s T _ hs hT.out)).mono ?_⟩
  rintro e w1 ⟨rfl, hb1⟩
  replace BB := bel0 BB hb1
  replace kN := keepblk hb1 kN
  replace kM := keepblk hb1 kM
  replace kR := keepblk hb1 kR
  have z1 := lt_of_get kR
  clear hb1
  unfold cubeV cv
  have kC : (w1.alloc (.cells #[.int .i64 (T.length : Int), .int .u64 (FW T 0 : Int), .int .u64 (FW T 1 : Int), .int .u64 (FW T 2 : Int), .int .u64 (FW T 3 : Int), .int .u64 (OW T 0 : Int), .int .u64 (OW T 1 : Int), .int .u64 (OW T 2 : Int), .int .u64 (OW T 3 : Int)] 26)).heap[w1.heap.size]? = some (.cells (#[.int .i64 (T.length : Int), .int .u64 (FW T 0 : Int), .int .u64 (FW T 1 : Int), .int .u64 (FW T 2 : Int), .int .u64 (FW T 3 : Int), .int .u64 (OW T 0 : Int), .int .u64 (OW T 1 : Int), .int .u64 (OW T 2 : Int), .int .u64 (OW T 3 : Int)]) 26 (0, 0)) := alloc_get _ _
  replace kN := allocblk kN (.cells #[.int .i64 (T.length : Int), .int .u64 (FW T 0 : Int), .int .u64 (FW T 1 : Int), .int .u64 (FW T 2 : Int), .int .u64 (FW T 3 : Int), .int .u64 (OW T 0 : Int), .int .u64 (OW T 1 : Int), .int .u64 (OW T 2 : Int), .int .u64 (OW T 3 : Int)] 26)
  replace kM := allocblk kM (.cells #[.int .i64 (T.length : Int), .int .u64 (FW T 0 : Int), .int .u64 (FW T 1 : Int), .int .u64 (FW T 2 : Int), .int .u64 (FW T 3 : Int), .int .u64 (OW T 0 : Int), .int .u64 (OW T 1 : Int), .int .u64 (OW T 2 : Int), .int .u64 (OW T 3 : Int)] 26)
  replace kR := allocblk kR (.cells #[.int .i64 (T.length : Int), .int .u64 (FW T 0 : Int), .int .u64 (FW T 1 : Int), .int .u64 (FW T 2 : Int), .int .u64 (FW T 3 : Int), .int .u64 (OW T 0 : Int), .int .u64 (OW T 1 : Int), .int .u64 (OW T 2 : Int), .int .u64 (OW T 3 : Int)] 26)
  replace BB := belA BB (.cells #[.int .i64 (T.length : Int), .int .u64 (FW T 0 : Int), .int .u64 (FW T 1 : Int), .int .u64 (FW T 2 : Int), .int .u64 (FW T 3 : Int), .int .u64 (OW T 0 : Int), .int .u64 (OW T 1 : Int), .int .u64 (OW T 2 : Int), .int .u64 (OW T 3 : Int)] 26)
  have cN := (cells_block kN).1
  have fN := (cells_block kN).2
  have cM := (cells_block kM).1
  have fM := (cells_block kM).2
  have cR := (cells_block kR).1
  have fR := (cells_block kR).2
  have cC := (cells_block kC).1
  have fC := (cells_block kC).2
  gi_wp2_with fail
  refine ⟨trivial, (callsIn_wide.2 (HA.out _)).mono ?_⟩
  rintro e w2 ⟨rfl, hb2⟩
  clear cN fN cM fM cR fR cC fC
  replace kN := keepblk hb2 kN
  replace kM := keepblk hb2 kM
  replace kR := keepblk hb2 kR
  replace kC := keepblk hb2 kC
  replace BB := bel0 BB hb2
  clear hb2
  have cN := (cells_block kN).1
  have fN := (cells_block kN).2
  have cM := (cells_block kM).1
  have fM := (cells_block kM).2
  have cR := (cells_block kR).1
  have fR := (cells_block kR).2
  have cC := (cells_block kC).1
  have fC := (cells_block kC).2
  gi_wp2_with fail
  refine ⟨trivial, (callsIn_wide.2 (HT1.out _)).mono ?_⟩
  rintro e w3 ⟨rfl, hb3⟩
  clear cN fN cM fM cR fR cC fC
  replace kN := keepblk hb3 kN
  replace kM := keepblk hb3 kM
  replace kR := keepblk hb3 kR
  replace kC := keepblk hb3 kC
  replace BB := bel0 BB hb3
  clear hb3
  have z3 := lt_of_get kC
  have cN := (cells_block kN).1
  have fN := (cells_block kN).2
  have cM := (cells_block kM).1
  have fM := (cells_block kM).2
  have cR := (cells_block kR).1
  have fR := (cells_block kR).2
  have cC := (cells_block kC).1
  have fC := (cells_block kC).2
  gi_wp2_with fail
  refine ⟨trivial, (callsIn_wide.2 ((refC_D s T _ hs hT.out).mono (fun _ _ h => ⟨h.1, h.2.symm⟩ : ∀ e w', _ → e = .returned (.string ⟨T.toArray⟩) ∧ w3 = w'))).mono ?_⟩
  rintro e w' ⟨rfl, rfl⟩
  clear cN fN cM fM cR fR cC fC
  have cN := (cells_block kN).1
  have fN := (cells_block kN).2
  have cM := (cells_block kM).1
  have fM := (cells_block kM).2
  have cR := (cells_block kR).1
  have fR := (cells_block kR).2
  have cC := (cells_block kC).1
  have fC := (cells_block kC).2
  gi_wp2_with fail
  refine ⟨trivial, (callsIn_wide.2 (hWn.out _)).mono ?_⟩
  rintro e w' ⟨rfl, rfl⟩
  clear cN fN cM fM cR fR cC fC
  obtain ⟨X1, hX1⟩ : ∃ X1, w3.setCell ⟨S, 0, none⟩ (.int .i64 (N0 : Int)) = X1 := ⟨_, rfl⟩
  have jN : X1.heap[S]? = some (.cells #[.int .i64 (N0 : Int)] 3 (0, 0)) := by rw [← hX1]; exact set_one _ kN
  have jM : X1.heap[S + 1]? = some (.cells #[.int .i64 m] 3 (0, 0)) := by rw [← hX1]; exact set_other kM (by omega)
  have jR : X1.heap[S + 1 + 1]? = some (.cells #[.bool false] 4 (0, 0)) := by rw [← hX1]; exact set_other kR (by omega)
  have jC : X1.heap[w1.heap.size]? = some (.cells (#[.int .i64 (T.length : Int), .int .u64 (FW T 0 : Int), .int .u64 (FW T 1 : Int), .int .u64 (FW T 2 : Int), .int .u64 (FW T 3 : Int), .int .u64 (OW T 0 : Int), .int .u64 (OW T 1 : Int), .int .u64 (OW T 2 : Int), .int .u64 (OW T 3 : Int)]) 26 (0, 0)) := by rw [← hX1]; exact set_other kC (by omega)
  have jB : Below w.heap.size w X1 := by rw [← hX1]; exact BB.setCell (p := ⟨S, 0, none⟩) (by show w.heap.size ≤ S; rw [Hs.out]; exact Nat.le_refl _) _
  have cN := (cells_block kN).1
  have fN := (cells_block kN).2
  have dM := (cells_block jM).1
  have eM := (cells_block jM).2
  gi_wp2_with fail
  refine ⟨trivial, (callsIn_wide.2 (hWm.out _)).mono ?_⟩
  rintro e w' ⟨rfl, rfl⟩
  obtain ⟨X2, hX2⟩ : ∃ X2, X1.setCell ⟨S + 1, 0, none⟩ (.int .i64 (M0 : Int)) = X2 := ⟨_, rfl⟩
  clear kN kM kR kC BB cN fN
  have kN : X2.heap[S]? = some (.cells #[.int .i64 (N0 : Int)] 3 (0, 0)) := by rw [← hX2]; exact set_other jN (by omega)
  have kM : X2.heap[S + 1]? = some (.cells #[.int .i64 (M0 : Int)] 3 (0, 0)) := by rw [← hX2]; exact set_one _ jM
  have kR : X2.heap[S + 1 + 1]? = some (.cells #[.bool false] 4 (0, 0)) := by rw [← hX2]; exact set_other jR (by omega)
  have kC : X2.heap[w1.heap.size]? = some (.cells (#[.int .i64 (T.length : Int), .int .u64 (FW T 0 : Int), .int .u64 (FW T 1 : Int), .int .u64 (FW T 2 : Int), .int .u64 (FW T 3 : Int), .int .u64 (OW T 0 : Int), .int .u64 (OW T 1 : Int), .int .u64 (OW T 2 : Int), .int .u64 (OW T 3 : Int)]) 26 (0, 0)) := by rw [← hX2]; exact set_other jC (by omega)
  have BB : Below w.heap.size w X2 := by rw [← hX2]; exact jB.setCell (p := ⟨S + 1, 0, none⟩) (by show w.heap.size ≤ S + 1; rw [Hs.out]; omega) _
  clear jN jM jR jC jB
  have cN := (cells_block kN).1
  have fN := (cells_block kN).2
  have cM := (cells_block kM).1
  have fM := (cells_block kM).2
  have cR := (cells_block kR).1
  have fR := (cells_block kR).2
  have cC := (cells_block kC).1
  have fC := (cells_block kC).2
  gi_wp2_with fail
  refine ⟨trivial, (callsIn_wide.2 (hRa.out _)).mono ?_⟩
  rintro e w4 ⟨v1, rfl, o1, hb4⟩
  clear cN fN cM fM cR fR cC fC
  replace kN := keepblk hb4 kN
  replace kM := keepblk hb4 kM
  replace kR := keepblk hb4 kR
  replace kC := keepblk hb4 kC
  replace BB := bel0 BB hb4
  clear hb4
  clear hX1 hX2 dM eM
  obtain ⟨qO, cO, rfl⟩ := own_shapeZ o1
  have z4 := lt_of_get kC
  have kO : (w4.alloc (.cells #[.slice qO a cO] 44)).heap[w4.heap.size]? = some (.cells #[.slice qO a cO] 44 (0, 0)) := alloc_get _ _
  replace kN := allocblk kN (.cells #[.slice qO a cO] 44)
  replace kM := allocblk kM (.cells #[.slice qO a cO] 44)
  replace kR := allocblk kR (.cells #[.slice qO a cO] 44)
  replace kC := allocblk kC (.cells #[.slice qO a cO] 44)
  replace BB := belA BB (.cells #[.slice qO a cO] 44)
  replace o1 := o1.alloc (.cells #[.slice qO a cO] 44)
  have cN := (cells_block kN).1
  have fN := (cells_block kN).2
  have cM := (cells_block kM).1
  have fM := (cells_block kM).2
  have cR := (cells_block kR).1
  have fR := (cells_block kR).2
  have cC := (cells_block kC).1
  have fC := (cells_block kC).2
  have cO := (cells_block kO).1
  have fO := (cells_block kO).2
  gi_wp2_with fail
  refine ⟨trivial, (callsIn_wide.2 (hRb.out _)).mono ?_⟩
  rintro e w5 ⟨v2, rfl, o2, hb5⟩
  clear cN fN cM fM cR fR cC fC cO fO
  replace o1 := owns_below o1 hb5
  replace kN := keepblk hb5 kN
  replace kM := keepblk hb5 kM
  replace kR := keepblk hb5 kR
  replace kC := keepblk hb5 kC
  replace kO := keepblk hb5 kO
  replace BB := bel0 BB hb5
  clear hb5
  obtain ⟨qI, cI, rfl⟩ := own_shapeZ o2
  have z5 := lt_of_get kO
  obtain ⟨Y, hY⟩ : ∃ Y, w5.heap.size = Y := ⟨_, rfl⟩
  have kI : (w5.alloc (.cells #[.slice qI b cI] 44)).heap[Y]? = some (.cells #[.slice qI b cI] 44 (0, 0)) := by rw [← hY]; exact alloc_get _ _
  replace o1 := o1.alloc (.cells #[.slice qI b cI] 44)
  replace o2 := o2.alloc (.cells #[.slice qI b cI] 44)
  replace kN := allocblk kN (.cells #[.slice qI b cI] 44)
  replace kM := allocblk kM (.cells #[.slice qI b cI] 44)
  replace kR := allocblk kR (.cells #[.slice qI b cI] 44)
  replace kC := allocblk kC (.cells #[.slice qI b cI] 44)
  replace kO := allocblk kO (.cells #[.slice qI b cI] 44)
  replace BB := belA BB (.cells #[.slice qI b cI] 44)
  have cN := (cells_block kN).1
  have fN := (cells_block kN).2
  have cM := (cells_block kM).1
  have fM := (cells_block kM).2
  have cR := (cells_block kR).1
  have fR := (cells_block kR).2
  have cC := (cells_block kC).1
  have fC := (cells_block kC).2
  have cO := (cells_block kO).1
  have fO := (cells_block kO).2
  have cI := (cells_block kI).1
  have fI := (cells_block kI).2
  gi_wp2_with fail
  refine ⟨trivial, (callsIn_wide.2 (members_in _ _ _ _ _ _ _ _ _ _)).mono ?_⟩
  rintro e w' ⟨rfl, rfl⟩
  clear cN fN cM fM cR fR cC fC cO fO cI fI
  simp only [World.size_alloc, hY]
  have kB : ((w5.alloc (.cells #[.slice qI b cI] 44)).alloc (.cells (#[.int .i64 (T.length : Int), .int .u64 (FW T 0 : Int), .int .u64 (FW T 1 : Int), .int .u64 (FW T 2 : Int), .int .u64 (FW T 3 : Int), .int .u64 (OW T 0 : Int), .int .u64 (OW T 1 : Int), .int .u64 (OW T 2 : Int), .int .u64 (OW T 3 : Int)]) 26)).heap[Y + 1]? = some (.cells (#[.int .i64 (T.length : Int), .int .u64 (FW T 0 : Int), .int .u64 (FW T 1 : Int), .int .u64 (FW T 2 : Int), .int .u64 (FW T 3 : Int), .int .u64 (OW T 0 : Int), .int .u64 (OW T 1 : Int), .int .u64 (OW T 2 : Int), .int .u64 (OW T 3 : Int)]) 26 (0, 0)) := by
    have := alloc_get (w5.alloc (.cells #[.slice qI b cI] 44)) (.cells (#[.int .i64 (T.length : Int), .int .u64 (FW T 0 : Int), .int .u64 (FW T 1 : Int), .int .u64 (FW T 2 : Int), .int .u64 (FW T 3 : Int), .int .u64 (OW T 0 : Int), .int .u64 (OW T 1 : Int), .int .u64 (OW T 2 : Int), .int .u64 (OW T 3 : Int)]) 26)
    simp only [World.size_alloc, hY] at this
    exact this
  replace o1 := o1.alloc (.cells (#[.int .i64 (T.length : Int), .int .u64 (FW T 0 : Int), .int .u64 (FW T 1 : Int), .int .u64 (FW T 2 : Int), .int .u64 (FW T 3 : Int), .int .u64 (OW T 0 : Int), .int .u64 (OW T 1 : Int), .int .u64 (OW T 2 : Int), .int .u64 (OW T 3 : Int)]) 26)
  replace o2 := o2.alloc (.cells (#[.int .i64 (T.length : Int), .int .u64 (FW T 0 : Int), .int .u64 (FW T 1 : Int), .int .u64 (FW T 2 : Int), .int .u64 (FW T 3 : Int), .int .u64 (OW T 0 : Int), .int .u64 (OW T 1 : Int), .int .u64 (OW T 2 : Int), .int .u64 (OW T 3 : Int)]) 26)
  replace kN := allocblk kN (.cells (#[.int .i64 (T.length : Int), .int .u64 (FW T 0 : Int), .int .u64 (FW T 1 : Int), .int .u64 (FW T 2 : Int), .int .u64 (FW T 3 : Int), .int .u64 (OW T 0 : Int), .int .u64 (OW T 1 : Int), .int .u64 (OW T 2 : Int), .int .u64 (OW T 3 : Int)]) 26)
  replace kM := allocblk kM (.cells (#[.int .i64 (T.length : Int), .int .u64 (FW T 0 : Int), .int .u64 (FW T 1 : Int), .int .u64 (FW T 2 : Int), .int .u64 (FW T 3 : Int), .int .u64 (OW T 0 : Int), .int .u64 (OW T 1 : Int), .int .u64 (OW T 2 : Int), .int .u64 (OW T 3 : Int)]) 26)
  replace kR := allocblk kR (.cells (#[.int .i64 (T.length : Int), .int .u64 (FW T 0 : Int), .int .u64 (FW T 1 : Int), .int .u64 (FW T 2 : Int), .int .u64 (FW T 3 : Int), .int .u64 (OW T 0 : Int), .int .u64 (OW T 1 : Int), .int .u64 (OW T 2 : Int), .int .u64 (OW T 3 : Int)]) 26)
  replace kC := allocblk kC (.cells (#[.int .i64 (T.length : Int), .int .u64 (FW T 0 : Int), .int .u64 (FW T 1 : Int), .int .u64 (FW T 2 : Int), .int .u64 (FW T 3 : Int), .int .u64 (OW T 0 : Int), .int .u64 (OW T 1 : Int), .int .u64 (OW T 2 : Int), .int .u64 (OW T 3 : Int)]) 26)
  replace kO := allocblk kO (.cells (#[.int .i64 (T.length : Int), .int .u64 (FW T 0 : Int), .int .u64 (FW T 1 : Int), .int .u64 (FW T 2 : Int), .int .u64 (FW T 3 : Int), .int .u64 (OW T 0 : Int), .int .u64 (OW T 1 : Int), .int .u64 (OW T 2 : Int), .int .u64 (OW T 3 : Int)]) 26)
  replace kI := allocblk kI (.cells (#[.int .i64 (T.length : Int), .int .u64 (FW T 0 : Int), .int .u64 (FW T 1 : Int), .int .u64 (FW T 2 : Int), .int .u64 (FW T 3 : Int), .int .u64 (OW T 0 : Int), .int .u64 (OW T 1 : Int), .int .u64 (OW T 2 : Int), .int .u64 (OW T 3 : Int)]) 26)
  replace BB := belA BB (.cells (#[.int .i64 (T.length : Int), .int .u64 (FW T 0 : Int), .int .u64 (FW T 1 : Int), .int .u64 (FW T 2 : Int), .int .u64 (FW T 3 : Int), .int .u64 (OW T 0 : Int), .int .u64 (OW T 1 : Int), .int .u64 (OW T 2 : Int), .int .u64 (OW T 3 : Int)]) 26)
  have kQ : (((w5.alloc (.cells #[.slice qI b cI] 44)).alloc (.cells (#[.int .i64 (T.length : Int), .int .u64 (FW T 0 : Int), .int .u64 (FW T 1 : Int), .int .u64 (FW T 2 : Int), .int .u64 (FW T 3 : Int), .int .u64 (OW T 0 : Int), .int .u64 (OW T 1 : Int), .int .u64 (OW T 2 : Int), .int .u64 (OW T 3 : Int)]) 26)).alloc (.cells #[.func (.func 48) #[] #[.pointer (some ⟨Y + 1, 0, none⟩)]] 47)).heap[Y + 1 + 1]? = some (.cells #[.func (.func 48) #[] #[.pointer (some ⟨Y + 1, 0, none⟩)]] 47 (0, 0)) := by
    have := alloc_get ((w5.alloc (.cells #[.slice qI b cI] 44)).alloc (.cells (#[.int .i64 (T.length : Int), .int .u64 (FW T 0 : Int), .int .u64 (FW T 1 : Int), .int .u64 (FW T 2 : Int), .int .u64 (FW T 3 : Int), .int .u64 (OW T 0 : Int), .int .u64 (OW T 1 : Int), .int .u64 (OW T 2 : Int), .int .u64 (OW T 3 : Int)]) 26)) (.cells #[.func (.func 48) #[] #[.pointer (some ⟨Y + 1, 0, none⟩)]] 47)
    simp only [World.size_alloc, hY] at this
    exact this
  replace o1 := o1.alloc (.cells #[.func (.func 48) #[] #[.pointer (some ⟨Y + 1, 0, none⟩)]] 47)
  replace o2 := o2.alloc (.cells #[.func (.func 48) #[] #[.pointer (some ⟨Y + 1, 0, none⟩)]] 47)
  replace kN := allocblk kN (.cells #[.func (.func 48) #[] #[.pointer (some ⟨Y + 1, 0, none⟩)]] 47)
  replace kM := allocblk kM (.cells #[.func (.func 48) #[] #[.pointer (some ⟨Y + 1, 0, none⟩)]] 47)
  replace kR := allocblk kR (.cells #[.func (.func 48) #[] #[.pointer (some ⟨Y + 1, 0, none⟩)]] 47)
  replace kC := allocblk kC (.cells #[.func (.func 48) #[] #[.pointer (some ⟨Y + 1, 0, none⟩)]] 47)
  replace kO := allocblk kO (.cells #[.func (.func 48) #[] #[.pointer (some ⟨Y + 1, 0, none⟩)]] 47)
  replace kI := allocblk kI (.cells #[.func (.func 48) #[] #[.pointer (some ⟨Y + 1, 0, none⟩)]] 47)
  replace kB := allocblk kB (.cells #[.func (.func 48) #[] #[.pointer (some ⟨Y + 1, 0, none⟩)]] 47)
  replace BB := belA BB (.cells #[.func (.func 48) #[] #[.pointer (some ⟨Y + 1, 0, none⟩)]] 47)
  have kJ : ((((w5.alloc (.cells #[.slice qI b cI] 44)).alloc (.cells (#[.int .i64 (T.length : Int), .int .u64 (FW T 0 : Int), .int .u64 (FW T 1 : Int), .int .u64 (FW T 2 : Int), .int .u64 (FW T 3 : Int), .int .u64 (OW T 0 : Int), .int .u64 (OW T 1 : Int), .int .u64 (OW T 2 : Int), .int .u64 (OW T 3 : Int)]) 26)).alloc (.cells #[.func (.func 48) #[] #[.pointer (some ⟨Y + 1, 0, none⟩)]] 47)).alloc (.cells #[.int .i64 0] 3)).heap[Y + 1 + 1 + 1]? = some (.cells #[.int .i64 0] 3 (0, 0)) := by
    have := alloc_get (((w5.alloc (.cells #[.slice qI b cI] 44)).alloc (.cells (#[.int .i64 (T.length : Int), .int .u64 (FW T 0 : Int), .int .u64 (FW T 1 : Int), .int .u64 (FW T 2 : Int), .int .u64 (FW T 3 : Int), .int .u64 (OW T 0 : Int), .int .u64 (OW T 1 : Int), .int .u64 (OW T 2 : Int), .int .u64 (OW T 3 : Int)]) 26)).alloc (.cells #[.func (.func 48) #[] #[.pointer (some ⟨Y + 1, 0, none⟩)]] 47)) (.cells #[.int .i64 0] 3)
    simp only [World.size_alloc, hY] at this
    exact this
  replace o1 := o1.alloc (.cells #[.int .i64 0] 3)
  replace o2 := o2.alloc (.cells #[.int .i64 0] 3)
  replace kN := allocblk kN (.cells #[.int .i64 0] 3)
  replace kM := allocblk kM (.cells #[.int .i64 0] 3)
  replace kR := allocblk kR (.cells #[.int .i64 0] 3)
  replace kC := allocblk kC (.cells #[.int .i64 0] 3)
  replace kO := allocblk kO (.cells #[.int .i64 0] 3)
  replace kI := allocblk kI (.cells #[.int .i64 0] 3)
  replace kB := allocblk kB (.cells #[.int .i64 0] 3)
  replace kQ := allocblk kQ (.cells #[.int .i64 0] 3)
  replace BB := belA BB (.cells #[.int .i64 0] 3)
  have hXs : ((((w5.alloc (.cells #[.slice qI b cI] 44)).alloc (.cells (#[.int .i64 (T.length : Int), .int .u64 (FW T 0 : Int), .int .u64 (FW T 1 : Int), .int .u64 (FW T 2 : Int), .int .u64 (FW T 3 : Int), .int .u64 (OW T 0 : Int), .int .u64 (OW T 1 : Int), .int .u64 (OW T 2 : Int), .int .u64 (OW T 3 : Int)]) 26)).alloc (.cells #[.func (.func 48) #[] #[.pointer (some ⟨Y + 1, 0, none⟩)]] 47)).alloc (.cells #[.int .i64 0] 3)).heap.size = Y + 1 + 1 + 1 + 1 := by simp [hY]
  have cQ := (cells_block kQ).1
  gi_wp2_with fail
  obtain ⟨X, hX⟩ : ∃ X, (((w5.alloc (.cells #[.slice qI b cI] 44)).alloc (.cells (#[.int .i64 (T.length : Int), .int .u64 (FW T 0 : Int), .int .u64 (FW T 1 : Int), .int .u64 (FW T 2 : Int), .int .u64 (FW T 3 : Int), .int .u64 (OW T 0 : Int), .int .u64 (OW T 1 : Int), .int .u64 (OW T 2 : Int), .int .u64 (OW T 3 : Int)]) 26)).alloc (.cells #[.func (.func 48) #[] #[.pointer (some ⟨Y + 1, 0, none⟩)]] 47)).alloc (.cells #[.int .i64 0] 3) = X := ⟨_, rfl⟩
  have jj0 : True := trivial
  simp only [hX] at *
  clear jj0
  clear hX cQ
  have zS : S + 1 + 1 < w4.heap.size := by omega
  have zY : w4.heap.size < Y := by omega
  obtain ⟨gO, hO0⟩ := own_cellsI o1 kJ
  obtain ⟨gI, hI0⟩ := own_cellsI o2 kJ
  have hO : Hid (∀ i, i < a → qO = some ⟨gO, 0, none⟩ ∧ gO < Y + 1 + 1 + 1 + 1 ∧ gO ≠ Y + 1 + 1 + 1 ∧ X.cell? ⟨gO, i, none⟩ = some (.string ⟨(ms T i).toArray⟩)) := fun i hi => by
    obtain ⟨u1, u2, u3, u4⟩ := hO0 i hi
    exact ⟨u1, by rw [← hXs]; exact u2, u3, by rw [u4]; exact mL_atI T a i hi⟩
  have hI : Hid (∀ i, i < b → qI = some ⟨gI, 0, none⟩ ∧ gI < Y + 1 + 1 + 1 + 1 ∧ gI ≠ Y + 1 + 1 + 1 ∧ X.cell? ⟨gI, i, none⟩ = some (.string ⟨(ms T i).toArray⟩)) := fun i hi => by
    obtain ⟨u1, u2, u3, u4⟩ := hI0 i hi
    exact ⟨u1, by rw [← hXs]; exact u2, u3, by rw [u4]; exact mL_atI T b i hi⟩
  clear hO0 hI0 o1 o2
  have hSY : w.heap.size ≤ Y := by rw [Hs.out]; omega
  clear hS
  refine range_by rfl (by omega) (gf := 48) (lb := #[.pointer (some ⟨Y + 1, 0, none⟩)]) rfl trivial (enters_of Try.func48 (by kernel_rfl) rfl) ?_
  intro fn hfn
  simp only [hXs]
  generalize hR : recOf fn _ _ _ _ _ = R
  have rs : R.state = .ready := by rw [← hR]; rfl
  have rp : R.pending = none := by rw [← hR]; rfl
  have rf : R.fn = fn := by rw [← hR]; rfl
  have rq : R.params = #[49] := by rw [← hR]; rfl
  have a1 : ((X.alloc (.deferred (some []))).alloc (.loop R)).heap[Y + 1 + 1 + 1 + 1]? = some (.deferred (some [])) := by rw [← hXs]; exact allocblk (alloc_get _ _) _
  have a2 : ((X.alloc (.deferred (some []))).alloc (.loop R)).heap[Y + 1 + 1 + 1 + 1 + 1]? = some (.loop R) := by
    have := alloc_get (X.alloc (.deferred (some []))) (.loop R)
    simp only [World.size_alloc, hXs] at this
    exact this
  have a3 := allocblk (allocblk kJ (.deferred (some []))) (.loop R)
  have a4 := allocblk (allocblk kB (.deferred (some []))) (.loop R)
  have a5 : Kx (Y + 1 + 1 + 1) (Y + 1 + 1 + 1 + 1) X ((X.alloc (.deferred (some []))).alloc (.loop R)) := Kx.alloc (Kx.alloc ⟨by rw [hXs]; exact Nat.le_refl _, fun _ _ _ => rfl⟩ _) _
  have a6 : Below w.heap.size w ((X.alloc (.deferred (some []))).alloc (.loop R)) := belA (belA BB _) _
  have a7 : ((X.alloc (.deferred (some []))).alloc (.loop R)).heap.size = Y + 1 + 1 + 1 + 1 + 1 + 1 := by simp [hXs]
  obtain ⟨W0, hW0⟩ : ∃ W0, (X.alloc (.deferred (some []))).alloc (.loop R) = W0 := ⟨_, rfl⟩
  rw [hW0] at a1 a2 a3 a4 a5 a6 a7 ⊢
  clear hW0
  refine (mem_allb (8 - 1) (by omega) (Y + 1 + 1 + 1 + 1 + 1) (Y + 1) T gT
    (fun k W => k < N ∧ Kx (Y + 1 + 1 + 1) (Y + 1 + 1 + 1 + 1) X W ∧ W.heap[Y + 1 + 1 + 1]? = some (.cells #[.int .i64 (k : Int)] 3 (0, 0)) ∧ W.heap[Y + 1 + 1 + 1 + 1]? = some (.deferred (some [])) ∧ W.heap[Y + 1 + 1 + 1 + 1 + 1]? = some (.loop R) ∧ Below w.heap.size w W)
    (fun W => a = N ∧ Kx (Y + 1 + 1 + 1) (Y + 1 + 1 + 1 + 1) X W ∧ W.heap[Y + 1 + 1 + 1]? = some (.cells #[.int .i64 (N : Int)] 3 (0, 0)) ∧ W.heap[Y + 1 + 1 + 1 + 1]? = some (.deferred (some [])) ∧ (∃ r, W.heap[Y + 1 + 1 + 1 + 1 + 1]? = some (.loop r) ∧ r.state = .done ∧ r.pending = some (.exit 0)) ∧ Below w.heap.size w W)
    W0 ?hst ?hYY a4 ?h0).mono ?post
  case h0 => exact ⟨by omega, a5, a3, a1, a2, a6⟩
  case hst =>
    rintro k W W' row ⟨hk, b1, b2, b3, b4, b5⟩ hg hrow
    have ne : ∀ x, x < Y + 1 + 1 + 1 + 1 + 1 + 1 → some x ≠ row := fun x hx e => by have := (hrow x e.symm).1; omega
    exact ⟨hk, b1.grow hg (fun r e => by have := (hrow r e).1; omega), (hg.block _ (lt_of_get b2) (ne _ (by omega))).trans b2, (hg.block _ (lt_of_get b3) (ne _ (by omega))).trans b3, (hg.block _ (lt_of_get b4) (ne _ (by omega))).trans b4, bel_grow b5 hg b5.size (fun x e => by have := (hrow x e).1; omega)⟩

  case post =>
    rintro e W ⟨hv, hJ⟩
    refine ⟨hv, ?_⟩
    rcases hJ with ⟨k, hfin, hk, b1, b2, b3, b4, b5⟩ | ⟨haN', b1, b2, b3, ⟨r, b4, hrs, hrp⟩, b5⟩
    · obtain rfl := cnt_fin ha.out hfin (by omega)
      refine ⟨R, b4, (fun e => by rw [rs] at e; cases e), .inl ⟨rp, ?_⟩⟩
      clear hfin hk
      have KV := Kx.put b1 (l := Y + 1 + 1 + 1 + 1 + 1) (by omega) (.loop { R with state := .exhausted })
      have vJ := put_other (o' := .loop { R with state := .exhausted }) b2 (show Y + 1 + 1 + 1 ≠ Y + 1 + 1 + 1 + 1 + 1 by omega)
      have vD := put_other (o' := .loop { R with state := .exhausted }) b3 (show Y + 1 + 1 + 1 + 1 ≠ Y + 1 + 1 + 1 + 1 + 1 by omega)
      have BV := bel_grow b5 (grownBy_putObj' W (Y + 1 + 1 + 1 + 1 + 1) (.loop { R with state := .exhausted })) b5.size (fun x e => by cases e; omega)
      obtain ⟨V, hV⟩ : ∃ V, W.putObj (Y + 1 + 1 + 1 + 1 + 1) (.loop { R with state := .exhausted }) = V := ⟨_, rfl⟩
      rw [hV] at KV vJ vD BV ⊢
      clear hV b1 b2 b3 b4 b5
      have vN := Kx.get KV (show S < Y + 1 + 1 + 1 + 1 by omega) (by omega) kN
      have vM := Kx.get KV (show S + 1 < Y + 1 + 1 + 1 + 1 by omega) (by omega) kM
      have vR := Kx.get KV (show S + 1 + 1 < Y + 1 + 1 + 1 + 1 by omega) (by omega) kR
      have vO := Kx.get KV (show w4.heap.size < Y + 1 + 1 + 1 + 1 by omega) (by omega) kO
      have vI := Kx.get KV (show Y < Y + 1 + 1 + 1 + 1 by omega) (by omega) kI
      have vQ := Kx.get KV (show Y + 1 + 1 < Y + 1 + 1 + 1 + 1 by omega) (by omega) kQ
      have vB := Kx.get KV (show Y + 1 < Y + 1 + 1 + 1 + 1 by omega) (by omega) kB
      have cvJ := (cells_block vJ).1
      have fvJ := (cells_block vJ).2
      have cvN := (cells_block vN).1
      have fvN := (cells_block vN).2
      have cvO := (cells_block vO).1
      have fvO := (cells_block vO).2
      have cvQ := (cells_block vQ).1
      have fvQ := (cells_block vQ).2
      have eaa : ((a : Int) != (a : Int)) = false := by simp
      obtain ⟨V2, hV2⟩ : ∃ V2, V.setCell ⟨Y + 1 + 1 + 1, 0, none⟩ (.int .i64 0) = V2 := ⟨_, rfl⟩
      have wJ : V2.heap[Y + 1 + 1 + 1]? = some (.cells #[.int .i64 0] 3 (0, 0)) := by rw [← hV2]; exact set_one _ vJ
      have wD : V2.heap[Y + 1 + 1 + 1 + 1]? = some (.deferred (some [])) := by rw [← hV2]; exact set_other vD (by omega)
      have KW : Kx (Y + 1 + 1 + 1) (Y + 1 + 1 + 1 + 1) X V2 := by rw [← hV2]; exact KV.set (.inl rfl)
      have BW : Below w.heap.size w V2 := by rw [← hV2]; exact BV.setCell (p := ⟨Y + 1 + 1 + 1, 0, none⟩) (by show w.heap.size ≤ Y + 1 + 1 + 1; omega) _
      have wQ := Kx.get KW (show Y + 1 + 1 < Y + 1 + 1 + 1 + 1 by omega) (by omega) kQ
      have cwQ := (cells_block wQ).1
      gi_wp2
      clear hV2
      clear cvJ fvJ cvN fvN cvO fvO cvQ fvQ cwQ KV vJ vD BV vN vM vR vO vI vQ vB
      obtain ⟨Z, hZ⟩ : ∃ Z, V2.heap.size = Z := ⟨_, rfl⟩
      have hZ0 : Y + 1 + 1 + 1 + 1 < Z := by rw [← hZ]; exact lt_of_get wD
      refine range_by rfl (by omega) (gf := 48) (lb := #[.pointer (some ⟨Y + 1, 0, none⟩)]) rfl trivial (enters_of Try.func48 (by kernel_rfl) rfl) ?_
      intro fn2 hfn2
      simp only [hZ]
      generalize hR2 : recOf fn2 _ _ _ _ _ = R2
      have rs2 : R2.state = .ready := by rw [← hR2]; rfl
      have rp2 : R2.pending = none := by rw [← hR2]; rfl
      have rf2 : R2.fn = fn2 := by rw [← hR2]; rfl
      have rq2 : R2.params = #[95] := by rw [← hR2]; rfl
      have d1 : ((V2.alloc (.deferred (some []))).alloc (.loop R2)).heap[Z]? = some (.deferred (some [])) := by rw [← hZ]; exact allocblk (alloc_get _ _) _
      have d2 : ((V2.alloc (.deferred (some []))).alloc (.loop R2)).heap[Z + 1]? = some (.loop R2) := by
        have := alloc_get (V2.alloc (.deferred (some []))) (.loop R2)
        simp only [World.size_alloc, hZ] at this
        exact this
      have d3 := allocblk (allocblk wJ (.deferred (some []))) (.loop R2)
      have d4 := allocblk (allocblk (Kx.get KW (show Y + 1 < Y + 1 + 1 + 1 + 1 by omega) (by omega) kB) (.deferred (some []))) (.loop R2)
      have d5 := Kx.alloc (Kx.alloc KW (.deferred (some []))) (.loop R2)
      have d6 := belA (belA BW (.deferred (some []))) (.loop R2)
      have d7 : ((V2.alloc (.deferred (some []))).alloc (.loop R2)).heap.size = Z + 1 + 1 := by simp [hZ]
      have d8 := allocblk (allocblk wD (.deferred (some []))) (.loop R2)
      obtain ⟨W9, hW9⟩ : ∃ W9, (V2.alloc (.deferred (some []))).alloc (.loop R2) = W9 := ⟨_, rfl⟩
      rw [hW9] at d1 d2 d3 d4 d5 d6 d7 d8 ⊢
      clear hW9 wJ wD KW BW wQ
      refine (mem_allb (8 - 1) (by omega) (Z + 1) (Y + 1) T gT
        (fun k W => k < N ∧ Kx (Y + 1 + 1 + 1) (Y + 1 + 1 + 1 + 1) X W ∧ W.heap[Y + 1 + 1 + 1]? = some (.cells #[.int .i64 (k : Int)] 3 (0, 0)) ∧ W.heap[Y + 1 + 1 + 1 + 1]? = some (.deferred (some [])) ∧ W.heap[Z]? = some (.deferred (some [])) ∧ W.heap[Z + 1]? = some (.loop R2) ∧ Below w.heap.size w W)
        (fun W => a = N ∧ Kx (Y + 1 + 1 + 1) (Y + 1 + 1 + 1 + 1) X W ∧ W.heap[Y + 1 + 1 + 1]? = some (.cells #[.int .i64 (N : Int)] 3 (0, 0)) ∧ W.heap[Y + 1 + 1 + 1 + 1]? = some (.deferred (some [])) ∧ W.heap[Z]? = some (.deferred (some [])) ∧ (∃ r, W.heap[Z + 1]? = some (.loop r) ∧ r.state = .done ∧ r.pending = some (.exit 4)) ∧ Below w.heap.size w W)
        W9 ?hst2 ?hY2 d4 ?h02).mono ?post2
      case h02 => exact ⟨by omega, d5, d3, d8, d1, d2, d6⟩
      case hst2 =>
        rintro k W W' row ⟨hk, b1, b2, b3, b4, b4', b5⟩ hg hrow
        have ne : ∀ x, x < Z + 1 + 1 → some x ≠ row := fun x hx e => by have := (hrow x e.symm).1; omega
        exact ⟨hk, b1.grow hg (fun r e => by have := (hrow r e).1; omega), (hg.block _ (lt_of_get b2) (ne _ (by omega))).trans b2, (hg.block _ (lt_of_get b3) (ne _ (by omega))).trans b3, (hg.block _ (lt_of_get b4) (ne _ (by omega))).trans b4, (hg.block _ (lt_of_get b4') (ne _ (by omega))).trans b4', bel_grow b5 hg b5.size (fun x e => by have := (hrow x e).1; omega)⟩
      case post2 =>
        rintro e W ⟨hv, hJ⟩
        refine ⟨hv, ?_⟩
        rcases hJ with ⟨k, hfin, hk, b1, b2, b3, b4, b4', b5⟩ | ⟨haN', b1, b2, b3, b4, ⟨r, b4', hrs, hrp⟩, b5⟩
        · obtain rfl := cnt_fin ha.out hfin (by omega)
          refine ⟨R2, b4', (fun e => by rw [rs2] at e; cases e), .inl ⟨rp2, ?_⟩⟩
          clear hfin hk
          have KV := Kx.put b1 (l := Z + 1) (by omega) (.loop { R2 with state := .exhausted })
          have vJ := put_other (o' := .loop { R2 with state := .exhausted }) b2 (show Y + 1 + 1 + 1 ≠ Z + 1 by omega)
          have vD := put_other (o' := .loop { R2 with state := .exhausted }) b3 (show Y + 1 + 1 + 1 + 1 ≠ Z + 1 by omega)
          have vZ := put_other (o' := .loop { R2 with state := .exhausted }) b4 (show Z ≠ Z + 1 by omega)
          have BV := bel_grow b5 (grownBy_putObj' W (Z + 1) (.loop { R2 with state := .exhausted })) b5.size (fun x e => by cases e; omega)
          obtain ⟨V, hV⟩ : ∃ V, W.putObj (Z + 1) (.loop { R2 with state := .exhausted }) = V := ⟨_, rfl⟩
          rw [hV] at KV vJ vD vZ BV ⊢
          clear hV b1 b2 b3 b4 b4' b5
          have vO := Kx.get KV (show w4.heap.size < Y + 1 + 1 + 1 + 1 by omega) (by omega) kO
          have vR := Kx.get KV (show S + 1 + 1 < Y + 1 + 1 + 1 + 1 by omega) (by omega) kR
          have cJ := (cells_block vJ).1
          have cO' := (cells_block vO).1
          have cR := (cells_block vR).1
          have fR := (cells_block vR).2
          have eaa : ((a : Int) == (a : Int)) = true := by simp
          gi_wp2
          have kD2 := set_other (b := S + 1 + 1) (p := 0) (v := .bool true) vZ (by omega)
          have kD1 := put_other (b := Z) (o' := .deferred none) (set_other (b := S + 1 + 1) (p := 0) (v := .bool true) vD (by omega)) (by omega)
          have kR' := put_other (b := Y + 1 + 1 + 1 + 1) (o' := .deferred none) (put_other (b := Z) (o' := .deferred none) (set_one (.bool true) vR) (by omega)) (by omega)
          refine ⟨by simp, .inl ⟨_, _, rfl, run_takeDeferred kD2, ?_⟩⟩
          refine ⟨by simp, .inl ⟨_, _, rfl, run_takeDeferred kD1, ?_⟩⟩
          have BE := bel_grow (bel_grow (BV.setCell (p := ⟨S + 1 + 1, 0, none⟩) (by show w.heap.size ≤ S + 1 + 1; rw [Hs.out]; omega) (.bool true)) (grownBy_putObj' _ Z (.deferred none)) (by have := BV.size; simpa [World.setCell] using this) (fun x e => by cases e; omega)) (grownBy_putObj' _ (Y + 1 + 1 + 1 + 1) (.deferred none)) (by have := BV.size; simpa [World.setCell] using this) (fun x e => by cases e; omega)
          exact ⟨_, res_bool1 _ _ (S + 1 + 1) true rfl rfl kR', rfl, BE⟩

        · refine ⟨r, b4', (fun e => by rw [hrs] at e; cases e), .inr ⟨_, hrp, ?_⟩⟩
          rw [← haN'] at b2
          clear haN'
          have KV := Kx.put b1 (l := Z + 1) (by omega) (.loop { r with state := .exhausted })
          have vJ := put_other (o' := .loop { r with state := .exhausted }) b2 (show Y + 1 + 1 + 1 ≠ Z + 1 by omega)
          have vD := put_other (o' := .loop { r with state := .exhausted }) b3 (show Y + 1 + 1 + 1 + 1 ≠ Z + 1 by omega)
          have vZ := put_other (o' := .loop { r with state := .exhausted }) b4 (show Z ≠ Z + 1 by omega)
          have BV := bel_grow b5 (grownBy_putObj' W (Z + 1) (.loop { r with state := .exhausted })) b5.size (fun x e => by cases e; omega)
          obtain ⟨V, hV⟩ : ∃ V, W.putObj (Z + 1) (.loop { r with state := .exhausted }) = V := ⟨_, rfl⟩
          rw [hV] at KV vJ vD vZ BV ⊢
          clear hV b1 b2 b3 b4 b4' b5
          have vO := Kx.get KV (show w4.heap.size < Y + 1 + 1 + 1 + 1 by omega) (by omega) kO
          have vR := Kx.get KV (show S + 1 + 1 < Y + 1 + 1 + 1 + 1 by omega) (by omega) kR
          have cJ := (cells_block vJ).1
          have cO' := (cells_block vO).1
          have cR := (cells_block vR).1
          have fR := (cells_block vR).2
          have eaa : ((a : Int) == (a : Int)) = true := by simp
          gi_wp2
          have kD2 := set_other (b := S + 1 + 1) (p := 0) (v := .bool true) vZ (by omega)
          have kD1 := put_other (b := Z) (o' := .deferred none) (set_other (b := S + 1 + 1) (p := 0) (v := .bool true) vD (by omega)) (by omega)
          have kR' := put_other (b := Y + 1 + 1 + 1 + 1) (o' := .deferred none) (put_other (b := Z) (o' := .deferred none) (set_one (.bool true) vR) (by omega)) (by omega)
          refine ⟨by simp, .inl ⟨_, _, rfl, run_takeDeferred kD2, ?_⟩⟩
          refine ⟨by simp, .inl ⟨_, _, rfl, run_takeDeferred kD1, ?_⟩⟩
          have BE := bel_grow (bel_grow (BV.setCell (p := ⟨S + 1 + 1, 0, none⟩) (by show w.heap.size ≤ S + 1 + 1; rw [Hs.out]; omega) (.bool true)) (grownBy_putObj' _ Z (.deferred none)) (by have := BV.size; simpa [World.setCell] using this) (fun x e => by cases e; omega)) (grownBy_putObj' _ (Y + 1 + 1 + 1 + 1) (.deferred none)) (by have := BV.size; simpa [World.setCell] using this) (fun x e => by cases e; omega)
          exact ⟨_, res_bool1 _ _ (S + 1 + 1) true rfl rfl kR', rfl, BE⟩

      case hY2 =>
        have HSZ : W9.heap.size = Z + 1 + 1 := d7
        clear a1 a2 a3 a4 a5 a6 a7 d1 d2 d3 d4 d5 d6 d7 d8
        rintro k W ht hlv ⟨hk, b1, b2, e0, e1, b4', b5⟩
        have hka : k < a := cnt_lt ha.out ht hlv hk
        obtain ⟨hq, hg1, hg2, hgc⟩ := hO.out k hka
        have Hstop : Hid (k + 1 = N → a = N) := fun e => cnt_stop ha.out ht hlv e
        obtain ⟨k1, hk1⟩ : ∃ k1 : Nat, k1 = k + 1 := ⟨_, rfl⟩
        have i1 : (k : Int) + 1 = (k1 : Int) := by omega
        have Hk1 : Hid (k1 = k + 1) := hk1
        clear hk1
        have i2 : IntKind.i64.wrap (k1 : Int) = (k1 : Int) := by rw [IntKind.wrap_i64]; omega
        have i3 : (0 : Int) ≤ (k : Int) := by omega
        have i4 : (k : Int) < (a : Int) := by omega
        have i5 : ¬ (k : Int) ≥ (a : Int) := by omega
        have KV := Kx.put b1 (l := Z + 1) (by omega) (.loop { R2 with state := .busy })
        have vJ := put_other (o' := .loop { R2 with state := .busy }) b2 (show Y + 1 + 1 + 1 ≠ Z + 1 by omega)
        have g0 := put_other (o' := .loop { R2 with state := .busy }) e0 (show Y + 1 + 1 + 1 + 1 ≠ Z + 1 by omega)
        have g1 := put_other (o' := .loop { R2 with state := .busy }) e1 (show Z ≠ Z + 1 by omega)
        have vL : (W.putObj (Z + 1) (.loop { R2 with state := .busy })).heap[Z + 1]? = some (.loop { R2 with state := .busy }) := World.putObj_heap_same (lt_of_get b4')
        have BV := bel_grow b5 (grownBy_putObj' W (Z + 1) (.loop { R2 with state := .busy })) b5.size (fun x e => by cases e; omega)
        have VK : KTb (Z + 1 + 1) W (W.putObj (Z + 1) (.loop { R2 with state := .busy })) := fun c cs TT mm hc hcc _ => World.putObj_heap_other (by omega)
        refine (round_by (F := Fence.wide) (m := 8 - 1 - 1) (In := fun W' => (k1 < N ∧ Kx (Y + 1 + 1 + 1) (Y + 1 + 1 + 1 + 1) X W' ∧ W'.heap[Y + 1 + 1 + 1]? = some (.cells #[.int .i64 (k1 : Int)] 3 (0, 0)) ∧ W'.heap[Y + 1 + 1 + 1 + 1]? = some (.deferred (some [])) ∧ W'.heap[Z]? = some (.deferred (some [])) ∧ W'.heap[Z + 1]? = some (.loop R2) ∧ Below w.heap.size w W') ∧ KTb (Z + 1 + 1) W W')
          (Out := fun c W' => c = .exit 4 ∧ a = N ∧ Kx (Y + 1 + 1 + 1) (Y + 1 + 1 + 1 + 1) X W' ∧ W'.heap[Y + 1 + 1 + 1]? = some (.cells #[.int .i64 (N : Int)] 3 (0, 0)) ∧ W'.heap[Y + 1 + 1 + 1 + 1]? = some (.deferred (some [])) ∧ W'.heap[Z]? = some (.deferred (some [])) ∧ (∃ r, W'.heap[Z + 1]? = some (.loop r) ∧ r.state = .done ∧ r.pending = some c) ∧ Below w.heap.size w W')
          (by rw [rf2]; exact hfn2) b4' rs2 rp2 (by rw [rq2]; rfl) { tmps := (R2.tmps.setIfInBounds 95 (.string ⟨(ms T k).toArray⟩)).setIfInBounds 17 (.string ⟨(ms T k).toArray⟩), defers := [] } ?has4 ?hb4).mono ?_
        case has4 =>
          intro K hK
          rw [congrArg Loop.assign hR2.symm, rq2, congrArg Loop.tmps hR2.symm]
          rw [congrArg Loop.tmps hR2.symm] at hK
          simp only [recOf, List.zip_toArray, List.zip_cons_cons, List.zip_nil_right, List.foldl_toArray', List.foldl_cons, List.foldl_nil, List.setIfInBounds_toArray, List.size_toArray, List.length_cons, List.length_nil, List.set_cons_zero, List.set_cons_succ] at hK ⊢
          clear hR2 KV vJ g0 g1 vL BV VK b1 b2 e0 e1 b4' b5 i1 i2 i3 i4 i5
          gi_wp2
          exact hK
        case hb4 =>
          have gcell : (W.putObj (Z + 1) (.loop { R2 with state := .busy })).cell? ⟨gO, k, none⟩ = some (.string ⟨(ms T k).toArray⟩) := (World.cell?_of_block (a := ⟨gO, k, none⟩) (KV.2 gO hg1 hg2)).trans hgc
          have vN := Kx.get KV (show S < Y + 1 + 1 + 1 + 1 by omega) (by omega) kN
          have vO := Kx.get KV (show w4.heap.size < Y + 1 + 1 + 1 + 1 by omega) (by omega) kO
          obtain ⟨V, hV⟩ : ∃ V, W.putObj (Z + 1) (.loop { R2 with state := .busy }) = V := ⟨_, rfl⟩
          rw [hV] at KV vJ g0 g1 vL BV VK gcell vN vO ⊢
          rw [congrArg Loop.body hR2.symm, congrArg Loop.tmps hR2.symm]
          simp only [recOf, List.setIfInBounds_toArray, List.set_cons_zero, List.set_cons_succ]
          clear hR2
          clear hV b1 b2  e0 e1 b4' b5
          subst hq
          have cJ := (cells_block vJ).1
          have fJ := (cells_block vJ).2
          have cN := (cells_block vN).1
          have cO' := (cells_block vO).1
          obtain ⟨V4, hV4⟩ : ∃ V4, V.setCell ⟨Y + 1 + 1 + 1, 0, none⟩ (.int .i64 (k1 : Int)) = V4 := ⟨_, rfl⟩
          have wJ : V4.heap[Y + 1 + 1 + 1]? = some (.cells #[.int .i64 (k1 : Int)] 3 (0, 0)) := by rw [← hV4]; exact set_one _ vJ
          have wN : V4.heap[S]? = some (.cells #[.int .i64 (N0 : Int)] 3 (0, 0)) := by rw [← hV4]; exact set_other vN (by omega)
          have wL : V4.heap[Z + 1]? = some (.loop { R2 with state := .busy }) := by rw [← hV4]; exact set_other vL (by omega)
          have wD0 : V4.heap[Y + 1 + 1 + 1 + 1]? = some (.deferred (some [])) := by rw [← hV4]; exact set_other g0 (by omega)
          have wD1 : V4.heap[Z]? = some (.deferred (some [])) := by rw [← hV4]; exact set_other g1 (by omega)
          have wK : Kx (Y + 1 + 1 + 1) (Y + 1 + 1 + 1 + 1) X V4 := by rw [← hV4]; exact KV.set (by omega)
          have wB : Below w.heap.size w V4 := by rw [← hV4]; exact BV.setCell (p := ⟨Y + 1 + 1 + 1, 0, none⟩) (by show w.heap.size ≤ Y + 1 + 1 + 1; omega) _
          have wT : KTb (Z + 1 + 1) W V4 := fun c cs TT mm hc hcc hT => by
            rw [← hV4]
            exact (Below.heap_setCell _ _ _ _ (fun e => by have e' : c = Y + 1 + 1 + 1 := e; omega)).trans (VK c cs TT mm hc hcc hT)
          have dJ := (cells_block wJ).1
          have dN := (cells_block wN).1
          by_cases hlast : k1 = N
          · have i6 : (k1 : Int) > (N0 : Int) := by omega
            have Hlast : Hid (k1 = N) := hlast
            have Hst : Hid (a = N) := Hstop.out (by omega)
            clear hlast
            gi_wp2
            refine ⟨wL, rfl, Hst.out, wK.put (by omega) _, ?_, put_other wD0 (by omega), put_other wD1 (by omega), ⟨_, World.putObj_heap_same (lt_of_get wL), rfl, rfl⟩, bel_grow wB (grownBy_putObj' V4 (Z + 1) _) wB.size (fun x e => by cases e; omega)⟩
            rw [← Hlast.out]
            exact put_other wJ (by omega)
          · have i6 : ¬ (k1 : Int) > (N0 : Int) := by omega
            gi_wp2
            exact ⟨wL, ⟨by omega, wK.put (by omega) _, put_other wJ (by omega), put_other wD0 (by omega), put_other wD1 (by omega), World.putObj_heap_same (lt_of_get wL), bel_grow wB (grownBy_putObj' V4 (Z + 1) _) wB.size (fun x e => by cases e; omega)⟩, fun c cs TT mm hc hcc hT => (World.putObj_heap_other (by omega)).trans (wT c cs TT mm hc hcc hT)⟩
        · obtain rfl := Hk1.out
          rintro e W' (⟨rfl, hIn, hK⟩ | ⟨rfl, c, rfl, hO1⟩)
          · exact .inl ⟨rfl, hIn, by rw [HSZ]; exact hK⟩
          · exact .inr ⟨rfl, hO1⟩

    · refine ⟨r, b4, (fun e => by rw [hrs] at e; cases e), .inr ⟨_, hrp, ?_⟩⟩
      rw [← haN'] at b2
      clear haN'
      have KV := Kx.put b1 (l := Y + 1 + 1 + 1 + 1 + 1) (by omega) (.loop { r with state := .exhausted })
      have vJ := put_other (o' := .loop { r with state := .exhausted }) b2 (show Y + 1 + 1 + 1 ≠ Y + 1 + 1 + 1 + 1 + 1 by omega)
      have vD := put_other (o' := .loop { r with state := .exhausted }) b3 (show Y + 1 + 1 + 1 + 1 ≠ Y + 1 + 1 + 1 + 1 + 1 by omega)
      have BV := bel_grow b5 (grownBy_putObj' W (Y + 1 + 1 + 1 + 1 + 1) (.loop { r with state := .exhausted })) b5.size (fun x e => by cases e; omega)
      obtain ⟨V, hV⟩ : ∃ V, W.putObj (Y + 1 + 1 + 1 + 1 + 1) (.loop { r with state := .exhausted }) = V := ⟨_, rfl⟩
      rw [hV] at KV vJ vD BV ⊢
      clear hV b1 b2 b3 b4 b5
      have vN := Kx.get KV (show S < Y + 1 + 1 + 1 + 1 by omega) (by omega) kN
      have vM := Kx.get KV (show S + 1 < Y + 1 + 1 + 1 + 1 by omega) (by omega) kM
      have vR := Kx.get KV (show S + 1 + 1 < Y + 1 + 1 + 1 + 1 by omega) (by omega) kR
      have vO := Kx.get KV (show w4.heap.size < Y + 1 + 1 + 1 + 1 by omega) (by omega) kO
      have vI := Kx.get KV (show Y < Y + 1 + 1 + 1 + 1 by omega) (by omega) kI
      have vQ := Kx.get KV (show Y + 1 + 1 < Y + 1 + 1 + 1 + 1 by omega) (by omega) kQ
      have vB := Kx.get KV (show Y + 1 < Y + 1 + 1 + 1 + 1 by omega) (by omega) kB
      have cvJ := (cells_block vJ).1
      have fvJ := (cells_block vJ).2
      have cvN := (cells_block vN).1
      have fvN := (cells_block vN).2
      have cvO := (cells_block vO).1
      have fvO := (cells_block vO).2
      have cvQ := (cells_block vQ).1
      have fvQ := (cells_block vQ).2
      have eaa : ((a : Int) != (a : Int)) = false := by simp
      obtain ⟨V2, hV2⟩ : ∃ V2, V.setCell ⟨Y + 1 + 1 + 1, 0, none⟩ (.int .i64 0) = V2 := ⟨_, rfl⟩
      have wJ : V2.heap[Y + 1 + 1 + 1]? = some (.cells #[.int .i64 0] 3 (0, 0)) := by rw [← hV2]; exact set_one _ vJ
      have wD : V2.heap[Y + 1 + 1 + 1 + 1]? = some (.deferred (some [])) := by rw [← hV2]; exact set_other vD (by omega)
      have KW : Kx (Y + 1 + 1 + 1) (Y + 1 + 1 + 1 + 1) X V2 := by rw [← hV2]; exact KV.set (.inl rfl)
      have BW : Below w.heap.size w V2 := by rw [← hV2]; exact BV.setCell (p := ⟨Y + 1 + 1 + 1, 0, none⟩) (by show w.heap.size ≤ Y + 1 + 1 + 1; omega) _
      have wQ := Kx.get KW (show Y + 1 + 1 < Y + 1 + 1 + 1 + 1 by omega) (by omega) kQ
      have cwQ := (cells_block wQ).1
      gi_wp2
      clear hV2
      clear cvJ fvJ cvN fvN cvO fvO cvQ fvQ cwQ KV vJ vD BV vN vM vR vO vI vQ vB
      obtain ⟨Z, hZ⟩ : ∃ Z, V2.heap.size = Z := ⟨_, rfl⟩
      have hZ0 : Y + 1 + 1 + 1 + 1 < Z := by rw [← hZ]; exact lt_of_get wD
      refine range_by rfl (by omega) (gf := 48) (lb := #[.pointer (some ⟨Y + 1, 0, none⟩)]) rfl trivial (enters_of Try.func48 (by kernel_rfl) rfl) ?_
      intro fn2 hfn2
      simp only [hZ]
      generalize hR2 : recOf fn2 _ _ _ _ _ = R2
      have rs2 : R2.state = .ready := by rw [← hR2]; rfl
      have rp2 : R2.pending = none := by rw [← hR2]; rfl
      have rf2 : R2.fn = fn2 := by rw [← hR2]; rfl
      have rq2 : R2.params = #[95] := by rw [← hR2]; rfl
      have d1 : ((V2.alloc (.deferred (some []))).alloc (.loop R2)).heap[Z]? = some (.deferred (some [])) := by rw [← hZ]; exact allocblk (alloc_get _ _) _
      have d2 : ((V2.alloc (.deferred (some []))).alloc (.loop R2)).heap[Z + 1]? = some (.loop R2) := by
        have := alloc_get (V2.alloc (.deferred (some []))) (.loop R2)
        simp only [World.size_alloc, hZ] at this
        exact this
      have d3 := allocblk (allocblk wJ (.deferred (some []))) (.loop R2)
      have d4 := allocblk (allocblk (Kx.get KW (show Y + 1 < Y + 1 + 1 + 1 + 1 by omega) (by omega) kB) (.deferred (some []))) (.loop R2)
      have d5 := Kx.alloc (Kx.alloc KW (.deferred (some []))) (.loop R2)
      have d6 := belA (belA BW (.deferred (some []))) (.loop R2)
      have d7 : ((V2.alloc (.deferred (some []))).alloc (.loop R2)).heap.size = Z + 1 + 1 := by simp [hZ]
      have d8 := allocblk (allocblk wD (.deferred (some []))) (.loop R2)
      obtain ⟨W9, hW9⟩ : ∃ W9, (V2.alloc (.deferred (some []))).alloc (.loop R2) = W9 := ⟨_, rfl⟩
      rw [hW9] at d1 d2 d3 d4 d5 d6 d7 d8 ⊢
      clear hW9 wJ wD KW BW wQ
      refine (mem_allb (8 - 1) (by omega) (Z + 1) (Y + 1) T gT
        (fun k W => k < N ∧ Kx (Y + 1 + 1 + 1) (Y + 1 + 1 + 1 + 1) X W ∧ W.heap[Y + 1 + 1 + 1]? = some (.cells #[.int .i64 (k : Int)] 3 (0, 0)) ∧ W.heap[Y + 1 + 1 + 1 + 1]? = some (.deferred (some [])) ∧ W.heap[Z]? = some (.deferred (some [])) ∧ W.heap[Z + 1]? = some (.loop R2) ∧ Below w.heap.size w W)
        (fun W => a = N ∧ Kx (Y + 1 + 1 + 1) (Y + 1 + 1 + 1 + 1) X W ∧ W.heap[Y + 1 + 1 + 1]? = some (.cells #[.int .i64 (N : Int)] 3 (0, 0)) ∧ W.heap[Y + 1 + 1 + 1 + 1]? = some (.deferred (some [])) ∧ W.heap[Z]? = some (.deferred (some [])) ∧ (∃ r, W.heap[Z + 1]? = some (.loop r) ∧ r.state = .done ∧ r.pending = some (.exit 4)) ∧ Below w.heap.size w W)
        W9 ?hst2 ?hY2 d4 ?h02).mono ?post2
      case h02 => exact ⟨by omega, d5, d3, d8, d1, d2, d6⟩
      case hst2 =>
        rintro k W W' row ⟨hk, b1, b2, b3, b4, b4', b5⟩ hg hrow
        have ne : ∀ x, x < Z + 1 + 1 → some x ≠ row := fun x hx e => by have := (hrow x e.symm).1; omega
        exact ⟨hk, b1.grow hg (fun r e => by have := (hrow r e).1; omega), (hg.block _ (lt_of_get b2) (ne _ (by omega))).trans b2, (hg.block _ (lt_of_get b3) (ne _ (by omega))).trans b3, (hg.block _ (lt_of_get b4) (ne _ (by omega))).trans b4, (hg.block _ (lt_of_get b4') (ne _ (by omega))).trans b4', bel_grow b5 hg b5.size (fun x e => by have := (hrow x e).1; omega)⟩
      case post2 =>
        rintro e W ⟨hv, hJ⟩
        refine ⟨hv, ?_⟩
        rcases hJ with ⟨k, hfin, hk, b1, b2, b3, b4, b4', b5⟩ | ⟨haN', b1, b2, b3, b4, ⟨r, b4', hrs, hrp⟩, b5⟩
        · obtain rfl := cnt_fin ha.out hfin (by omega)
          refine ⟨R2, b4', (fun e => by rw [rs2] at e; cases e), .inl ⟨rp2, ?_⟩⟩
          clear hfin hk
          have KV := Kx.put b1 (l := Z + 1) (by omega) (.loop { R2 with state := .exhausted })
          have vJ := put_other (o' := .loop { R2 with state := .exhausted }) b2 (show Y + 1 + 1 + 1 ≠ Z + 1 by omega)
          have vD := put_other (o' := .loop { R2 with state := .exhausted }) b3 (show Y + 1 + 1 + 1 + 1 ≠ Z + 1 by omega)
          have vZ := put_other (o' := .loop { R2 with state := .exhausted }) b4 (show Z ≠ Z + 1 by omega)
          have BV := bel_grow b5 (grownBy_putObj' W (Z + 1) (.loop { R2 with state := .exhausted })) b5.size (fun x e => by cases e; omega)
          obtain ⟨V, hV⟩ : ∃ V, W.putObj (Z + 1) (.loop { R2 with state := .exhausted }) = V := ⟨_, rfl⟩
          rw [hV] at KV vJ vD vZ BV ⊢
          clear hV b1 b2 b3 b4 b4' b5
          have vO := Kx.get KV (show w4.heap.size < Y + 1 + 1 + 1 + 1 by omega) (by omega) kO
          have vR := Kx.get KV (show S + 1 + 1 < Y + 1 + 1 + 1 + 1 by omega) (by omega) kR
          have cJ := (cells_block vJ).1
          have cO' := (cells_block vO).1
          have cR := (cells_block vR).1
          have fR := (cells_block vR).2
          have eaa : ((a : Int) == (a : Int)) = true := by simp
          gi_wp2
          have kD2 := set_other (b := S + 1 + 1) (p := 0) (v := .bool true) vZ (by omega)
          have kD1 := put_other (b := Z) (o' := .deferred none) (set_other (b := S + 1 + 1) (p := 0) (v := .bool true) vD (by omega)) (by omega)
          have kR' := put_other (b := Y + 1 + 1 + 1 + 1) (o' := .deferred none) (put_other (b := Z) (o' := .deferred none) (set_one (.bool true) vR) (by omega)) (by omega)
          refine ⟨by simp, .inl ⟨_, _, rfl, run_takeDeferred kD2, ?_⟩⟩
          refine ⟨by simp, .inl ⟨_, _, rfl, run_takeDeferred kD1, ?_⟩⟩
          have BE := bel_grow (bel_grow (BV.setCell (p := ⟨S + 1 + 1, 0, none⟩) (by show w.heap.size ≤ S + 1 + 1; rw [Hs.out]; omega) (.bool true)) (grownBy_putObj' _ Z (.deferred none)) (by have := BV.size; simpa [World.setCell] using this) (fun x e => by cases e; omega)) (grownBy_putObj' _ (Y + 1 + 1 + 1 + 1) (.deferred none)) (by have := BV.size; simpa [World.setCell] using this) (fun x e => by cases e; omega)
          exact ⟨_, res_bool1 _ _ (S + 1 + 1) true rfl rfl kR', rfl, BE⟩

        · refine ⟨r, b4', (fun e => by rw [hrs] at e; cases e), .inr ⟨_, hrp, ?_⟩⟩
          rw [← haN'] at b2
          clear haN'
          have KV := Kx.put b1 (l := Z + 1) (by omega) (.loop { r with state := .exhausted })
          have vJ := put_other (o' := .loop { r with state := .exhausted }) b2 (show Y + 1 + 1 + 1 ≠ Z + 1 by omega)
          have vD := put_other (o' := .loop { r with state := .exhausted }) b3 (show Y + 1 + 1 + 1 + 1 ≠ Z + 1 by omega)
          have vZ := put_other (o' := .loop { r with state := .exhausted }) b4 (show Z ≠ Z + 1 by omega)
          have BV := bel_grow b5 (grownBy_putObj' W (Z + 1) (.loop { r with state := .exhausted })) b5.size (fun x e => by cases e; omega)
          obtain ⟨V, hV⟩ : ∃ V, W.putObj (Z + 1) (.loop { r with state := .exhausted }) = V := ⟨_, rfl⟩
          rw [hV] at KV vJ vD vZ BV ⊢
          clear hV b1 b2 b3 b4 b4' b5
          have vO := Kx.get KV (show w4.heap.size < Y + 1 + 1 + 1 + 1 by omega) (by omega) kO
          have vR := Kx.get KV (show S + 1 + 1 < Y + 1 + 1 + 1 + 1 by omega) (by omega) kR
          have cJ := (cells_block vJ).1
          have cO' := (cells_block vO).1
          have cR := (cells_block vR).1
          have fR := (cells_block vR).2
          have eaa : ((a : Int) == (a : Int)) = true := by simp
          gi_wp2
          have kD2 := set_other (b := S + 1 + 1) (p := 0) (v := .bool true) vZ (by omega)
          have kD1 := put_other (b := Z) (o' := .deferred none) (set_other (b := S + 1 + 1) (p := 0) (v := .bool true) vD (by omega)) (by omega)
          have kR' := put_other (b := Y + 1 + 1 + 1 + 1) (o' := .deferred none) (put_other (b := Z) (o' := .deferred none) (set_one (.bool true) vR) (by omega)) (by omega)
          refine ⟨by simp, .inl ⟨_, _, rfl, run_takeDeferred kD2, ?_⟩⟩
          refine ⟨by simp, .inl ⟨_, _, rfl, run_takeDeferred kD1, ?_⟩⟩
          have BE := bel_grow (bel_grow (BV.setCell (p := ⟨S + 1 + 1, 0, none⟩) (by show w.heap.size ≤ S + 1 + 1; rw [Hs.out]; omega) (.bool true)) (grownBy_putObj' _ Z (.deferred none)) (by have := BV.size; simpa [World.setCell] using this) (fun x e => by cases e; omega)) (grownBy_putObj' _ (Y + 1 + 1 + 1 + 1) (.deferred none)) (by have := BV.size; simpa [World.setCell] using this) (fun x e => by cases e; omega)
          exact ⟨_, res_bool1 _ _ (S + 1 + 1) true rfl rfl kR', rfl, BE⟩

      case hY2 =>
        have HSZ : W9.heap.size = Z + 1 + 1 := d7
        clear a1 a2 a3 a4 a5 a6 a7 d1 d2 d3 d4 d5 d6 d7 d8
        rintro k W ht hlv ⟨hk, b1, b2, e0, e1, b4', b5⟩
        have hka : k < a := cnt_lt ha.out ht hlv hk
        obtain ⟨hq, hg1, hg2, hgc⟩ := hO.out k hka
        have Hstop : Hid (k + 1 = N → a = N) := fun e => cnt_stop ha.out ht hlv e
        obtain ⟨k1, hk1⟩ : ∃ k1 : Nat, k1 = k + 1 := ⟨_, rfl⟩
        have i1 : (k : Int) + 1 = (k1 : Int) := by omega
        have Hk1 : Hid (k1 = k + 1) := hk1
        clear hk1
        have i2 : IntKind.i64.wrap (k1 : Int) = (k1 : Int) := by rw [IntKind.wrap_i64]; omega
        have i3 : (0 : Int) ≤ (k : Int) := by omega
        have i4 : (k : Int) < (a : Int) := by omega
        have i5 : ¬ (k : Int) ≥ (a : Int) := by omega
        have KV := Kx.put b1 (l := Z + 1) (by omega) (.loop { R2 with state := .busy })
        have vJ := put_other (o' := .loop { R2 with state := .busy }) b2 (show Y + 1 + 1 + 1 ≠ Z + 1 by omega)
        have g0 := put_other (o' := .loop { R2 with state := .busy }) e0 (show Y + 1 + 1 + 1 + 1 ≠ Z + 1 by omega)
        have g1 := put_other (o' := .loop { R2 with state := .busy }) e1 (show Z ≠ Z + 1 by omega)
        have vL : (W.putObj (Z + 1) (.loop { R2 with state := .busy })).heap[Z + 1]? = some (.loop { R2 with state := .busy }) := World.putObj_heap_same (lt_of_get b4')
        have BV := bel_grow b5 (grownBy_putObj' W (Z + 1) (.loop { R2 with state := .busy })) b5.size (fun x e => by cases e; omega)
        have VK : KTb (Z + 1 + 1) W (W.putObj (Z + 1) (.loop { R2 with state := .busy })) := fun c cs TT mm hc hcc _ => World.putObj_heap_other (by omega)
        refine (round_by (F := Fence.wide) (m := 8 - 1 - 1) (In := fun W' => (k1 < N ∧ Kx (Y + 1 + 1 + 1) (Y + 1 + 1 + 1 + 1) X W' ∧ W'.heap[Y + 1 + 1 + 1]? = some (.cells #[.int .i64 (k1 : Int)] 3 (0, 0)) ∧ W'.heap[Y + 1 + 1 + 1 + 1]? = some (.deferred (some [])) ∧ W'.heap[Z]? = some (.deferred (some [])) ∧ W'.heap[Z + 1]? = some (.loop R2) ∧ Below w.heap.size w W') ∧ KTb (Z + 1 + 1) W W')
          (Out := fun c W' => c = .exit 4 ∧ a = N ∧ Kx (Y + 1 + 1 + 1) (Y + 1 + 1 + 1 + 1) X W' ∧ W'.heap[Y + 1 + 1 + 1]? = some (.cells #[.int .i64 (N : Int)] 3 (0, 0)) ∧ W'.heap[Y + 1 + 1 + 1 + 1]? = some (.deferred (some [])) ∧ W'.heap[Z]? = some (.deferred (some [])) ∧ (∃ r, W'.heap[Z + 1]? = some (.loop r) ∧ r.state = .done ∧ r.pending = some c) ∧ Below w.heap.size w W')
          (by rw [rf2]; exact hfn2) b4' rs2 rp2 (by rw [rq2]; rfl) { tmps := (R2.tmps.setIfInBounds 95 (.string ⟨(ms T k).toArray⟩)).setIfInBounds 17 (.string ⟨(ms T k).toArray⟩), defers := [] } ?has4 ?hb4).mono ?_
        case has4 =>
          intro K hK
          rw [congrArg Loop.assign hR2.symm, rq2, congrArg Loop.tmps hR2.symm]
          rw [congrArg Loop.tmps hR2.symm] at hK
          simp only [recOf, List.zip_toArray, List.zip_cons_cons, List.zip_nil_right, List.foldl_toArray', List.foldl_cons, List.foldl_nil, List.setIfInBounds_toArray, List.size_toArray, List.length_cons, List.length_nil, List.set_cons_zero, List.set_cons_succ] at hK ⊢
          clear hR2 KV vJ g0 g1 vL BV VK b1 b2 e0 e1 b4' b5 i1 i2 i3 i4 i5
          gi_wp2
          exact hK
        case hb4 =>
          have gcell : (W.putObj (Z + 1) (.loop { R2 with state := .busy })).cell? ⟨gO, k, none⟩ = some (.string ⟨(ms T k).toArray⟩) := (World.cell?_of_block (a := ⟨gO, k, none⟩) (KV.2 gO hg1 hg2)).trans hgc
          have vN := Kx.get KV (show S < Y + 1 + 1 + 1 + 1 by omega) (by omega) kN
          have vO := Kx.get KV (show w4.heap.size < Y + 1 + 1 + 1 + 1 by omega) (by omega) kO
          obtain ⟨V, hV⟩ : ∃ V, W.putObj (Z + 1) (.loop { R2 with state := .busy }) = V := ⟨_, rfl⟩
          rw [hV] at KV vJ g0 g1 vL BV VK gcell vN vO ⊢
          rw [congrArg Loop.body hR2.symm, congrArg Loop.tmps hR2.symm]
          simp only [recOf, List.setIfInBounds_toArray, List.set_cons_zero, List.set_cons_succ]
          clear hR2
          clear hV b1 b2  e0 e1 b4' b5
          subst hq
          have cJ := (cells_block vJ).1
          have fJ := (cells_block vJ).2
          have cN := (cells_block vN).1
          have cO' := (cells_block vO).1
          obtain ⟨V4, hV4⟩ : ∃ V4, V.setCell ⟨Y + 1 + 1 + 1, 0, none⟩ (.int .i64 (k1 : Int)) = V4 := ⟨_, rfl⟩
          have wJ : V4.heap[Y + 1 + 1 + 1]? = some (.cells #[.int .i64 (k1 : Int)] 3 (0, 0)) := by rw [← hV4]; exact set_one _ vJ
          have wN : V4.heap[S]? = some (.cells #[.int .i64 (N0 : Int)] 3 (0, 0)) := by rw [← hV4]; exact set_other vN (by omega)
          have wL : V4.heap[Z + 1]? = some (.loop { R2 with state := .busy }) := by rw [← hV4]; exact set_other vL (by omega)
          have wD0 : V4.heap[Y + 1 + 1 + 1 + 1]? = some (.deferred (some [])) := by rw [← hV4]; exact set_other g0 (by omega)
          have wD1 : V4.heap[Z]? = some (.deferred (some [])) := by rw [← hV4]; exact set_other g1 (by omega)
          have wK : Kx (Y + 1 + 1 + 1) (Y + 1 + 1 + 1 + 1) X V4 := by rw [← hV4]; exact KV.set (by omega)
          have wB : Below w.heap.size w V4 := by rw [← hV4]; exact BV.setCell (p := ⟨Y + 1 + 1 + 1, 0, none⟩) (by show w.heap.size ≤ Y + 1 + 1 + 1; omega) _
          have wT : KTb (Z + 1 + 1) W V4 := fun c cs TT mm hc hcc hT => by
            rw [← hV4]
            exact (Below.heap_setCell _ _ _ _ (fun e => by have e' : c = Y + 1 + 1 + 1 := e; omega)).trans (VK c cs TT mm hc hcc hT)
          have dJ := (cells_block wJ).1
          have dN := (cells_block wN).1
          by_cases hlast : k1 = N
          · have i6 : (k1 : Int) > (N0 : Int) := by omega
            have Hlast : Hid (k1 = N) := hlast
            have Hst : Hid (a = N) := Hstop.out (by omega)
            clear hlast
            gi_wp2
            refine ⟨wL, rfl, Hst.out, wK.put (by omega) _, ?_, put_other wD0 (by omega), put_other wD1 (by omega), ⟨_, World.putObj_heap_same (lt_of_get wL), rfl, rfl⟩, bel_grow wB (grownBy_putObj' V4 (Z + 1) _) wB.size (fun x e => by cases e; omega)⟩
            rw [← Hlast.out]
            exact put_other wJ (by omega)
          · have i6 : ¬ (k1 : Int) > (N0 : Int) := by omega
            gi_wp2
            exact ⟨wL, ⟨by omega, wK.put (by omega) _, put_other wJ (by omega), put_other wD0 (by omega), put_other wD1 (by omega), World.putObj_heap_same (lt_of_get wL), bel_grow wB (grownBy_putObj' V4 (Z + 1) _) wB.size (fun x e => by cases e; omega)⟩, fun c cs TT mm hc hcc hT => (World.putObj_heap_other (by omega)).trans (wT c cs TT mm hc hcc hT)⟩
        · obtain rfl := Hk1.out
          rintro e W' (⟨rfl, hIn, hK⟩ | ⟨rfl, c, rfl, hO1⟩)
          · exact .inl ⟨rfl, hIn, by rw [HSZ]; exact hK⟩
          · exact .inr ⟨rfl, hO1⟩

  case hYY =>
    have HSZ : W0.heap.size = Y + 1 + 1 + 1 + 1 + 1 + 1 := a7
    clear a1 a2 a3 a4 a5 a6 a7
    rintro k W ht hlv ⟨hk, b1, b2, e0, b4', b5⟩
    have hka : k < a := cnt_lt ha.out ht hlv hk
    obtain ⟨hq, hg1, hg2, hgc⟩ := hO.out k hka
    have Hstop : Hid (k + 1 = N → a = N) := fun e => cnt_stop ha.out ht hlv e
    obtain ⟨k1, hk1⟩ : ∃ k1 : Nat, k1 = k + 1 := ⟨_, rfl⟩
    have i1 : (k : Int) + 1 = (k1 : Int) := by omega
    have Hk1 : Hid (k1 = k + 1) := hk1
    clear hk1
    have i2 : IntKind.i64.wrap (k1 : Int) = (k1 : Int) := by rw [IntKind.wrap_i64]; omega
    have i3 : (0 : Int) ≤ (k : Int) := by omega
    have i4 : (k : Int) < (a : Int) := by omega
    have i5 : ¬ (k : Int) ≥ (a : Int) := by omega
    have KV := Kx.put b1 (l := Y + 1 + 1 + 1 + 1 + 1) (by omega) (.loop { R with state := .busy })
    have vJ := put_other (o' := .loop { R with state := .busy }) b2 (show Y + 1 + 1 + 1 ≠ Y + 1 + 1 + 1 + 1 + 1 by omega)
    have g0 := put_other (o' := .loop { R with state := .busy }) e0 (show Y + 1 + 1 + 1 + 1 ≠ Y + 1 + 1 + 1 + 1 + 1 by omega)
    have vL : (W.putObj (Y + 1 + 1 + 1 + 1 + 1) (.loop { R with state := .busy })).heap[Y + 1 + 1 + 1 + 1 + 1]? = some (.loop { R with state := .busy }) := World.putObj_heap_same (lt_of_get b4')
    have BV := bel_grow b5 (grownBy_putObj' W (Y + 1 + 1 + 1 + 1 + 1) (.loop { R with state := .busy })) b5.size (fun x e => by cases e; omega)
    have VK : KTb (Y + 1 + 1 + 1 + 1 + 1 + 1) W (W.putObj (Y + 1 + 1 + 1 + 1 + 1) (.loop { R with state := .busy })) := fun c cs TT mm hc hcc _ => World.putObj_heap_other (by omega)
    refine (round_by (F := Fence.wide) (m := 8 - 1 - 1) (In := fun W' => (k1 < N ∧ Kx (Y + 1 + 1 + 1) (Y + 1 + 1 + 1 + 1) X W' ∧ W'.heap[Y + 1 + 1 + 1]? = some (.cells #[.int .i64 (k1 : Int)] 3 (0, 0)) ∧ W'.heap[Y + 1 + 1 + 1 + 1]? = some (.deferred (some [])) ∧ W'.heap[Y + 1 + 1 + 1 + 1 + 1]? = some (.loop R) ∧ Below w.heap.size w W') ∧ KTb (Y + 1 + 1 + 1 + 1 + 1 + 1) W W')
      (Out := fun c W' => c = .exit 0 ∧ a = N ∧ Kx (Y + 1 + 1 + 1) (Y + 1 + 1 + 1 + 1) X W' ∧ W'.heap[Y + 1 + 1 + 1]? = some (.cells #[.int .i64 (N : Int)] 3 (0, 0)) ∧ W'.heap[Y + 1 + 1 + 1 + 1]? = some (.deferred (some [])) ∧ (∃ r, W'.heap[Y + 1 + 1 + 1 + 1 + 1]? = some (.loop r) ∧ r.state = .done ∧ r.pending = some c) ∧ Below w.heap.size w W')
      (by rw [rf]; exact hfn) b4' rs rp (by rw [rq]; rfl) { tmps := (R.tmps.setIfInBounds 49 (.string ⟨(ms T k).toArray⟩)).setIfInBounds 14 (.string ⟨(ms T k).toArray⟩), defers := [] } ?has0 ?hb0).mono ?_
    case has0 =>
      intro K hK
      rw [congrArg Loop.assign hR.symm, rq, congrArg Loop.tmps hR.symm]
      rw [congrArg Loop.tmps hR.symm] at hK
      simp only [recOf, List.zip_toArray, List.zip_cons_cons, List.zip_nil_right, List.foldl_toArray', List.foldl_cons, List.foldl_nil, List.setIfInBounds_toArray, List.size_toArray, List.length_cons, List.length_nil, List.set_cons_zero, List.set_cons_succ] at hK ⊢
      clear hR KV vJ g0 vL BV VK b1 b2 e0 b4' b5 i1 i2 i3 i4 i5
      gi_wp2
      exact hK
    case hb0 =>
      have gcell : (W.putObj (Y + 1 + 1 + 1 + 1 + 1) (.loop { R with state := .busy })).cell? ⟨gO, k, none⟩ = some (.string ⟨(ms T k).toArray⟩) := (World.cell?_of_block (a := ⟨gO, k, none⟩) (KV.2 gO hg1 hg2)).trans hgc
      have vN := Kx.get KV (show S < Y + 1 + 1 + 1 + 1 by omega) (by omega) kN
      have vM := Kx.get KV (show S + 1 < Y + 1 + 1 + 1 + 1 by omega) (by omega) kM
      have vI := Kx.get KV (show Y < Y + 1 + 1 + 1 + 1 by omega) (by omega) kI
      have vQ := Kx.get KV (show Y + 1 + 1 < Y + 1 + 1 + 1 + 1 by omega) (by omega) kQ
      have vB := Kx.get KV (show Y + 1 < Y + 1 + 1 + 1 + 1 by omega) (by omega) kB
      have HVW : Hid (W.heap.size = (W.putObj (Y + 1 + 1 + 1 + 1 + 1) (.loop { R with state := .busy })).heap.size) := by unfold Hid; simp
      have vO := Kx.get KV (show w4.heap.size < Y + 1 + 1 + 1 + 1 by omega) (by omega) kO
      obtain ⟨V, hV⟩ : ∃ V, W.putObj (Y + 1 + 1 + 1 + 1 + 1) (.loop { R with state := .busy }) = V := ⟨_, rfl⟩
      rw [hV] at KV vJ g0 vL BV VK gcell vN vO vM vI vQ vB HVW ⊢
      rw [congrArg Loop.body hR.symm, congrArg Loop.tmps hR.symm]
      simp only [recOf, List.setIfInBounds_toArray, List.set_cons_zero, List.set_cons_succ]
      clear hR
      clear hV b1 b2  e0 b4' b5
      subst hq
      have cJ := (cells_block vJ).1
      have fJ := (cells_block vJ).2
      have cN := (cells_block vN).1
      have cO' := (cells_block vO).1
      obtain ⟨kb, hkb⟩ : ∃ kb, V.heap.size = kb := ⟨_, rfl⟩
      have hkX : Y + 1 + 1 + 1 + 1 + 1 < kb := by rw [← hkb]; exact lt_of_get vL
      have hI2 : Hid (∀ i, i < b → qI = some ⟨gI, 0, none⟩ ∧ gI < kb ∧ gI ≠ kb ∧ V.cell? ⟨gI, i, none⟩ = some (.string ⟨(ms T i).toArray⟩)) := fun i hi => by
        obtain ⟨u1, u2, u3, u4⟩ := hI.out i hi
        exact ⟨u1, by omega, by omega, (World.cell?_of_block (a := ⟨gI, i, none⟩) (KV.2 gI u2 u3)).trans u4⟩
      have cQ := (cells_block (allocblk vQ (.cells #[.int .i64 0] 3))).1
      gi_wp2
      refine range_in (F := Fence.wide.inRound (Y + 1 + 1 + 1 + 1 + 1)) (n := 8 - 1 - 1) (P := Try.prog) (l0 := Y + 1 + 1 + 1 + 1 + 1) rfl (allocblk vL _) (show 1 ≤ 8 - 1 - 1 by decide) (gf := 48) (lb := #[.pointer (some ⟨Y + 1, 0, none⟩)]) rfl trivial (enters_of Try.func48 (by kernel_rfl) rfl) ?_
      intro fn3 hfn3
      simp only [World.size_alloc, hkb]
      generalize hR3 : recOf fn3 _ _ _ _ _ = R3
      have rs3 : R3.state = .ready := by rw [← hR3]; rfl
      have rp3 : R3.pending = none := by rw [← hR3]; rfl
      have rf3 : R3.fn = fn3 := by rw [← hR3]; rfl
      have rq3 : R3.params = #[63] := by rw [← hR3]; rfl
      have p1 : ((V.alloc (.cells #[.int .i64 0] 3)).alloc (.loop R3)).heap[kb]? = some (.cells #[.int .i64 0] 3 (0, 0)) := by rw [← hkb]; exact allocblk (alloc_get _ _) _
      have p2 : ((V.alloc (.cells #[.int .i64 0] 3)).alloc (.loop R3)).heap[kb + 1]? = some (.loop R3) := by
        have := alloc_get (V.alloc (.cells #[.int .i64 0] 3)) (.loop R3)
        simp only [World.size_alloc, hkb] at this
        exact this
      have p3 : Kx kb kb V ((V.alloc (.cells #[.int .i64 0] 3)).alloc (.loop R3)) := Kx.alloc (Kx.alloc ⟨by rw [hkb]; exact Nat.le_refl _, fun _ _ _ => rfl⟩ _) _
      have p4 := allocblk (allocblk vB (.cells #[.int .i64 0] 3)) (.loop R3)
      have p6 := belA (belA BV (.cells #[.int .i64 0] 3)) (.loop R3)
      have p7 : ((V.alloc (.cells #[.int .i64 0] 3)).alloc (.loop R3)).heap.size = kb + 1 + 1 := by simp [hkb]
      obtain ⟨W8, hW8⟩ : ∃ W8, (V.alloc (.cells #[.int .i64 0] 3)).alloc (.loop R3) = W8 := ⟨_, rfl⟩
      rw [hW8] at p1 p2 p3 p4 p6 p7 ⊢
      clear hW8 cQ cJ fJ cN cO'
      refine (CallsIn.inRound (Y + 1 + 1 + 1 + 1 + 1) (mem_allb (8 - 1 - 1 - 1) (by omega) (kb + 1) (Y + 1) T gT
        (fun j W => j < M ∧ Kx kb kb V W ∧ W.heap[kb]? = some (.cells #[.int .i64 (j : Int)] 3 (0, 0)) ∧ W.heap[kb + 1]? = some (.loop R3) ∧ Below w.heap.size w W)
        (fun W => b = M ∧ Kx kb kb V W ∧ W.heap[kb]? = some (.cells #[.int .i64 (M : Int)] 3 (0, 0)) ∧ (∃ r, W.heap[kb + 1]? = some (.loop r) ∧ r.state = .done ∧ r.pending = some (.exit 2)) ∧ Below w.heap.size w W)
        W8 ?hst3 ?hY3 p4 ?h03)).mono ?post3
      case h03 => exact ⟨by omega, p3, p1, p2, p6⟩
      case hst3 =>
        rintro k W W' row ⟨hk, b1, b2, b4, b5⟩ hg hrow
        have ne : ∀ x, x < kb + 1 + 1 → some x ≠ row := fun x hx e => by have := (hrow x e.symm).1; omega
        exact ⟨hk, b1.grow hg (fun r e => by have := (hrow r e).1; omega), (hg.block _ (lt_of_get b2) (ne _ (by omega))).trans b2, (hg.block _ (lt_of_get b4) (ne _ (by omega))).trans b4, bel_grow b5 hg b5.size (fun x e => by have := (hrow x e).1; omega)⟩
      case hY3 =>
        have HSZ : W8.heap.size = kb + 1 + 1 := p7
        clear p1 p2 p3 p4 p6 p7 i1 i2 i3 i4 i5 hka Hstop Hk1 hlv hk
        rintro k W ht hlv ⟨hk, b1, b2, b4', b5⟩
        have hka : k < b := cnt_lt hb.out ht hlv hk
        obtain ⟨hq, hg1, hg2, hgc⟩ := hI2.out k hka
        have Hstop : Hid (k + 1 = M → b = M) := fun e => cnt_stop hb.out ht hlv e
        obtain ⟨k1, hk1⟩ : ∃ k1 : Nat, k1 = k + 1 := ⟨_, rfl⟩
        have i1 : (k : Int) + 1 = (k1 : Int) := by omega
        have Hk1 : Hid (k1 = k + 1) := hk1
        clear hk1
        have i2 : IntKind.i64.wrap (k1 : Int) = (k1 : Int) := by rw [IntKind.wrap_i64]; omega
        have i3 : (0 : Int) ≤ (k : Int) := by omega
        have i4 : (k : Int) < (b : Int) := by omega
        have i5 : ¬ (k : Int) ≥ (b : Int) := by omega
        have KV := Kx.put b1 (l := kb + 1) (by omega) (.loop { R3 with state := .busy })
        have vJ := put_other (o' := .loop { R3 with state := .busy }) b2 (show kb ≠ kb + 1 by omega)
        have vL : (W.putObj (kb + 1) (.loop { R3 with state := .busy })).heap[kb + 1]? = some (.loop { R3 with state := .busy }) := World.putObj_heap_same (lt_of_get b4')
        have BV := bel_grow b5 (grownBy_putObj' W (kb + 1) (.loop { R3 with state := .busy })) b5.size (fun x e => by cases e; omega)
        have VK : KTb (kb + 1 + 1) W (W.putObj (kb + 1) (.loop { R3 with state := .busy })) := fun c cs TT mm hc hcc _ => World.putObj_heap_other (by omega)
        refine (round_by (F := Fence.wide) (m := 8 - 1 - 1 - 1 - 1) (In := fun W' => (k1 < M ∧ Kx (kb) (kb) V W' ∧ W'.heap[kb]? = some (.cells #[.int .i64 (k1 : Int)] 3 (0, 0)) ∧ W'.heap[kb + 1]? = some (.loop R3) ∧ Below w.heap.size w W') ∧ KTb (kb + 1 + 1) W W')
          (Out := fun c W' => c = .exit 2 ∧ b = M ∧ Kx (kb) (kb) V W' ∧ W'.heap[kb]? = some (.cells #[.int .i64 (M : Int)] 3 (0, 0)) ∧ (∃ r, W'.heap[kb + 1]? = some (.loop r) ∧ r.state = .done ∧ r.pending = some c) ∧ Below w.heap.size w W')
          (by rw [rf3]; exact hfn3) b4' rs3 rp3 (by rw [rq3]; rfl) { tmps := (R3.tmps.setIfInBounds 63 (.string ⟨(ms T k).toArray⟩)).setIfInBounds 16 (.string ⟨(ms T k).toArray⟩), defers := [] } ?has2 ?hb2).mono ?_
        case has2 =>
          intro K hK
          rw [congrArg Loop.assign hR3.symm, rq3, congrArg Loop.tmps hR3.symm]
          rw [congrArg Loop.tmps hR3.symm] at hK
          simp only [recOf, List.zip_toArray, List.zip_cons_cons, List.zip_nil_right, List.foldl_toArray', List.foldl_cons, List.foldl_nil, List.setIfInBounds_toArray, List.size_toArray, List.length_cons, List.length_nil, List.set_cons_zero, List.set_cons_succ] at hK ⊢
          clear hR3 KV vJ  vL BV VK b1 b2 b4' b5 i1 i2 i3 i4 i5
          gi_wp2
          exact hK
        case hb2 =>
          have gcell : (W.putObj (kb + 1) (.loop { R3 with state := .busy })).cell? ⟨gI, k, none⟩ = some (.string ⟨(ms T k).toArray⟩) := (World.cell?_of_block (a := ⟨gI, k, none⟩) (KV.2 gI hg1 hg2)).trans hgc
          have vN := Kx.get KV (show S + 1 < kb by omega) (by omega) vM
          have vO := Kx.get KV (show Y < kb by omega) (by omega) vI
          obtain ⟨U1, hV⟩ : ∃ U1, W.putObj (kb + 1) (.loop { R3 with state := .busy }) = U1 := ⟨_, rfl⟩
          rw [hV] at KV vJ  vL BV VK gcell vN vO ⊢
          rw [congrArg Loop.body hR3.symm, congrArg Loop.tmps hR3.symm]
          simp only [recOf, List.setIfInBounds_toArray, List.set_cons_zero, List.set_cons_succ]
          clear hR3
          clear hV b1 b2  b4' b5
          subst hq
          have cJ := (cells_block vJ).1
          have fJ := (cells_block vJ).2
          have cN := (cells_block vN).1
          have cO' := (cells_block vO).1
          obtain ⟨V4, hV4⟩ : ∃ V4, U1.setCell ⟨kb, 0, none⟩ (.int .i64 (k1 : Int)) = V4 := ⟨_, rfl⟩
          have wJ : V4.heap[kb]? = some (.cells #[.int .i64 (k1 : Int)] 3 (0, 0)) := by rw [← hV4]; exact set_one _ vJ
          have wN : V4.heap[S + 1]? = some (.cells #[.int .i64 (M0 : Int)] 3 (0, 0)) := by rw [← hV4]; exact set_other vN (by omega)
          have wL : V4.heap[kb + 1]? = some (.loop { R3 with state := .busy }) := by rw [← hV4]; exact set_other vL (by omega)
          have wK : Kx (kb) (kb) V V4 := by rw [← hV4]; exact KV.set (by omega)
          have wB : Below w.heap.size w V4 := by rw [← hV4]; exact BV.setCell (p := ⟨kb, 0, none⟩) (by show w.heap.size ≤ kb; omega) _
          have wT : KTb (kb + 1 + 1) W V4 := fun c cs TT mm hc hcc hT => by
            rw [← hV4]
            exact (Below.heap_setCell _ _ _ _ (fun e => by have e' : c = kb := e; omega)).trans (VK c cs TT mm hc hcc hT)
          have dJ := (cells_block wJ).1
          have dN := (cells_block wN).1
          by_cases hlast : k1 = M
          · have i6 : (k1 : Int) > (M0 : Int) := by omega
            have Hlast : Hid (k1 = M) := hlast
            have Hst : Hid (b = M) := Hstop.out (by omega)
            clear hlast
            gi_wp2
            refine ⟨wL, rfl, Hst.out, wK.put (by omega) _, ?_, ⟨_, World.putObj_heap_same (lt_of_get wL), rfl, rfl⟩, bel_grow wB (grownBy_putObj' V4 (kb + 1) _) wB.size (fun x e => by cases e; omega)⟩
            rw [← Hlast.out]
            exact put_other wJ (by omega)
          · have i6 : ¬ (k1 : Int) > (M0 : Int) := by omega
            gi_wp2
            exact ⟨wL, ⟨by omega, wK.put (by omega) _, put_other wJ (by omega), World.putObj_heap_same (lt_of_get wL), bel_grow wB (grownBy_putObj' V4 (kb + 1) _) wB.size (fun x e => by cases e; omega)⟩, fun c cs TT mm hc hcc hT => (World.putObj_heap_other (by omega)).trans (wT c cs TT mm hc hcc hT)⟩
        · obtain rfl := Hk1.out
          rintro e W' (⟨rfl, hIn, hK⟩ | ⟨rfl, c, rfl, hO1⟩)
          · exact .inl ⟨rfl, hIn, by rw [HSZ]; exact hK⟩
          · exact .inr ⟨rfl, hO1⟩

      case post3 =>
        rintro e W3 ⟨hv3, hJ3⟩
        refine ⟨hv3, ?_⟩
        clear p1 p2 p3 p4 p6 p7
        rcases hJ3 with ⟨j, hfin3, hj, q1, q2, q4, q5⟩ | ⟨hbM', q1, q2, ⟨r3, q4, hrs3, hrp3⟩, q5⟩
        · obtain rfl := cnt_fin hb.out hfin3 (by omega)
          refine ⟨R3, q4, (fun e => by rw [rs3] at e; cases e), .inl ⟨rp3, ?_⟩⟩
          clear hfin3 hj
          have KU0 := Kx.put q1 (l := kb + 1) (by omega) (.loop { R3 with state := .exhausted })
          have uK := put_other (o' := .loop { R3 with state := .exhausted }) q2 (show kb ≠ kb + 1 by omega)
          have BU := bel_grow q5 (grownBy_putObj' W3 (kb + 1) (.loop { R3 with state := .exhausted })) q5.size (fun x e => by cases e; omega)
          obtain ⟨U, hU⟩ : ∃ U, W3.putObj (kb + 1) (.loop { R3 with state := .exhausted }) = U := ⟨_, rfl⟩
          rw [hU] at KU0 uK BU ⊢
          clear hU q1 q2 q4 q5
          have uJ := Kx.get KU0 (show Y + 1 + 1 + 1 < kb by omega) (by omega) vJ
          have uN := Kx.get KU0 (show S < kb by omega) (by omega) vN
          have uI := Kx.get KU0 (show Y < kb by omega) (by omega) vI
          have uL := Kx.get KU0 (show Y + 1 + 1 + 1 + 1 + 1 < kb by omega) (by omega) vL
          have uD := Kx.get KU0 (show Y + 1 + 1 + 1 + 1 < kb by omega) (by omega) g0
          have KU := Kx.trans2 KV KU0 (by omega)
          have cuJ := (cells_block uJ).1
          have fuJ := (cells_block uJ).2
          have cuK := (cells_block uK).1
          obtain ⟨V4, hV4⟩ : ∃ V4, U.setCell ⟨Y + 1 + 1 + 1, 0, none⟩ (.int .i64 (k1 : Int)) = V4 := ⟨_, rfl⟩
          have wJ : V4.heap[Y + 1 + 1 + 1]? = some (.cells #[.int .i64 (k1 : Int)] 3 (0, 0)) := by rw [← hV4]; exact set_one _ uJ
          have wN : V4.heap[S]? = some (.cells #[.int .i64 (N0 : Int)] 3 (0, 0)) := by rw [← hV4]; exact set_other uN (by omega)
          have wI : V4.heap[Y]? = some (.cells #[.slice qI b cI] 44 (0, 0)) := by rw [← hV4]; exact set_other uI (by omega)
          have wKb : V4.heap[kb]? = some (.cells #[.int .i64 (b : Int)] 3 (0, 0)) := by rw [← hV4]; exact set_other uK (by omega)
          have wL : V4.heap[Y + 1 + 1 + 1 + 1 + 1]? = some (.loop { R with state := .busy }) := by rw [← hV4]; exact set_other uL (by omega)
          have wD0 : V4.heap[Y + 1 + 1 + 1 + 1]? = some (.deferred (some [])) := by rw [← hV4]; exact set_other uD (by omega)
          have wK : Kx (Y + 1 + 1 + 1) (Y + 1 + 1 + 1 + 1) X V4 := by rw [← hV4]; exact KU.set (.inl rfl)
          have wB : Below w.heap.size w V4 := by rw [← hV4]; exact BU.setCell (p := ⟨Y + 1 + 1 + 1, 0, none⟩) (by show w.heap.size ≤ Y + 1 + 1 + 1; omega) _
          have wT : KTb (Y + 1 + 1 + 1 + 1 + 1 + 1) W V4 := fun c cs TT mm hc hcc hTT => by
            have hlt : c < kb := by rw [← hkb, ← HVW.out]; exact lt_of_get hcc
            rw [← hV4]
            exact (Below.heap_setCell _ _ _ _ (fun e => by have e' : c = Y + 1 + 1 + 1 := e; omega)).trans ((KU0.2 c hlt (by omega)).trans (VK c cs TT mm hc hcc hTT))
          have dJ := (cells_block wJ).1
          have dN := (cells_block wN).1
          have dI := (cells_block wI).1
          have dK := (cells_block wKb).1
          have ebb : ((b : Int) != (b : Int)) = false := by simp
          by_cases hlast : k1 = N
          · have i6 : (k1 : Int) > (N0 : Int) := by omega
            have Hlast : Hid (k1 = N) := hlast
            have Hst : Hid (a = N) := Hstop.out (by omega)
            clear hlast
            gi_wp2
            refine ⟨wL, rfl, Hst.out, wK.put (by omega) _, ?_, put_other wD0 (by omega), ⟨_, World.putObj_heap_same (lt_of_get wL), rfl, rfl⟩, bel_grow wB (grownBy_putObj' V4 (Y + 1 + 1 + 1 + 1 + 1) _) wB.size (fun x e => by cases e; omega)⟩
            rw [← Hlast.out]
            exact put_other wJ (by omega)
          · have i6 : ¬ (k1 : Int) > (N0 : Int) := by omega
            gi_wp2
            exact ⟨wL, ⟨by omega, wK.put (by omega) _, put_other wJ (by omega), put_other wD0 (by omega), World.putObj_heap_same (lt_of_get wL), bel_grow wB (grownBy_putObj' V4 (Y + 1 + 1 + 1 + 1 + 1) _) wB.size (fun x e => by cases e; omega)⟩, fun c cs TT mm hc hcc hT => (World.putObj_heap_other (by omega)).trans (wT c cs TT mm hc hcc hT)⟩

        · refine ⟨r3, q4, (fun e => by rw [hrs3] at e; cases e), .inr ⟨_, hrp3, ?_⟩⟩
          rw [← hbM'] at q2
          clear hbM'
          have KU0 := Kx.put q1 (l := kb + 1) (by omega) (.loop { r3 with state := .exhausted })
          have uK := put_other (o' := .loop { r3 with state := .exhausted }) q2 (show kb ≠ kb + 1 by omega)
          have BU := bel_grow q5 (grownBy_putObj' W3 (kb + 1) (.loop { r3 with state := .exhausted })) q5.size (fun x e => by cases e; omega)
          obtain ⟨U, hU⟩ : ∃ U, W3.putObj (kb + 1) (.loop { r3 with state := .exhausted }) = U := ⟨_, rfl⟩
          rw [hU] at KU0 uK BU ⊢
          clear hU q1 q2 q4 q5
          have uJ := Kx.get KU0 (show Y + 1 + 1 + 1 < kb by omega) (by omega) vJ
          have uN := Kx.get KU0 (show S < kb by omega) (by omega) vN
          have uI := Kx.get KU0 (show Y < kb by omega) (by omega) vI
          have uL := Kx.get KU0 (show Y + 1 + 1 + 1 + 1 + 1 < kb by omega) (by omega) vL
          have uD := Kx.get KU0 (show Y + 1 + 1 + 1 + 1 < kb by omega) (by omega) g0
          have KU := Kx.trans2 KV KU0 (by omega)
          have cuJ := (cells_block uJ).1
          have fuJ := (cells_block uJ).2
          have cuK := (cells_block uK).1
          obtain ⟨V4, hV4⟩ : ∃ V4, U.setCell ⟨Y + 1 + 1 + 1, 0, none⟩ (.int .i64 (k1 : Int)) = V4 := ⟨_, rfl⟩
          have wJ : V4.heap[Y + 1 + 1 + 1]? = some (.cells #[.int .i64 (k1 : Int)] 3 (0, 0)) := by rw [← hV4]; exact set_one _ uJ
          have wN : V4.heap[S]? = some (.cells #[.int .i64 (N0 : Int)] 3 (0, 0)) := by rw [← hV4]; exact set_other uN (by omega)
          have wI : V4.heap[Y]? = some (.cells #[.slice qI b cI] 44 (0, 0)) := by rw [← hV4]; exact set_other uI (by omega)
          have wKb : V4.heap[kb]? = some (.cells #[.int .i64 (b : Int)] 3 (0, 0)) := by rw [← hV4]; exact set_other uK (by omega)
          have wL : V4.heap[Y + 1 + 1 + 1 + 1 + 1]? = some (.loop { R with state := .busy }) := by rw [← hV4]; exact set_other uL (by omega)
          have wD0 : V4.heap[Y + 1 + 1 + 1 + 1]? = some (.deferred (some [])) := by rw [← hV4]; exact set_other uD (by omega)
          have wK : Kx (Y + 1 + 1 + 1) (Y + 1 + 1 + 1 + 1) X V4 := by rw [← hV4]; exact KU.set (.inl rfl)
          have wB : Below w.heap.size w V4 := by rw [← hV4]; exact BU.setCell (p := ⟨Y + 1 + 1 + 1, 0, none⟩) (by show w.heap.size ≤ Y + 1 + 1 + 1; omega) _
          have wT : KTb (Y + 1 + 1 + 1 + 1 + 1 + 1) W V4 := fun c cs TT mm hc hcc hTT => by
            have hlt : c < kb := by rw [← hkb, ← HVW.out]; exact lt_of_get hcc
            rw [← hV4]
            exact (Below.heap_setCell _ _ _ _ (fun e => by have e' : c = Y + 1 + 1 + 1 := e; omega)).trans ((KU0.2 c hlt (by omega)).trans (VK c cs TT mm hc hcc hTT))
          have dJ := (cells_block wJ).1
          have dN := (cells_block wN).1
          have dI := (cells_block wI).1
          have dK := (cells_block wKb).1
          have ebb : ((b : Int) != (b : Int)) = false := by simp
          by_cases hlast : k1 = N
          · have i6 : (k1 : Int) > (N0 : Int) := by omega
            have Hlast : Hid (k1 = N) := hlast
            have Hst : Hid (a = N) := Hstop.out (by omega)
            clear hlast
            gi_wp2
            refine ⟨wL, rfl, Hst.out, wK.put (by omega) _, ?_, put_other wD0 (by omega), ⟨_, World.putObj_heap_same (lt_of_get wL), rfl, rfl⟩, bel_grow wB (grownBy_putObj' V4 (Y + 1 + 1 + 1 + 1 + 1) _) wB.size (fun x e => by cases e; omega)⟩
            rw [← Hlast.out]
            exact put_other wJ (by omega)
          · have i6 : ¬ (k1 : Int) > (N0 : Int) := by omega
            gi_wp2
            exact ⟨wL, ⟨by omega, wK.put (by omega) _, put_other wJ (by omega), put_other wD0 (by omega), World.putObj_heap_same (lt_of_get wL), bel_grow wB (grownBy_putObj' V4 (Y + 1 + 1 + 1 + 1 + 1) _) wB.size (fun x e => by cases e; omega)⟩, fun c cs TT mm hc hcc hT => (World.putObj_heap_other (by omega)).trans (wT c cs TT mm hc hcc hT)⟩

    · obtain rfl := Hk1.out
      rintro e W' (⟨rfl, hIn, hK⟩ | ⟨rfl, c, rfl, hO1⟩)
      · exact .inl ⟨rfl, hIn, by rw [HSZ]; exact hK⟩
      · exact .inr ⟨rfl, hO1⟩


theorem ternNested_walk (s : ByteArray) (n m : Int) (w : World) (hs : s.size ≤ maxLen) :
    Calls Try.prog 4 #[.string s, .int .i64 n, .int .i64 m] w fun e w' => e = .returned (.bool true) ∧ Below w.heap.size w w' :=
  nested_try s n m _ w hs rfl (good_cubeT _)
end Go.Proofs.Ytmblloddhpcdeac
