import Derived.Test.YtfhghplplkkpmaaGreatDoorXBJ
import Derived.Test.YtfhghplplkkpmaaGreatDoorXAV
namespace Go.Proofs.YtfhghplplkkpmaaGreatDoor
open Go.RowKit Go.Shelf
set_option maxRecDepth 100000 in
set_option maxHeartbeats 4000000 in
theorem giveM (b : Int) (Ts : List (List UInt8 × List (List UInt8))) (ok : Bool) (c1 c2 : Nat) (w : World) (HO : ∀ W, Below w.heap.size w W → Calls Tryz.prog 31 #[.pointer (some ⟨c1, 0, none⟩), .pointer (some ⟨c2, 0, none⟩)] W fun e w' => Below W.heap.size W w' ∧ ((ok = true ∧ ∃ V, e = .returned (.agg #[.int .i64 b, V, .bool false]) ∧ SPL w' W.heap.size V Ts) ∨ (ok = false ∧ e = .panicked [{ v := .iface 89 (.agg #[]), recovered := false }]))) :
    Calls Tryz.prog 26 #[.func (.func 31) #[] #[.pointer (some ⟨c1, 0, none⟩), .pointer (some ⟨c2, 0, none⟩)]] w fun e w' => ∃ V, e = .returned (.tuple #[.agg #[.int .i64 (if ok = true then b else 0), V, .bool false], .int .i64 (if ok = true then 0 else 3)]) ∧ SPL w' w.heap.size V (if ok = true then Ts else []) ∧ Below w.heap.size w w' := by
  have hmf : ∀ (fn : Fn) (first cap : Array Value) (w : World), (Instr.makeFunc fn first cap).run Tryz.prog w = .ok (.func fn first cap) w := fun _ _ _ _ => rfl
  obtain ⟨w2, hw2⟩ : ∃ w2, (w.alloc (.cells #[.int .i64 0, .slice none 0 0, .bool false] 26 (0, 0))).alloc (.cells #[.int .i64 0] 27 (0, 0)) = w2 := ⟨_, rfl⟩
  have hA : w2.heap[w.heap.size]? = some (.cells #[.int .i64 0, .slice none 0 0, .bool false] 26 (0, 0)) := by rw [← hw2]; exact alw_0 _ _ _
  have hE : w2.heap[w.heap.size + 1]? = some (.cells #[.int .i64 0] 27 (0, 0)) := by rw [← hw2]; exact alw_1 _ _ _
  have hB2 : Below w.heap.size w w2 := by rw [← hw2]; exact belA (belA (Below.refl _ _) _) _
  have HO2 := HO w2 hB2
  have HA : Hid (w2.heap[w.heap.size]? = some (.cells #[.int .i64 0, .slice none 0 0, .bool false] 26 (0, 0)) ∧ w2.heap[w.heap.size + 1]? = some (.cells #[.int .i64 0] 27 (0, 0)) ∧ Below w.heap.size w w2) := ⟨hA, hE, hB2⟩
  clear hA hE hB2 HO
  cases ok with
  | true =>
    have HO3 : Hid (Calls Tryz.prog 31 #[.pointer (some ⟨c1, 0, none⟩), .pointer (some ⟨c2, 0, none⟩)] w2 fun e w' => ∃ V, e = .returned (.agg #[.int .i64 b, V, .bool false]) ∧ SPL w' w2.heap.size V Ts ∧ Below w2.heap.size w2 w') := by
      refine HO2.mono ?_
      rintro e w' ⟨h1, ⟨-, V, rfl, h2⟩ | ⟨h2, -⟩⟩
      · exact ⟨V, rfl, h2, h1⟩
      · cases h2
    clear HO2
    simp only [if_true]
    go_enter_defers Tryz.func26, Tryz.ntmps26
    go_wp2_with fail
    refine HO3.out.mono ?_
    rintro e W1 ⟨V, rfl, o8, hb1⟩
    obtain ⟨p8, c8, rfl⟩ := o8.shape
    clear HO3 hw2
    obtain ⟨hcA, hfA⟩ := cells_block (keepblk3 hb1 HA.out.1)
    obtain ⟨hcE, hfE⟩ := cells_block (keepblk3 hb1 HA.out.2.1)
    go_wp2_with fail
    obtain ⟨X, hX⟩ : ∃ X, (((W1.setCell ⟨w.heap.size, 0, none⟩ (.int .i64 b)).setCell ⟨w.heap.size, 1, none⟩ (.slice p8 Ts.length c8)).setCell ⟨w.heap.size, 2, none⟩ (.bool false)).setCell ⟨w.heap.size + 1, 0, none⟩ (.int .i64 0) = X := ⟨_, rfl⟩
    have hXA : X.heap[w.heap.size]? = some (.cells #[.int .i64 b, .slice p8 Ts.length c8, .bool false] 26 (0, 0)) := by
      rw [← hX, heap_setCell_other _ ⟨w.heap.size + 1, 0, none⟩ _ _ (by simp)]
      exact put3_get _ _ _ (keepblk3 hb1 HA.out.1)
    have hXE : X.heap[w.heap.size + 1]? = some (.cells #[.int .i64 0] 27 (0, 0)) := by
      have h0 : (((W1.setCell ⟨w.heap.size, 0, none⟩ (.int .i64 b)).setCell ⟨w.heap.size, 1, none⟩ (.slice p8 Ts.length c8)).setCell ⟨w.heap.size, 2, none⟩ (.bool false)).heap[w.heap.size + 1]? = some (.cells #[.int .i64 0] 27 (0, 0)) := by
        rw [far3h _ _ _ (by omega)]
        exact keepblk3 hb1 HA.out.2.1
      have h1 := set_get (j := 0) (.int .i64 0) h0
      rw [← hX, h1]
      simp
    have hXB : Below w.heap.size w X := by
      rw [← hX]
      exact ((((bel0 HA.out.2.2 hb1).setCell (Nat.le_refl _) _).setCell (Nat.le_refl _) _).setCell (Nat.le_refl _) _).setCell (Nat.le_succ _) _
    have hXO : SPL X w.heap.size (.slice p8 Ts.length c8) Ts := by
      have l2 := lt_of_get3 HA.out.2.1
      rw [← hX]
      exact ((o8.kept (gr3 _ _ _ _ _) (by omega)).kept (set_grS _ (w.heap.size + 1) 0 _) l2).base (by omega)
    have HXX : Hid (SPL X w.heap.size (.slice p8 Ts.length c8) Ts ∧ Below w.heap.size w X) := ⟨hXO, hXB⟩
    rw [hX]
    clear o8 hcA hfA hcE hfE hX hXO hXB
    refine leaves_cons (f := 48) (args := #[.pointer (some ⟨w.heap.size + 1, 0, none⟩)]) (by simp) (by simp [go_sem]) ?_
    refine (idle (w.heap.size + 1) _).mono ?_
    rintro e u' w'' ⟨rfl, rfl, rfl⟩
    have cA := (cells_block hXA).1
    have cE := (cells_block hXE).1
    simp [Leaves, settle, results, Tryz.results26, go_sem, cA, cE]
    exact HXX.out
  | false =>
    have HO3 : Hid (Calls Tryz.prog 31 #[.pointer (some ⟨c1, 0, none⟩), .pointer (some ⟨c2, 0, none⟩)] w2 fun e w' => e = .panicked [{ v := .iface 89 (.agg #[]), recovered := false }] ∧ Below w2.heap.size w2 w') := by
      refine HO2.mono ?_
      rintro e w' ⟨h1, ⟨h2, -⟩ | ⟨-, rfl⟩⟩
      · cases h2
      · exact ⟨rfl, h1⟩
    clear HO2
    simp only [Bool.false_eq_true, if_false]
    go_enter_defers Tryz.func26, Tryz.ntmps26
    go_wp2_with fail
    refine HO3.out.mono ?_
    rintro e W1 ⟨rfl, hb1⟩
    clear HO3 hw2
    have hEE := keepblk3 hb1 HA.out.2.1
    have hAA := keepblk3 hb1 HA.out.1
    obtain ⟨hcE, hfE⟩ := cells_block hEE
    refine leaves_cons (f := 48) (args := #[.pointer (some ⟨w.heap.size + 1, 0, none⟩)]) (by simp) (by simp [go_sem]) ?_
    refine (caught (w.heap.size + 1) 0 [] W1 (hcE 0) (hfE 0)).mono ?_
    rintro e u' w'' ⟨rfl, rfl, rfl⟩
    have hX0 : (W1.setCell ⟨w.heap.size + 1, 0, none⟩ (.int .i64 3)).heap[w.heap.size + 1]? = some (.cells #[.int .i64 3] 27 (0, 0)) := by
      have h1 := set_get (j := 0) (.int .i64 3) hEE
      rw [h1]
      simp
    have hX1 : (W1.setCell ⟨w.heap.size + 1, 0, none⟩ (.int .i64 3)).heap[w.heap.size]? = some (.cells #[.int .i64 0, .slice none 0 0, .bool false] 26 (0, 0)) := by
      rw [heap_setCell_other _ ⟨w.heap.size + 1, 0, none⟩ _ _ (by simp)]
      exact hAA
    have hXB : Below w.heap.size w (W1.setCell ⟨w.heap.size + 1, 0, none⟩ (.int .i64 3)) := (bel0 HA.out.2.2 hb1).setCell (Nat.le_succ _) _
    have cA := (cells_block hX1).1
    have cE := (cells_block hX0).1
    have HXX : Hid (SPL (W1.setCell ⟨w.heap.size + 1, 0, none⟩ (.int .i64 3)) w.heap.size (.slice none 0 0) [] ∧ Below w.heap.size w (W1.setCell ⟨w.heap.size + 1, 0, none⟩ (.int .i64 3))) := ⟨SPL_nil _ _, hXB⟩
    clear hcE hfE hXB
    simp [Leaves, settle, results, Tryz.results26, go_sem, cA, cE]
    exact HXX.out
/-- what a space that was read is like -/
def WFS (b : Int) (A : List (List UInt8 × List (List UInt8))) : Prop := ordT (topC (stl A)) = A ∧ ∀ t ∈ A, (t.1.length : Int) = b ∧ 1 ≤ b ∧ b ≤ 256 ∧ good t.1 = true
theorem alB_eq {b : Int} {A : List (List UInt8 × List (List UInt8))} (h : alB b A = true) : A = [(alT b, [])] := by
  match A, h with
  | [(c, [])], h =>
    have e : c = alT b := by simpa [alB] using h
    rw [e]
theorem mn_all1 {b b2 : Int} {A C : List (List UInt8 × List (List UInt8))} (hf : (!(b == 0) && (b == b2)) = true) (hA : alB b A = true) (h1 : WFS b A) (h2 : WFS b2 C) (hs : szC C ≤ 128) : mnE b b2 A C = 0 ∧ mnB b b2 A C = b ∧ mnT b b2 A C = C := by
  have e0 : b = b2 := by simpa using (Bool.and_eq_true_iff.1 hf).2
  subst e0
  have e1 := alB_eq hA
  have hb := (h1.2 (alT b, []) (by rw [e1]; exact List.mem_singleton_self _)).2
  have e2 : alT b = List.replicate b.toNat 120 := by unfold alT; rw [if_pos ⟨hb.1, hb.2.1⟩]
  have e3 : cmN A C = C := by
    rw [e1, e2]
    refine cm_all1 (fun t ht => ?_)
    have h3 := h2.2 t ht
    refine ⟨by omega, fun e => ?_⟩
    rw [e] at h3
    simp at h3
    omega
  have e4 : szC (topC (stl C)) ≤ 128 := by
    have := szC_ord (topC (stl C))
    rw [h2.1] at this
    omega
  have e5 := szC_len C
  have e6 : mnE b b A C = 0 := by
    unfold mnE
    rw [if_neg (by rw [hf]; simp), e3, if_neg (by rw [e1]; simp; omega), if_pos e4]
  exact ⟨e6, by unfold mnB; rw [if_pos e6], by unfold mnT; rw [if_pos e6, e3, h2.1]⟩
theorem mn_all2 {b b2 : Int} {A C : List (List UInt8 × List (List UInt8))} (hf : (!(b == 0) && (b == b2)) = true) (hC : alB b2 C = true) (h1 : WFS b A) (h2 : WFS b2 C) (hs : szC A ≤ 128) : mnE b b2 A C = 0 ∧ mnB b b2 A C = b ∧ mnT b b2 A C = A := by
  have e0 : b = b2 := by simpa using (Bool.and_eq_true_iff.1 hf).2
  subst e0
  have e1 := alB_eq hC
  have hb := (h2.2 (alT b, []) (by rw [e1]; exact List.mem_singleton_self _)).2
  have e2 : alT b = List.replicate b.toNat 120 := by unfold alT; rw [if_pos ⟨hb.1, hb.2.1⟩]
  have e3 : cmN A C = A := by
    rw [e1, e2]
    refine cm_all2 (fun t ht => ?_)
    have h3 := h1.2 t ht
    refine ⟨by omega, fun e => ?_, h3.2.2.2⟩
    rw [e] at h3
    simp at h3
    omega
  have e4 : szC (topC (stl A)) ≤ 128 := by
    have := szC_ord (topC (stl A))
    rw [h1.1] at this
    omega
  have e5 := szC_len A
  have e6 : mnE b b A C = 0 := by
    unfold mnE
    rw [if_neg (by rw [hf]; simp), e3, if_neg (by rw [e1]; simp; omega), if_pos e4]
  exact ⟨e6, by unfold mnB; rw [if_pos e6], by unfold mnT; rw [if_pos e6, e3, h1.1]⟩
set_option maxRecDepth 100000 in
set_option maxHeartbeats 4000000 in
theorem sMeet_any (b b2 : Int) (A C : List (List UInt8 × List (List UInt8))) (B1 B2 : Nat) (V1 V2 : Value) (w : World) (h1 : SPL w B1 V1 A) (h2 : SPL w B2 V2 C) (hs1 : szC A ≤ 128) (hs2 : szC C ≤ 128) (hg1 : gdC A) (hg2 : gdC C) (hw1 : WFS b A) (hw2 : WFS b2 C) :
    Calls Tryz.prog 12 #[.agg #[.int .i64 b, V1, .bool false], .agg #[.int .i64 b2, V2, .bool false]] w fun e w' => ∃ V, e = .returned (.tuple #[.agg #[.int .i64 (mnB b b2 A C), V, .bool false], .int .i64 (mnE b b2 A C)]) ∧ SPL w' 0 V (mnT b b2 A C) ∧ Below w.heap.size w w' := by
  obtain ⟨p1, k1, rfl⟩ := h1.shape
  obtain ⟨p2, k2, rfl⟩ := h2.shape
  obtain ⟨n1, hn1⟩ : ∃ n, A.length = n := ⟨_, rfl⟩
  obtain ⟨n2, hn2⟩ : ∃ n, C.length = n := ⟨_, rfl⟩
  rw [hn1] at h1 ⊢
  rw [hn2] at h2 ⊢
  obtain ⟨wA, hwA⟩ : ∃ wA, (((w.alloc (.cells #[.int .i64 b, .slice p1 n1 k1, .bool false] 26 (0, 0))).alloc (.cells #[.int .i64 b2, .slice p2 n2 k2, .bool false] 26 (0, 0))).alloc (.cells #[.int .i64 0, .slice none 0 0, .bool false] 26 (0, 0))) = wA := ⟨_, rfl⟩
  have hBA : Below w.heap.size w wA := by rw [← hwA]; exact belA (belA (belA (Below.refl _ _) _) _) _
  have d1 : wA.heap[w.heap.size]? = some (.cells #[.int .i64 b, .slice p1 n1 k1, .bool false] 26 (0, 0)) := by rw [← hwA, Below.heap_alloc _ _ _ (by simp <;> omega)]; exact alw_0 _ _ _
  have d2 : wA.heap[w.heap.size + 1]? = some (.cells #[.int .i64 b2, .slice p2 n2 k2, .bool false] 26 (0, 0)) := by rw [← hwA, Below.heap_alloc _ _ _ (by simp <;> omega)]; exact alw_1 _ _ _
  have d3 : wA.heap[w.heap.size + 1 + 1]? = some (.cells #[.int .i64 0, .slice none 0 0, .bool false] 26 (0, 0)) := by rw [← hwA]; have := alloc_get ((w.alloc (.cells #[.int .i64 b, .slice p1 n1 k1, .bool false] 26 (0, 0))).alloc (.cells #[.int .i64 b2, .slice p2 n2 k2, .bool false] 26 (0, 0))) (.cells #[.int .i64 0, .slice none 0 0, .bool false] 26 (0, 0)); simpa using this
  have H12 : Hid (∀ X, Below w.heap.size w X → SPL X 0 (.slice p1 n1 k1) A ∧ SPL X 0 (.slice p2 n2 k2) C) := fun X hX => ⟨(h1.below hX).base (Nat.zero_le _), (h2.below hX).base (Nat.zero_le _)⟩
  have HD : Hid (∀ W, Below wA.heap.size wA W → W.heap[w.heap.size]? = some (.cells #[.int .i64 b, .slice p1 n1 k1, .bool false] 26 (0, 0)) ∧ W.heap[w.heap.size + 1]? = some (.cells #[.int .i64 b2, .slice p2 n2 k2, .bool false] 26 (0, 0)) ∧ W.heap[w.heap.size + 1 + 1]? = some (.cells #[.int .i64 0, .slice none 0 0, .bool false] 26 (0, 0)) ∧ SPL W 0 (.slice p1 n1 k1) A ∧ SPL W 0 (.slice p2 n2 k2) C ∧ Below w.heap.size w W) := fun W hW => ⟨keepblk3 hW d1, keepblk3 hW d2, keepblk3 hW d3, (h1.below (bel0 hBA hW)).base (Nat.zero_le _), (h2.below (bel0 hBA hW)).base (Nat.zero_le _), bel0 hBA hW⟩
  have hmf : ∀ (fn : Fn) (first cap : Array Value) (w : World), (Instr.makeFunc fn first cap).run Tryz.prog w = .ok (.func fn first cap) w := fun _ _ _ _ => rfl
  have HLT : Hid (w.heap.size + 1 + 1 < wA.heap.size) := lt_of_get3 d3
  obtain ⟨hc1, -⟩ := cells_block d1
  obtain ⟨hc2, -⟩ := cells_block d2
  have HS : Hid (szC A ≤ 128 ∧ szC C ≤ 128 ∧ gdC A ∧ gdC C) := ⟨hs1, hs2, hg1, hg2⟩
  have HNN : Hid (A.length = n1 ∧ C.length = n2) := ⟨hn1, hn2⟩
  cases hf : (!(b == 0) && (b == b2)) with
  | false =>
    have e1 : mnE b b2 A C = 11 := by unfold mnE; rw [if_pos hf]
    have e2 : mnB b b2 A C = 0 := by unfold mnB; rw [e1]; rfl
    have e3 : mnT b b2 A C = [] := by unfold mnT; rw [e1]; rfl
    rw [e1, e2, e3]
    have HF : Hid (Calls Tryz.prog 20 #[.agg #[.int .i64 b, .slice p1 n1 k1, .bool false], .int .i64 b2] wA fun e w' => e = .returned (.bool false) ∧ Below wA.heap.size wA w') := by
      have h := fits_any2 b b2 p1 n1 k1 wA
      rw [hf] at h
      exact h
    clear e1 e2 e3 hf hBA d1 d2 d3 h1 h2 hs1 hs2 hg1 hg2 hw1 hw2 hn1 hn2
    go_enter Tryz.func12, Tryz.ntmps12
    go_wp2_with fail
    refine HF.out.mono ?_
    rintro e W1 ⟨rfl, hb1⟩
    obtain ⟨-, -, k3, -, -, hB1⟩ := HD.out W1 hb1
    obtain ⟨hc3, hf3⟩ := cells_block k3
    have HP : Hid ((((W1.setCell ⟨w.heap.size + 1 + 1, 0, none⟩ (.int .i64 0)).setCell ⟨w.heap.size + 1 + 1, 1, none⟩ (.slice none 0 0)).setCell ⟨w.heap.size + 1 + 1, 2, none⟩ (.bool false)).heap[w.heap.size + 1 + 1]? = some (.cells #[.int .i64 0, .slice none 0 0, .bool false] 26 (0, 0)) ∧ Below w.heap.size w (((W1.setCell ⟨w.heap.size + 1 + 1, 0, none⟩ (.int .i64 0)).setCell ⟨w.heap.size + 1 + 1, 1, none⟩ (.slice none 0 0)).setCell ⟨w.heap.size + 1 + 1, 2, none⟩ (.bool false))) := ⟨put3_get _ _ _ k3, ((hB1.setCell (by simp; omega) _).setCell (by simp; omega) _).setCell (by simp; omega) _⟩
    clear hc1 hc2 k3 hwA hb1 hB1
    go_wp2_with fail
    refine bodyPost_ret (v := .tuple #[.agg #[.int .i64 0, .slice none 0 0, .bool false], .int .i64 11]) (res_sp2 _ _ (w.heap.size + 1 + 1) _ _ _ _ Tryz.results12 rfl rfl HP.out.1) rfl ?_
    exact ⟨_, rfl, SPL_nil _ _, HP.out.2⟩
  | true =>
    obtain rfl : b = b2 := by simpa using (Bool.and_eq_true_iff.1 hf).2
    have HF : Hid (Calls Tryz.prog 20 #[.agg #[.int .i64 b, .slice p1 n1 k1, .bool false], .int .i64 b] wA fun e w' => e = .returned (.bool true) ∧ Below wA.heap.size wA w') := by
      have h := fits_any2 b b p1 n1 k1 wA
      rw [hf] at h
      exact h
    have HI1 : Hid (∀ W, Below wA.heap.size wA W → Calls Tryz.prog 29 #[.agg #[.int .i64 b, .slice p1 n1 k1, .bool false]] W fun e w' => e = .returned (.bool (alB b A)) ∧ Below W.heap.size W w') := fun W hW => isAll_any b _ A 0 W (HD.out W hW).2.2.2.1 hg1 hs1
    have HI2 : Hid (∀ W, Below wA.heap.size wA W → Calls Tryz.prog 29 #[.agg #[.int .i64 b, .slice p2 n2 k2, .bool false]] W fun e w' => e = .returned (.bool (alB b C)) ∧ Below W.heap.size W w') := fun W hW => isAll_any b _ C 0 W (HD.out W hW).2.2.2.2.1 hg2 hs2
    cases ha : alB b A with
    | true =>
      obtain ⟨e1, e2, e3⟩ := mn_all1 hf ha hw1 hw2 hs2
      rw [e1, e2, e3]
      rw [ha] at HI1
      clear e1 e2 e3 hf ha hBA d1 d2 d3 h1 h2 hs1 hs2 hg1 hg2 hw1 hw2 hn1 hn2
      go_enter Tryz.func12, Tryz.ntmps12
      go_wp2_with fail
      refine HF.out.mono ?_
      rintro e W1 ⟨rfl, hb1⟩
      obtain ⟨g1, -, -, -, -, -⟩ := HD.out W1 hb1
      have hc4 := (cells_block g1).1
      clear hc1 hc2 hwA g1
      go_wp2_with fail
      refine (HI1.out W1 hb1).mono ?_
      rintro e W2 ⟨rfl, hb2⟩
      have hB2 := bel0 hb1 hb2
      obtain ⟨-, g2, -, -, -, -⟩ := HD.out W2 hB2
      have hc5 := (cells_block g2).1
      have HB2 : Hid (Below wA.heap.size wA W2) := hB2
      clear hc4 hb1 hb2 hB2 g2
      go_wp2_with fail
      refine (inForm_any _ _ _ _ _).mono ?_
      rintro e W3 ⟨rfl, hb3⟩
      obtain ⟨-, -, k3, -, -, hB1⟩ := HD.out W3 (bel0 HB2.out hb3)
      obtain ⟨hc3, hf3⟩ := cells_block k3
      have hBX : Below w.heap.size w (((W3.setCell ⟨w.heap.size + 1 + 1, 0, none⟩ (.int .i64 b)).setCell ⟨w.heap.size + 1 + 1, 1, none⟩ (.slice p2 n2 k2)).setCell ⟨w.heap.size + 1 + 1, 2, none⟩ (.bool false)) := ((hB1.setCell (by simp; omega) _).setCell (by simp; omega) _).setCell (by simp; omega) _
      have HP : Hid ((((W3.setCell ⟨w.heap.size + 1 + 1, 0, none⟩ (.int .i64 b)).setCell ⟨w.heap.size + 1 + 1, 1, none⟩ (.slice p2 n2 k2)).setCell ⟨w.heap.size + 1 + 1, 2, none⟩ (.bool false)).heap[w.heap.size + 1 + 1]? = some (.cells #[.int .i64 b, .slice p2 n2 k2, .bool false] 26 (0, 0)) ∧ SPL (((W3.setCell ⟨w.heap.size + 1 + 1, 0, none⟩ (.int .i64 b)).setCell ⟨w.heap.size + 1 + 1, 1, none⟩ (.slice p2 n2 k2)).setCell ⟨w.heap.size + 1 + 1, 2, none⟩ (.bool false)) 0 (.slice p2 n2 k2) C ∧ Below w.heap.size w (((W3.setCell ⟨w.heap.size + 1 + 1, 0, none⟩ (.int .i64 b)).setCell ⟨w.heap.size + 1 + 1, 1, none⟩ (.slice p2 n2 k2)).setCell ⟨w.heap.size + 1 + 1, 2, none⟩ (.bool false))) := ⟨put3_get _ _ _ k3, (H12.out _ hBX).2, hBX⟩
      clear hc5 k3 hb3 hB1 hBX
      go_wp2_with fail
      refine bodyPost_ret (v := .tuple #[.agg #[.int .i64 b, .slice p2 n2 k2, .bool false], .int .i64 0]) (res_sp2 _ _ (w.heap.size + 1 + 1) _ _ _ _ Tryz.results12 rfl rfl HP.out.1) rfl ?_
      exact ⟨_, rfl, HP.out.2⟩
    | false =>
      rw [ha] at HI1
      cases hc : alB b C with
      | true =>
        obtain ⟨e1, e2, e3⟩ := mn_all2 hf hc hw1 hw2 hs1
        rw [e1, e2, e3]
        rw [hc] at HI2
        clear e1 e2 e3 hf ha hc hBA d1 d2 d3 h1 h2 hs1 hs2 hg1 hg2 hw1 hw2 hn1 hn2
        go_enter Tryz.func12, Tryz.ntmps12
        go_wp2_with fail
        refine HF.out.mono ?_
        rintro e W1 ⟨rfl, hb1⟩
        obtain ⟨g1, -, -, -, -, -⟩ := HD.out W1 hb1
        have hc4 := (cells_block g1).1
        clear hc1 hc2 hwA g1
        go_wp2_with fail
        refine (HI1.out W1 hb1).mono ?_
        rintro e W2 ⟨rfl, hb2⟩
        have hB2 := bel0 hb1 hb2
        obtain ⟨-, g2, -, -, -, -⟩ := HD.out W2 hB2
        have hc5 := (cells_block g2).1
        clear hc4 hb1 hb2 g2
        go_wp2_with fail
        refine (HI2.out W2 hB2).mono ?_
        rintro e W4 ⟨rfl, hb4⟩
        have hB4 := bel0 hB2 hb4
        obtain ⟨g4, -, -, -, -, -⟩ := HD.out W4 hB4
        have hc6 := (cells_block g4).1
        have HB4 : Hid (Below wA.heap.size wA W4) := hB4
        clear hc5 hB2 hb4 hB4 g4
        go_wp2_with fail
        refine (inForm_any _ _ _ _ _).mono ?_
        rintro e W3 ⟨rfl, hb3⟩
        obtain ⟨-, -, k3, -, -, hB1⟩ := HD.out W3 (bel0 HB4.out hb3)
        obtain ⟨hc3, hf3⟩ := cells_block k3
        have hBX : Below w.heap.size w (((W3.setCell ⟨w.heap.size + 1 + 1, 0, none⟩ (.int .i64 b)).setCell ⟨w.heap.size + 1 + 1, 1, none⟩ (.slice p1 n1 k1)).setCell ⟨w.heap.size + 1 + 1, 2, none⟩ (.bool false)) := ((hB1.setCell (by simp; omega) _).setCell (by simp; omega) _).setCell (by simp; omega) _
        have HP : Hid ((((W3.setCell ⟨w.heap.size + 1 + 1, 0, none⟩ (.int .i64 b)).setCell ⟨w.heap.size + 1 + 1, 1, none⟩ (.slice p1 n1 k1)).setCell ⟨w.heap.size + 1 + 1, 2, none⟩ (.bool false)).heap[w.heap.size + 1 + 1]? = some (.cells #[.int .i64 b, .slice p1 n1 k1, .bool false] 26 (0, 0)) ∧ SPL (((W3.setCell ⟨w.heap.size + 1 + 1, 0, none⟩ (.int .i64 b)).setCell ⟨w.heap.size + 1 + 1, 1, none⟩ (.slice p1 n1 k1)).setCell ⟨w.heap.size + 1 + 1, 2, none⟩ (.bool false)) 0 (.slice p1 n1 k1) A ∧ Below w.heap.size w (((W3.setCell ⟨w.heap.size + 1 + 1, 0, none⟩ (.int .i64 b)).setCell ⟨w.heap.size + 1 + 1, 1, none⟩ (.slice p1 n1 k1)).setCell ⟨w.heap.size + 1 + 1, 2, none⟩ (.bool false))) := ⟨put3_get _ _ _ k3, (H12.out _ hBX).1, hBX⟩
        clear hc6 k3 hb3 hB1 hBX
        go_wp2_with fail
        refine bodyPost_ret (v := .tuple #[.agg #[.int .i64 b, .slice p1 n1 k1, .bool false], .int .i64 0]) (res_sp2 _ _ (w.heap.size + 1 + 1) _ _ _ _ Tryz.results12 rfl rfl HP.out.1) rfl ?_
        exact ⟨_, rfl, HP.out.2⟩
      | false =>
        rw [hc] at HI2
        obtain ⟨ok, hok⟩ : ∃ ok, (decide (n1 * n2 ≤ 2048) && decide (szC (topC (stl (cmN A C))) ≤ 128)) = ok := ⟨_, rfl⟩
        have e1 : mnE b b A C = if ok = true then 0 else 3 := by
          unfold mnE
          rw [if_neg (by rw [hf]; simp), hn1, hn2, ← hok]
          by_cases h5 : 2048 < n1 * n2
          · rw [if_pos h5, decide_eq_false (show ¬ n1 * n2 ≤ 2048 by omega)]
            simp
          · rw [if_neg h5, decide_eq_true (show n1 * n2 ≤ 2048 by omega)]
            by_cases h6 : szC (topC (stl (cmN A C))) ≤ 128 <;> simp [h6]
        have e2 : mnB b b A C = if ok = true then b else 0 := by unfold mnB; rw [e1]; cases ok <;> rfl
        have e3 : mnT b b A C = if ok = true then ordT (topC (stl (cmN A C))) else [] := by unfold mnT; rw [e1]; cases ok <;> rfl
        rw [e1, e2, e3]
        have HG : Hid (∀ W, Below wA.heap.size wA W → Calls Tryz.prog 26 #[.func (.func 31) #[] #[.pointer (some ⟨w.heap.size, 0, none⟩), .pointer (some ⟨w.heap.size + 1, 0, none⟩)]] W fun e w' => ∃ V, e = .returned (.tuple #[.agg #[.int .i64 (if ok = true then b else 0), V, .bool false], .int .i64 (if ok = true then 0 else 3)]) ∧ SPL w' W.heap.size V (if ok = true then ordT (topC (stl (cmN A C))) else []) ∧ Below W.heap.size W w') := fun W hW => by
          refine giveM b (ordT (topC (stl (cmN A C)))) ok w.heap.size (w.heap.size + 1) W (fun X hX => ?_)
          obtain ⟨k1', k2', -, s1, s2, -⟩ := HD.out X (bel0 hW hX)
          by_cases h5 : 2048 < n1 * n2
          · have e9 : ok = false := by rw [← hok, decide_eq_false (show ¬ n1 * n2 ≤ 2048 by omega)]; rfl
            refine (meet1_many b b A C 0 0 p1 p2 n1 n2 k1 k2 _ _ X s1 s2 k1' k2' hs1 hs2 hg1 hg2 (by omega) h5).mono ?_
            rintro e w' ⟨hb, rfl⟩
            exact ⟨hb, .inr ⟨e9, rfl⟩⟩
          · by_cases h6 : szC (topC (stl (cmN A C))) ≤ 128
            · have e9 : ok = true := by rw [← hok, decide_eq_true (show n1 * n2 ≤ 2048 by omega), decide_eq_true h6]; rfl
              refine (meet1_ok b b A C 0 0 p1 p2 n1 n2 k1 k2 _ _ X s1 s2 k1' k2' hs1 hs2 hg1 hg2 (by omega) h6).mono ?_
              rintro e w' ⟨hb, V, rfl, hv⟩
              exact ⟨hb, .inl ⟨e9, V, rfl, hv⟩⟩
            · have e9 : ok = false := by rw [← hok, decide_eq_false h6]; simp
              refine (meet1_over b b A C 0 0 p1 p2 n1 n2 k1 k2 _ _ X s1 s2 k1' k2' hs1 hs2 hg1 hg2 (by omega) (by omega)).mono ?_
              rintro e w' ⟨hb, rfl⟩
              exact ⟨hb, .inr ⟨e9, rfl⟩⟩
        obtain ⟨Y, hY⟩ : ∃ Y, (if ok = true then ordT (topC (stl (cmN A C))) else []) = Y := ⟨_, rfl⟩
        obtain ⟨bb, hbb⟩ : ∃ bb, (if ok = true then b else 0) = bb := ⟨_, rfl⟩
        obtain ⟨ee, hee⟩ : ∃ ee : Int, (if ok = true then (0 : Int) else 3) = ee := ⟨_, rfl⟩
        rw [hY, hbb, hee] at HG ⊢
        clear e1 e2 e3 hf ha hc hY hbb hee hok hBA d1 d2 d3 h1 h2 hs1 hs2 hg1 hg2 hw1 hw2 hn1 hn2
        go_enter Tryz.func12, Tryz.ntmps12
        go_wp2_with fail
        refine HF.out.mono ?_
        rintro e W1 ⟨rfl, hb1⟩
        obtain ⟨g1, -, -, -, -, -⟩ := HD.out W1 hb1
        have hc4 := (cells_block g1).1
        clear hc1 hc2 hwA g1
        go_wp2_with fail
        refine (HI1.out W1 hb1).mono ?_
        rintro e W2 ⟨rfl, hb2⟩
        have hB2 := bel0 hb1 hb2
        obtain ⟨-, g2, -, -, -, -⟩ := HD.out W2 hB2
        have hc5 := (cells_block g2).1
        clear hc4 hb1 hb2 g2
        go_wp2_with fail
        refine (HI2.out W2 hB2).mono ?_
        rintro e W4 ⟨rfl, hb4⟩
        have hB4 := bel0 hB2 hb4
        clear hc5 hB2 hb4
        go_wp2_with fail
        refine (HG.out W4 hB4).mono ?_
        rintro e W5 ⟨V, rfl, sv, hb5⟩
        obtain ⟨p8, c8, rfl⟩ := sv.shape
        obtain ⟨n8, hn8⟩ : ∃ n, Y.length = n := ⟨_, rfl⟩
        rw [hn8] at sv ⊢
        have hlt : w.heap.size + 1 + 1 < W4.heap.size := Nat.lt_of_lt_of_le HLT.out hB4.size
        obtain ⟨-, -, k3, -, -, hB1⟩ := HD.out W5 (bel0 hB4 hb5)
        obtain ⟨hc3, hf3⟩ := cells_block k3
        have HP : Hid ((((W5.setCell ⟨w.heap.size + 1 + 1, 0, none⟩ (.int .i64 bb)).setCell ⟨w.heap.size + 1 + 1, 1, none⟩ (.slice p8 n8 c8)).setCell ⟨w.heap.size + 1 + 1, 2, none⟩ (.bool false)).heap[w.heap.size + 1 + 1]? = some (.cells #[.int .i64 bb, .slice p8 n8 c8, .bool false] 26 (0, 0)) ∧ SPL (((W5.setCell ⟨w.heap.size + 1 + 1, 0, none⟩ (.int .i64 bb)).setCell ⟨w.heap.size + 1 + 1, 1, none⟩ (.slice p8 n8 c8)).setCell ⟨w.heap.size + 1 + 1, 2, none⟩ (.bool false)) 0 (.slice p8 n8 c8) Y ∧ Below w.heap.size w (((W5.setCell ⟨w.heap.size + 1 + 1, 0, none⟩ (.int .i64 bb)).setCell ⟨w.heap.size + 1 + 1, 1, none⟩ (.slice p8 n8 c8)).setCell ⟨w.heap.size + 1 + 1, 2, none⟩ (.bool false))) := ⟨put3_get _ _ _ k3, (sv.kept (gr3 _ _ _ _ _) hlt).base (Nat.zero_le _), ((hB1.setCell (by simp; omega) _).setCell (by simp; omega) _).setCell (by simp; omega) _⟩
        clear k3 hB4 hB1 hb5 sv
        go_wp2_with fail
        refine bodyPost_ret (v := .tuple #[.agg #[.int .i64 bb, .slice p8 n8 c8, .bool false], .int .i64 ee]) (res_sp2 _ _ (w.heap.size + 1 + 1) _ _ _ _ Tryz.results12 rfl rfl HP.out.1) rfl ?_
        exact ⟨_, rfl, HP.out.2⟩
end Go.Proofs.YtfhghplplkkpmaaGreatDoor
