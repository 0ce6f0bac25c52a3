import Derived.Test.YtcejejiomhhpgaaGreatDoorXAD
import Derived.Test.YtcejejiomhhpgaaGreatDoorXAA
import Derived.Deep.RegionHeld3
namespace Go.Proofs.YtcejejiomhhpgaaGreatDoor
open Go.RowKit

theorem meet_any (a b : List UInt8) (w : World) (ha : good a = true) :
    Calls Tryz.prog 58 #[cubeV a, cubeV b] w fun e w' => e = .returned (.tuple #[cubeV (mtT a b), .bool (agB a b)]) ∧ Below w.heap.size w w' := by
  unfold mtT
  cases hq : agB a b
  · exact meet_no a b w ha hq
  · have hl := fitB_len (agB_fit hq)
    have hc := agB_cfl hq
    refine (meet_raw _ _ _ _ _ _ _ _ _ _ _ _ _ _ _ _ _ _ w (fun W => agrees_D a b true W ha hq)).mono ?_
    rintro e w' ⟨rfl, hb⟩
    refine ⟨?_, hb⟩
    rw [FW_meet a b hl, FW_meet a b hl, FW_meet a b hl, FW_meet a b hl, OW_meet a b hl hc, OW_meet a b hl hc, OW_meet a b hl hc, OW_meet a b hl hc, if_pos rfl]
    unfold cubeV
    rw [meetT_len a b hl]

theorem meet_D (a b M : List UInt8) (q : Bool) (w : World) (ha : good a = true) (hM : mtT a b = M) (hq : agB a b = q) :
    Calls Tryz.prog 58 #[cubeV a, cubeV b] w fun e w' => e = .returned (.tuple #[cubeV M, .bool q]) ∧ Below w.heap.size w w' := by
  subst hM hq; exact meet_any a b w ha

theorem wi_eq (a b : List UInt8) (ha : good a = true) (hb : good b = true) : (agB a b && (mtT a b == a)) = wiB a b := by
  unfold wiB mtT
  cases hf : fitB a b
  · have : agB a b = false := by unfold agB; rw [hf]; rfl
    rw [this]; rfl
  · have hl := fitB_len hf
    rw [Bool.true_and, Bool.eq_iff_iff, allTo_iff]
    constructor
    · intro h k hk
      simp only [Bool.and_eq_true] at h
      rw [if_pos h.1, beq_iff_eq] at h
      have hm := meetT_get a b hl k hk
      rw [h.2, List.getElem?_eq_getElem hk] at hm
      have hc := agB_cfl h.1 k
      have hkb : k < b.length := by omega
      have ta := good_tri ha k hk
      have tb := good_tri hb k hkb
      simp only [cfl, fx, on, List.getElem?_eq_getElem hk, List.getElem?_eq_getElem hkb] at hc ⊢
      generalize a[k] = x at *
      generalize b[k] = y at *
      simp [tri] at ta tb
      rcases ta with (rfl | rfl) | rfl <;> rcases tb with (rfl | rfl) | rfl <;> simp_all
    · intro h
      have hag : agB a b = true := by
        unfold agB
        rw [hf, Bool.true_and, allTo_iff]
        intro k hk
        have hkb : k < b.length := by omega
        have hh := h k hk
        simp only [cfl, fx, on, List.getElem?_eq_getElem hk, List.getElem?_eq_getElem hkb] at hh ⊢
        generalize a[k] = x at *
        generalize b[k] = y at *
        simp at hh
        rcases hh with rfl | rfl <;> simp
      rw [hag, Bool.true_and, if_pos rfl, beq_iff_eq]
      apply List.ext_getElem?
      intro k
      by_cases hk : k < a.length
      · have hkb : k < b.length := by omega
        have hh := h k hk
        rw [meetT_get a b hl k hk, List.getElem?_eq_getElem hk]
        simp only [List.getElem?_eq_getElem hk, List.getElem?_eq_getElem hkb] at hh
        generalize a[k] = x at *
        generalize b[k] = y at *
        simp at hh
        rcases hh with rfl | rfl <;> by_cases e : x = 120 <;> simp [e]
      · rw [List.getElem?_eq_none (by rw [meetT_len a b hl]; omega), List.getElem?_eq_none (by omega)]

theorem common_any (a b : List UInt8) (w : World) (hq : agB a b = true) :
    Calls Tryz.prog 76 #[cubeV a, cubeV b] w fun e w' => e = .returned (cubeV (mtT a b)) ∧ Below w.heap.size w w' := by
  unfold mtT
  rw [hq]
  have hl := fitB_len (agB_fit hq)
  have hc := agB_cfl hq
  refine (common_raw _ _ _ _ _ _ _ _ _ _ _ _ _ _ _ _ _ _ w).mono ?_
  rintro e w' ⟨rfl, hb⟩
  refine ⟨?_, hb⟩
  rw [FW_meet a b hl, FW_meet a b hl, FW_meet a b hl, FW_meet a b hl, OW_meet a b hl hc, OW_meet a b hl hc, OW_meet a b hl hc, OW_meet a b hl hc, if_pos rfl]
  unfold cubeV
  rw [meetT_len a b hl]

theorem common_D (a b M : List UInt8) (w : World) (hM : mtT a b = M) (hq : agB a b = true) :
    Calls Tryz.prog 76 #[cubeV a, cubeV b] w fun e w' => e = .returned (cubeV M) ∧ Below w.heap.size w w' := by
  subst hM; exact common_any a b w hq

theorem kpb {a W : World} {g : Nat} {o : Obj} (h : Below a.heap.size a W) (hg : a.heap[g]? = some o) : W.heap[g]? = some o := by
  have hlt : g < a.heap.size := by
    rcases Nat.lt_or_ge g a.heap.size with h1 | h1
    · exact h1
    · rw [Array.getElem?_eq_none h1] at hg; cases hg
  rw [h.block g hlt]; exact hg
theorem und {a W : World} (h : Below a.drew.heap.size a.drew W) : Below a.heap.size a W := undrew h

theorem alw_0 (w : World) (o1 o2 : Obj) : ((w.alloc o1).alloc o2).heap[w.heap.size]? = some o1 := by
  rw [Below.heap_alloc _ _ _ (by simp)]
  exact alloc_get _ _
theorem alw_1 (w : World) (o1 o2 : Obj) : ((w.alloc o1).alloc o2).heap[w.heap.size + 1]? = some o2 := by
  have := alloc_get (w.alloc o1) o2
  simpa using this

/-- word k shows that a is not within b -/
def dwB (a b : List UInt8) (k : Nat) : Bool := bits .andNot .u64 (FW b k : Int) (FW a k : Int) != 0
theorem wi_dw {a b : List UInt8} (h : wiB a b = true) (k : Nat) : dwB a b k = false := by
  unfold wiB at h
  obtain ⟨hf, h⟩ := Bool.and_eq_true_iff.1 h
  have hl := fitB_len hf
  rw [allTo_iff] at h
  have e : FW b k &&& (18446744073709551615 - FW a k) = 0 := by
    apply Nat.eq_of_testBit_eq
    intro i
    rw [andnot_bit _ _ (FW_lt _ _), FW_bit, FW_bit, Nat.zero_testBit]
    by_cases hi : i < 64
    · by_cases hp : 64 * k + i < a.length
      · have hb : 64 * k + i < b.length := by omega
        have hh := h _ hp
        simp only [fx, List.getElem?_eq_getElem hp, List.getElem?_eq_getElem hb] at hh ⊢
        generalize a[64 * k + i] = x at *
        generalize b[64 * k + i] = y at *
        simp at hh
        rcases hh with rfl | rfl
        · simp
        · by_cases e : x = 120 <;> simp [e]
      · have hb : b.length ≤ 64 * k + i := by omega
        simp [fx, List.getElem?_eq_none hb]
    · simp [hi]
  unfold dwB
  rw [u64_andNot_nat _ _ (FW_lt _ _) (FW_lt _ _), e]
  rfl
theorem wi_all (a b : List UInt8) : ((!dwB a b 0 && !dwB a b 1 && !dwB a b 2 && !dwB a b 3) && wiB a b) = wiB a b := by
  cases h : wiB a b
  · simp
  · simp [wi_dw h]

theorem wp_drewN {P : Program} {C : Code} {Q : Exit → Act → World → Prop} {a : Act} {W : World} {n : Nat} (H : ∀ W3, Below W.heap.size W W3 → Code.wp P C Q a W3) : Code.wp P C Q a (W.drewN n) := H _ (below_drewN _ _ _)
set_option maxHeartbeats 2000000 in
theorem within_walk (a b M : List UInt8) (q d0 d1 d2 d3 : Bool) (w : World) (ha : good a = true) (hgM : good M = true) (hM0 : mtT a b = M) (hq0 : agB a b = q) (h0 : dwB a b 0 = d0) (h1 : dwB a b 1 = d1) (h2 : dwB a b 2 = d2) (h3 : dwB a b 3 = d3) :
    Calls Tryz.prog 63 #[cubeV a, cubeV b] w fun e w' => e = .returned (.bool ((!d0 && !d1 && !d2 && !d3) && (q && (M == a)))) ∧ Below w.heap.size w w' := by
  have hM : Hid (mtT a b = M) := hM0
  have hq : Hid (agB a b = q) := hq0
  clear hM0 hq0
  unfold dwB at h0 h1 h2 h3
  have hE := eql_cube M a hgM ha
  unfold cubeV cv
  obtain ⟨W2, hW2⟩ : ∃ W2, (w.alloc (.cells #[.int .i64 (a.length : Int), .int .u64 (FW a 0 : Int), .int .u64 (FW a 1 : Int), .int .u64 (FW a 2 : Int), .int .u64 (FW a 3 : Int), .int .u64 (OW a 0 : Int), .int .u64 (OW a 1 : Int), .int .u64 (OW a 2 : Int), .int .u64 (OW a 3 : Int)] 56 (0, 0))).alloc (.cells #[.int .i64 (b.length : Int), .int .u64 (FW b 0 : Int), .int .u64 (FW b 1 : Int), .int .u64 (FW b 2 : Int), .int .u64 (FW b 3 : Int), .int .u64 (OW b 0 : Int), .int .u64 (OW b 1 : Int), .int .u64 (OW b 2 : Int), .int .u64 (OW b 3 : Int)] 56 (0, 0)) = W2 := ⟨_, rfl⟩
  have hA : W2.heap[w.heap.size]? = some (.cells #[.int .i64 (a.length : Int), .int .u64 (FW a 0 : Int), .int .u64 (FW a 1 : Int), .int .u64 (FW a 2 : Int), .int .u64 (FW a 3 : Int), .int .u64 (OW a 0 : Int), .int .u64 (OW a 1 : Int), .int .u64 (OW a 2 : Int), .int .u64 (OW a 3 : Int)] 56 (0, 0)) := by rw [← hW2]; exact alw_0 _ _ _
  have hB : W2.heap[w.heap.size + 1]? = some (.cells #[.int .i64 (b.length : Int), .int .u64 (FW b 0 : Int), .int .u64 (FW b 1 : Int), .int .u64 (FW b 2 : Int), .int .u64 (FW b 3 : Int), .int .u64 (OW b 0 : Int), .int .u64 (OW b 1 : Int), .int .u64 (OW b 2 : Int), .int .u64 (OW b 3 : Int)] 56 (0, 0)) := by rw [← hW2]; exact alw_1 _ _ _
  have hBW : Below w.heap.size w W2 := by rw [← hW2]; exact belA (belA (Below.refl _ _) _) _
  obtain ⟨hcA, hfA⟩ := cells_block hA
  obtain ⟨hcB, hfB⟩ := cells_block hB
  have KA : Hid (∀ W, Below W2.heap.size W2 W → (∀ j, W.cell? ⟨w.heap.size, j, none⟩ = (#[.int .i64 (a.length : Int), .int .u64 (FW a 0 : Int), .int .u64 (FW a 1 : Int), .int .u64 (FW a 2 : Int), .int .u64 (FW a 3 : Int), .int .u64 (OW a 0 : Int), .int .u64 (OW a 1 : Int), .int .u64 (OW a 2 : Int), .int .u64 (OW a 3 : Int)] : Array Value)[j]?) ∧ (∀ j, W.cell? ⟨w.heap.size + 1, j, none⟩ = (#[.int .i64 (b.length : Int), .int .u64 (FW b 0 : Int), .int .u64 (FW b 1 : Int), .int .u64 (FW b 2 : Int), .int .u64 (FW b 3 : Int), .int .u64 (OW b 0 : Int), .int .u64 (OW b 1 : Int), .int .u64 (OW b 2 : Int), .int .u64 (OW b 3 : Int)] : Array Value)[j]?)) := fun W hW => ⟨(cells_block (kpb hW hA)).1, (cells_block (kpb hW hB)).1⟩
  cases q
  · go_enter Tryz.func63, Tryz.ntmps63
    go_wp2
    clear hW2 hA hB
    refine wp_loop_rounds 5 ?_
    rw [rounds_succ]
    go_wp2
    go_quiet (fail)
    cases d0
    rotate_left
    · go_wp2
      go_ret
      exact ⟨rfl, by first | exact hBW | exact hBW.trans (below_drewN _ _ _) | exact (hBW.trans (below_drewN _ _ _)).trans (below_drewN _ _ _)⟩
    go_wp2
    rw [rounds_succ]
    go_wp2
    go_quiet (fail)
    cases d1
    rotate_left
    · go_wp2
      go_ret
      exact ⟨rfl, by first | exact hBW | exact hBW.trans (below_drewN _ _ _) | exact (hBW.trans (below_drewN _ _ _)).trans (below_drewN _ _ _)⟩
    go_wp2
    rw [rounds_succ]
    go_wp2
    go_quiet (fail)
    cases d2
    rotate_left
    · go_wp2
      go_ret
      exact ⟨rfl, by first | exact hBW | exact hBW.trans (below_drewN _ _ _) | exact (hBW.trans (below_drewN _ _ _)).trans (below_drewN _ _ _)⟩
    go_wp2
    rw [rounds_succ]
    go_wp2
    go_quiet (fail)
    cases d3
    rotate_left
    · go_wp2
      go_ret
      exact ⟨rfl, by first | exact hBW | exact hBW.trans (below_drewN _ _ _) | exact (hBW.trans (below_drewN _ _ _)).trans (below_drewN _ _ _)⟩
    go_wp2
    rw [rounds_succ]
    go_wp2
    refine wp_drewN (fun W3 hB3 => ?_)
    obtain ⟨hc3A, hc3B⟩ := KA.out W3 hB3
    have K3 : Hid (∀ W, Below W3.heap.size W3 W → (∀ j, W.cell? ⟨w.heap.size, j, none⟩ = (#[.int .i64 (a.length : Int), .int .u64 (FW a 0 : Int), .int .u64 (FW a 1 : Int), .int .u64 (FW a 2 : Int), .int .u64 (FW a 3 : Int), .int .u64 (OW a 0 : Int), .int .u64 (OW a 1 : Int), .int .u64 (OW a 2 : Int), .int .u64 (OW a 3 : Int)] : Array Value)[j]?) ∧ (∀ j, W.cell? ⟨w.heap.size + 1, j, none⟩ = (#[.int .i64 (b.length : Int), .int .u64 (FW b 0 : Int), .int .u64 (FW b 1 : Int), .int .u64 (FW b 2 : Int), .int .u64 (FW b 3 : Int), .int .u64 (OW b 0 : Int), .int .u64 (OW b 1 : Int), .int .u64 (OW b 2 : Int), .int .u64 (OW b 3 : Int)] : Array Value)[j]?)) := fun W hW => KA.out W (bel0 hB3 hW)
    have HB3 : Hid (Below w.heap.size w W3) := bel0 hBW hB3
    clear hB3 hcA hcB hfA hfB KA hBW h0 h1 h2 h3
    go_region_with (go_at_call 75; refine (agrees_D a b false _ ha hq.out).mono ?_; rintro e w1 ⟨rfl, hb1⟩)
    all_goals
      go_wp2
      go_ret
      exact ⟨rfl, bel0 HB3.out (by first | exact und hb1 | exact hb1)⟩
  · go_enter Tryz.func63, Tryz.ntmps63
    go_wp2
    clear hW2 hA hB
    refine wp_loop_rounds 5 ?_
    rw [rounds_succ]
    go_wp2
    go_quiet (fail)
    cases d0
    rotate_left
    · go_wp2
      go_ret
      exact ⟨rfl, by first | exact hBW | exact hBW.trans (below_drewN _ _ _) | exact (hBW.trans (below_drewN _ _ _)).trans (below_drewN _ _ _)⟩
    go_wp2
    rw [rounds_succ]
    go_wp2
    go_quiet (fail)
    cases d1
    rotate_left
    · go_wp2
      go_ret
      exact ⟨rfl, by first | exact hBW | exact hBW.trans (below_drewN _ _ _) | exact (hBW.trans (below_drewN _ _ _)).trans (below_drewN _ _ _)⟩
    go_wp2
    rw [rounds_succ]
    go_wp2
    go_quiet (fail)
    cases d2
    rotate_left
    · go_wp2
      go_ret
      exact ⟨rfl, by first | exact hBW | exact hBW.trans (below_drewN _ _ _) | exact (hBW.trans (below_drewN _ _ _)).trans (below_drewN _ _ _)⟩
    go_wp2
    rw [rounds_succ]
    go_wp2
    go_quiet (fail)
    cases d3
    rotate_left
    · go_wp2
      go_ret
      exact ⟨rfl, by first | exact hBW | exact hBW.trans (below_drewN _ _ _) | exact (hBW.trans (below_drewN _ _ _)).trans (below_drewN _ _ _)⟩
    go_wp2
    rw [rounds_succ]
    go_wp2
    refine wp_drewN (fun W3 hB3 => ?_)
    obtain ⟨hc3A, hc3B⟩ := KA.out W3 hB3
    have K3 : Hid (∀ W, Below W3.heap.size W3 W → (∀ j, W.cell? ⟨w.heap.size, j, none⟩ = (#[.int .i64 (a.length : Int), .int .u64 (FW a 0 : Int), .int .u64 (FW a 1 : Int), .int .u64 (FW a 2 : Int), .int .u64 (FW a 3 : Int), .int .u64 (OW a 0 : Int), .int .u64 (OW a 1 : Int), .int .u64 (OW a 2 : Int), .int .u64 (OW a 3 : Int)] : Array Value)[j]?) ∧ (∀ j, W.cell? ⟨w.heap.size + 1, j, none⟩ = (#[.int .i64 (b.length : Int), .int .u64 (FW b 0 : Int), .int .u64 (FW b 1 : Int), .int .u64 (FW b 2 : Int), .int .u64 (FW b 3 : Int), .int .u64 (OW b 0 : Int), .int .u64 (OW b 1 : Int), .int .u64 (OW b 2 : Int), .int .u64 (OW b 3 : Int)] : Array Value)[j]?)) := fun W hW => KA.out W (bel0 hB3 hW)
    have HB3 : Hid (Below w.heap.size w W3) := bel0 hBW hB3
    clear hB3 hcA hcB hfA hfB KA hBW h0 h1 h2 h3
    go_region_held3 (fun W => (∀ j, W.cell? ⟨w.heap.size, j, none⟩ = (#[.int .i64 (a.length : Int), .int .u64 (FW a 0 : Int), .int .u64 (FW a 1 : Int), .int .u64 (FW a 2 : Int), .int .u64 (FW a 3 : Int), .int .u64 (OW a 0 : Int), .int .u64 (OW a 1 : Int), .int .u64 (OW a 2 : Int), .int .u64 (OW a 3 : Int)] : Array Value)[j]?) ∧ (∀ j, W.cell? ⟨w.heap.size + 1, j, none⟩ = (#[.int .i64 (b.length : Int), .int .u64 (FW b 0 : Int), .int .u64 (FW b 1 : Int), .int .u64 (FW b 2 : Int), .int .u64 (FW b 3 : Int), .int .u64 (OW b 0 : Int), .int .u64 (OW b 1 : Int), .int .u64 (OW b 2 : Int), .int .u64 (OW b 3 : Int)] : Array Value)[j]?)) (first | exact ⟨hc3A, hc3B⟩ | exact K3.out _ (bel0 (und hb1) hb2) | exact K3.out _ (und hb1) | exact K3.out _ hb1) (first | (go_at_call 76; refine (common_D a b M _ hM.out hq.out).mono ?_; rintro e w2 ⟨rfl, hb2⟩; unfold cubeV cv) | (go_at_call 75; refine (agrees_D a b true _ ha hq.out).mono ?_; rintro e w1 ⟨rfl, hb1⟩))
    go_wp2
    go_ret
    exact ⟨rfl, bel0 HB3.out (bel0 (und hb1) hb2)⟩

theorem within_any (a b : List UInt8) (w : World) (ha : good a = true) (hb : good b = true) :
    Calls Tryz.prog 63 #[cubeV a, cubeV b] w fun e w' => e = .returned (.bool (wiB a b)) ∧ Below w.heap.size w w' := by
  refine (within_walk a b _ _ _ _ _ _ w ha (good_mtT a b ha hb) rfl rfl rfl rfl rfl rfl).mono ?_
  rintro e w' ⟨rfl, h⟩
  exact ⟨by rw [wi_eq a b ha hb, wi_all a b], h⟩
theorem within_D (a b : List UInt8) (q : Bool) (w : World) (ha : good a = true) (hb : good b = true) (h : wiB a b = q) :
    Calls Tryz.prog 63 #[cubeV a, cubeV b] w fun e w' => e = .returned (.bool q) ∧ Below w.heap.size w w' := by
  subst h; exact within_any a b w ha hb
end Go.Proofs.YtcejejiomhhpgaaGreatDoor
