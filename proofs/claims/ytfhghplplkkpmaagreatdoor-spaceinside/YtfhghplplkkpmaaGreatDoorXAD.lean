import Derived.Test.YtfhghplplkkpmaaGreatDoorXAC
import Derived.Test.YtfhghplplkkpmaaGreatDoorXAA
import Derived.Deep.RegionHeld3
namespace Go.Proofs.YtfhghplplkkpmaaGreatDoor
open Go.RowKit

theorem meet_any (a b : List UInt8) (w : World) (ha : good a = true) :
    Calls Tryz.prog 56 #[cubeV a, cubeV b] w fun e w' => e = .returned (.tuple #[cubeV (mtT a b), .bool (agB a b)]) ∧ Below w.heap.size w w' := by
  unfold mtT
  cases hq : agB a b
  · exact meet_no a b w ha hq
  · have hl := fitB_len (agB_fit hq)
    have hc := agB_cfl hq
    refine (meet_raw _ _ _ _ _ _ _ _ _ _ _ _ _ _ _ _ _ _ w (fun W => agrees_D a b true W ha hq)).mono ?_
    rintro e w' ⟨rfl, hb⟩
    refine ⟨?_, hb⟩
    rw [FW_meet a b hl, FW_meet a b hl, FW_meet a b hl, FW_meet a b hl, OW_meet a b hl hc, OW_meet a b hl hc, OW_meet a b hl hc, OW_meet a b hl hc, if_pos rfl]
    unfold cubeV
    rw [meetT_len a b hl]

theorem meet_D (a b M : List UInt8) (q : Bool) (w : World) (ha : good a = true) (hM : mtT a b = M) (hq : agB a b = q) :
    Calls Tryz.prog 56 #[cubeV a, cubeV b] w fun e w' => e = .returned (.tuple #[cubeV M, .bool q]) ∧ Below w.heap.size w w' := by
  subst hM hq; exact meet_any a b w ha

theorem wi_eq (a b : List UInt8) (ha : good a = true) (hb : good b = true) : (agB a b && (mtT a b == a)) = wiB a b := by
  unfold wiB mtT
  cases hf : fitB a b
  · have : agB a b = false := by unfold agB; rw [hf]; rfl
    rw [this]; rfl
  · have hl := fitB_len hf
    rw [Bool.true_and, Bool.eq_iff_iff, allTo_iff]
    constructor
    · intro h k hk
      simp only [Bool.and_eq_true] at h
      rw [if_pos h.1, beq_iff_eq] at h
      have hm := meetT_get a b hl k hk
      rw [h.2, List.getElem?_eq_getElem hk] at hm
      have hc := agB_cfl h.1 k
      have hkb : k < b.length := by omega
      have ta := good_tri ha k hk
      have tb := good_tri hb k hkb
      simp only [cfl, fx, on, List.getElem?_eq_getElem hk, List.getElem?_eq_getElem hkb] at hc ⊢
      generalize a[k] = x at *
      generalize b[k] = y at *
      simp [tri] at ta tb
      rcases ta with (rfl | rfl) | rfl <;> rcases tb with (rfl | rfl) | rfl <;> simp_all
    · intro h
      have hag : agB a b = true := by
        unfold agB
        rw [hf, Bool.true_and, allTo_iff]
        intro k hk
        have hkb : k < b.length := by omega
        have hh := h k hk
        simp only [cfl, fx, on, List.getElem?_eq_getElem hk, List.getElem?_eq_getElem hkb] at hh ⊢
        generalize a[k] = x at *
        generalize b[k] = y at *
        simp at hh
        rcases hh with rfl | rfl <;> simp
      rw [hag, Bool.true_and, if_pos rfl, beq_iff_eq]
      apply List.ext_getElem?
      intro k
      by_cases hk : k < a.length
      · have hkb : k < b.length := by omega
        have hh := h k hk
        rw [meetT_get a b hl k hk, List.getElem?_eq_getElem hk]
        simp only [List.getElem?_eq_getElem hk, List.getElem?_eq_getElem hkb] at hh
        generalize a[k] = x at *
        generalize b[k] = y at *
        simp at hh
        rcases hh with rfl | rfl <;> by_cases e : x = 120 <;> simp [e]
      · rw [List.getElem?_eq_none (by rw [meetT_len a b hl]; omega), List.getElem?_eq_none (by omega)]

theorem common_any (a b : List UInt8) (w : World) (hq : agB a b = true) :
    Calls Tryz.prog 77 #[cubeV a, cubeV b] w fun e w' => e = .returned (cubeV (mtT a b)) ∧ Below w.heap.size w w' := by
  unfold mtT
  rw [hq]
  have hl := fitB_len (agB_fit hq)
  have hc := agB_cfl hq
  refine (common_raw _ _ _ _ _ _ _ _ _ _ _ _ _ _ _ _ _ _ w).mono ?_
  rintro e w' ⟨rfl, hb⟩
  refine ⟨?_, hb⟩
  rw [FW_meet a b hl, FW_meet a b hl, FW_meet a b hl, FW_meet a b hl, OW_meet a b hl hc, OW_meet a b hl hc, OW_meet a b hl hc, OW_meet a b hl hc, if_pos rfl]
  unfold cubeV
  rw [meetT_len a b hl]

theorem common_D (a b M : List UInt8) (w : World) (hM : mtT a b = M) (hq : agB a b = true) :
    Calls Tryz.prog 77 #[cubeV a, cubeV b] w fun e w' => e = .returned (cubeV M) ∧ Below w.heap.size w w' := by
  subst hM; exact common_any a b w hq

theorem kpb {a W : World} {g : Nat} {o : Obj} (h : Below a.heap.size a W) (hg : a.heap[g]? = some o) : W.heap[g]? = some o := by
  have hlt : g < a.heap.size := by
    rcases Nat.lt_or_ge g a.heap.size with h1 | h1
    · exact h1
    · rw [Array.getElem?_eq_none h1] at hg; cases hg
  rw [h.block g hlt]; exact hg
theorem und {a W : World} (h : Below a.drew.heap.size a.drew W) : Below a.heap.size a W := undrew h

theorem alw_0 (w : World) (o1 o2 : Obj) : ((w.alloc o1).alloc o2).heap[w.heap.size]? = some o1 := by
  rw [Below.heap_alloc _ _ _ (by simp)]
  exact alloc_get _ _
theorem alw_1 (w : World) (o1 o2 : Obj) : ((w.alloc o1).alloc o2).heap[w.heap.size + 1]? = some o2 := by
  have := alloc_get (w.alloc o1) o2
  simpa using this

/-- word k shows that a is not within b -/
def dwB (a b : List UInt8) (k : Nat) : Bool := bits .andNot .u64 (FW b k : Int) (FW a k : Int) != 0
theorem wi_dw {a b : List UInt8} (h : wiB a b = true) (k : Nat) : dwB a b k = false := by
  unfold wiB at h
  obtain ⟨hf, h⟩ := Bool.and_eq_true_iff.1 h
  have hl := fitB_len hf
  rw [allTo_iff] at h
  have e : FW b k &&& (18446744073709551615 - FW a k) = 0 := by
    apply Nat.eq_of_testBit_eq
    intro i
    rw [andnot_bit _ _ (FW_lt _ _), FW_bit, FW_bit, Nat.zero_testBit]
    by_cases hi : i < 64
    · by_cases hp : 64 * k + i < a.length
      · have hb : 64 * k + i < b.length := by omega
        have hh := h _ hp
        simp only [fx, List.getElem?_eq_getElem hp, List.getElem?_eq_getElem hb] at hh ⊢
        generalize a[64 * k + i] = x at *
        generalize b[64 * k + i] = y at *
        simp at hh
        rcases hh with rfl | rfl
        · simp
        · by_cases e : x = 120 <;> simp [e]
      · have hb : b.length ≤ 64 * k + i := by omega
        simp [fx, List.getElem?_eq_none hb]
    · simp [hi]
  unfold dwB
  rw [u64_andNot_nat _ _ (FW_lt _ _) (FW_lt _ _), e]
  rfl
theorem wi_all (a b : List UInt8) : ((!dwB a b 0 && !dwB a b 1 && !dwB a b 2 && !dwB a b 3) && wiB a b) = wiB a b := by
  cases h : wiB a b
  · simp
  · simp [wi_dw h]

theorem wp_drewN {P : Program} {C : Code} {Q : Exit → Act → World → Prop} {a : Act} {W : World} {n : Nat} (H : ∀ W3, Below W.heap.size W W3 → Code.wp P C Q a W3) : Code.wp P C Q a (W.drewN n) := H _ (below_drewN _ _ _)
set_option maxHeartbeats 2000000 in
theorem within_walk (a b M : List UInt8) (q d0 d1 d2 d3 : Bool) (w : World) (ha : good a = true) (hgM : good M = true) (hM0 : mtT a b = M) (hq0 : agB a b = q) (h0 : dwB a b 0 = d0) (h1 : dwB a b 1 = d1) (h2 : dwB a b 2 = d2) (h3 : dwB a b 3 = d3) :
    Calls Tryz.prog 62 #[cubeV a, cubeV b] w fun e w' => e = .returned (.bool ((!d0 && !d1 && !d2 && !d3) && (q && (M == a)))) ∧ Below w.heap.size w w' := by
  have hM : Hid (mtT a b = M) := hM0
  have hq : Hid (agB a b = q) := hq0
  clear hM0 hq0
  unfold dwB at h0 h1 h2 h3
  have hE := eql_cube M a hgM ha
  unfold cubeV cv
  obtain ⟨W2, hW2⟩ : ∃ W2, (w.alloc (.cells #[.int .i64 (a.length : Int), .int .u64 (FW a 0 : Int), .int .u64 (FW a 1 : Int), .int .u64 (FW a 2 : Int), .int .u64 (FW a 3 : Int), .int .u64 (OW a 0 : Int), .int .u64 (OW a 1 : Int), .int .u64 (OW a 2 : Int), .int .u64 (OW a 3 : Int)] 40 (0, 0))).alloc (.cells #[.int .i64 (b.length : Int), .int .u64 (FW b 0 : Int), .int .u64 (FW b 1 : Int), .int .u64 (FW b 2 : Int), .int .u64 (FW b 3 : Int), .int .u64 (OW b 0 : Int), .int .u64 (OW b 1 : Int), .int .u64 (OW b 2 : Int), .int .u64 (OW b 3 : Int)] 40 (0, 0)) = W2 := ⟨_, rfl⟩
  have hA : W2.heap[w.heap.size]? = some (.cells #[.int .i64 (a.length : Int), .int .u64 (FW a 0 : Int), .int .u64 (FW a 1 : Int), .int .u64 (FW a 2 : Int), .int .u64 (FW a 3 : Int), .int .u64 (OW a 0 : Int), .int .u64 (OW a 1 : Int), .int .u64 (OW a 2 : Int), .int .u64 (OW a 3 : Int)] 40 (0, 0)) := by rw [← hW2]; exact alw_0 _ _ _
  have hB : W2.heap[w.heap.size + 1]? = some (.cells #[.int .i64 (b.length : Int), .int .u64 (FW b 0 : Int), .int .u64 (FW b 1 : Int), .int .u64 (FW b 2 : Int), .int .u64 (FW b 3 : Int), .int .u64 (OW b 0 : Int), .int .u64 (OW b 1 : Int), .int .u64 (OW b 2 : Int), .int .u64 (OW b 3 : Int)] 40 (0, 0)) := by rw [← hW2]; exact alw_1 _ _ _
  have hBW : Below w.heap.size w W2 := by rw [← hW2]; exact belA (belA (Below.refl _ _) _) _
  obtain ⟨hcA, hfA⟩ := cells_block hA
  obtain ⟨hcB, hfB⟩ := cells_block hB
  have KA : Hid (∀ W, Below W2.heap.size W2 W → (∀ j, W.cell? ⟨w.heap.size, j, none⟩ = (#[.int .i64 (a.length : Int), .int .u64 (FW a 0 : Int), .int .u64 (FW a 1 : Int), .int .u64 (FW a 2 : Int), .int .u64 (FW a 3 : Int), .int .u64 (OW a 0 : Int), .int .u64 (OW a 1 : Int), .int .u64 (OW a 2 : Int), .int .u64 (OW a 3 : Int)] : Array Value)[j]?) ∧ (∀ j, W.cell? ⟨w.heap.size + 1, j, none⟩ = (#[.int .i64 (b.length : Int), .int .u64 (FW b 0 : Int), .int .u64 (FW b 1 : Int), .int .u64 (FW b 2 : Int), .int .u64 (FW b 3 : Int), .int .u64 (OW b 0 : Int), .int .u64 (OW b 1 : Int), .int .u64 (OW b 2 : Int), .int .u64 (OW b 3 : Int)] : Array Value)[j]?)) := fun W hW => ⟨(cells_block (kpb hW hA)).1, (cells_block (kpb hW hB)).1⟩
  cases q
  · go_enter Tryz.func62, Tryz.ntmps62
    go_wp2
    clear hW2 hA hB
    refine wp_loop_rounds 5 ?_
    rw [rounds_succ]
    go_wp2
    go_quiet (fail)
    cases d0
    rotate_left
    · go_wp2
      go_ret
      exact ⟨rfl, by first | exact hBW | exact hBW.trans (below_drewN _ _ _) | exact (hBW.trans (below_drewN _ _ _)).trans (below_drewN _ _ _)⟩
    go_wp2
    rw [rounds_succ]
    go_wp2
    go_quiet (fail)
    cases d1
    rotate_left
    · go_wp2
      go_ret
      exact ⟨rfl, by first | exact hBW | exact hBW.trans (below_drewN _ _ _) | exact (hBW.trans (below_drewN _ _ _)).trans (below_drewN _ _ _)⟩
    go_wp2
    rw [rounds_succ]
    go_wp2
    go_quiet (fail)
    cases d2
    rotate_left
    · go_wp2
      go_ret
      exact ⟨rfl, by first | exact hBW | exact hBW.trans (below_drewN _ _ _) | exact (hBW.trans (below_drewN _ _ _)).trans (below_drewN _ _ _)⟩
    go_wp2
    rw [rounds_succ]
    go_wp2
    go_quiet (fail)
    cases d3
    rotate_left
    · go_wp2
      go_ret
      exact ⟨rfl, by first | exact hBW | exact hBW.trans (below_drewN _ _ _) | exact (hBW.trans (below_drewN _ _ _)).trans (below_drewN _ _ _)⟩
    go_wp2
    rw [rounds_succ]
    go_wp2
    refine wp_drewN (fun W3 hB3 => ?_)
    obtain ⟨hc3A, hc3B⟩ := KA.out W3 hB3
    have K3 : Hid (∀ W, Below W3.heap.size W3 W → (∀ j, W.cell? ⟨w.heap.size, j, none⟩ = (#[.int .i64 (a.length : Int), .int .u64 (FW a 0 : Int), .int .u64 (FW a 1 : Int), .int .u64 (FW a 2 : Int), .int .u64 (FW a 3 : Int), .int .u64 (OW a 0 : Int), .int .u64 (OW a 1 : Int), .int .u64 (OW a 2 : Int), .int .u64 (OW a 3 : Int)] : Array Value)[j]?) ∧ (∀ j, W.cell? ⟨w.heap.size + 1, j, none⟩ = (#[.int .i64 (b.length : Int), .int .u64 (FW b 0 : Int), .int .u64 (FW b 1 : Int), .int .u64 (FW b 2 : Int), .int .u64 (FW b 3 : Int), .int .u64 (OW b 0 : Int), .int .u64 (OW b 1 : Int), .int .u64 (OW b 2 : Int), .int .u64 (OW b 3 : Int)] : Array Value)[j]?)) := fun W hW => KA.out W (bel0 hB3 hW)
    have HB3 : Hid (Below w.heap.size w W3) := bel0 hBW hB3
    clear hB3 hcA hcB hfA hfB KA hBW h0 h1 h2 h3
    go_region_with (go_at_call 76; refine (agrees_D a b false _ ha hq.out).mono ?_; rintro e w1 ⟨rfl, hb1⟩)
    all_goals
      go_wp2
      go_ret
      exact ⟨rfl, bel0 HB3.out (by first | exact und hb1 | exact hb1)⟩
  · go_enter Tryz.func62, Tryz.ntmps62
    go_wp2
    clear hW2 hA hB
    refine wp_loop_rounds 5 ?_
    rw [rounds_succ]
    go_wp2
    go_quiet (fail)
    cases d0
    rotate_left
    · go_wp2
      go_ret
      exact ⟨rfl, by first | exact hBW | exact hBW.trans (below_drewN _ _ _) | exact (hBW.trans (below_drewN _ _ _)).trans (below_drewN _ _ _)⟩
    go_wp2
    rw [rounds_succ]
    go_wp2
    go_quiet (fail)
    cases d1
    rotate_left
    · go_wp2
      go_ret
      exact ⟨rfl, by first | exact hBW | exact hBW.trans (below_drewN _ _ _) | exact (hBW.trans (below_drewN _ _ _)).trans (below_drewN _ _ _)⟩
    go_wp2
    rw [rounds_succ]
    go_wp2
    go_quiet (fail)
    cases d2
    rotate_left
    · go_wp2
      go_ret
      exact ⟨rfl, by first | exact hBW | exact hBW.trans (below_drewN _ _ _) | exact (hBW.trans (below_drewN _ _ _)).trans (below_drewN _ _ _)⟩
    go_wp2
    rw [rounds_succ]
    go_wp2
    go_quiet (fail)
    cases d3
    rotate_left
    · go_wp2
      go_ret
      exact ⟨rfl, by first | exact hBW | exact hBW.trans (below_drewN _ _ _) | exact (hBW.trans (below_drewN _ _ _)).trans (below_drewN _ _ _)⟩
    go_wp2
    rw [rounds_succ]
    go_wp2
    refine wp_drewN (fun W3 hB3 => ?_)
    obtain ⟨hc3A, hc3B⟩ := KA.out W3 hB3
    have K3 : Hid (∀ W, Below W3.heap.size W3 W → (∀ j, W.cell? ⟨w.heap.size, j, none⟩ = (#[.int .i64 (a.length : Int), .int .u64 (FW a 0 : Int), .int .u64 (FW a 1 : Int), .int .u64 (FW a 2 : Int), .int .u64 (FW a 3 : Int), .int .u64 (OW a 0 : Int), .int .u64 (OW a 1 : Int), .int .u64 (OW a 2 : Int), .int .u64 (OW a 3 : Int)] : Array Value)[j]?) ∧ (∀ j, W.cell? ⟨w.heap.size + 1, j, none⟩ = (#[.int .i64 (b.length : Int), .int .u64 (FW b 0 : Int), .int .u64 (FW b 1 : Int), .int .u64 (FW b 2 : Int), .int .u64 (FW b 3 : Int), .int .u64 (OW b 0 : Int), .int .u64 (OW b 1 : Int), .int .u64 (OW b 2 : Int), .int .u64 (OW b 3 : Int)] : Array Value)[j]?)) := fun W hW => KA.out W (bel0 hB3 hW)
    have HB3 : Hid (Below w.heap.size w W3) := bel0 hBW hB3
    clear hB3 hcA hcB hfA hfB KA hBW h0 h1 h2 h3
    go_region_held3 (fun W => (∀ j, W.cell? ⟨w.heap.size, j, none⟩ = (#[.int .i64 (a.length : Int), .int .u64 (FW a 0 : Int), .int .u64 (FW a 1 : Int), .int .u64 (FW a 2 : Int), .int .u64 (FW a 3 : Int), .int .u64 (OW a 0 : Int), .int .u64 (OW a 1 : Int), .int .u64 (OW a 2 : Int), .int .u64 (OW a 3 : Int)] : Array Value)[j]?) ∧ (∀ j, W.cell? ⟨w.heap.size + 1, j, none⟩ = (#[.int .i64 (b.length : Int), .int .u64 (FW b 0 : Int), .int .u64 (FW b 1 : Int), .int .u64 (FW b 2 : Int), .int .u64 (FW b 3 : Int), .int .u64 (OW b 0 : Int), .int .u64 (OW b 1 : Int), .int .u64 (OW b 2 : Int), .int .u64 (OW b 3 : Int)] : Array Value)[j]?)) (first | exact ⟨hc3A, hc3B⟩ | exact K3.out _ (bel0 (und hb1) hb2) | exact K3.out _ (und hb1) | exact K3.out _ hb1) (first | (go_at_call 77; refine (common_D a b M _ hM.out hq.out).mono ?_; rintro e w2 ⟨rfl, hb2⟩; unfold cubeV cv) | (go_at_call 76; refine (agrees_D a b true _ ha hq.out).mono ?_; rintro e w1 ⟨rfl, hb1⟩))
    go_wp2
    go_ret
    exact ⟨rfl, bel0 HB3.out (bel0 (und hb1) hb2)⟩

theorem within_any (a b : List UInt8) (w : World) (ha : good a = true) (hb : good b = true) :
    Calls Tryz.prog 62 #[cubeV a, cubeV b] w fun e w' => e = .returned (.bool (wiB a b)) ∧ Below w.heap.size w w' := by
  refine (within_walk a b _ _ _ _ _ _ w ha (good_mtT a b ha hb) rfl rfl rfl rfl rfl rfl).mono ?_
  rintro e w' ⟨rfl, h⟩
  exact ⟨by rw [wi_eq a b ha hb, wi_all a b], h⟩
theorem within_D (a b : List UInt8) (q : Bool) (w : World) (ha : good a = true) (hb : good b = true) (h : wiB a b = q) :
    Calls Tryz.prog 62 #[cubeV a, cubeV b] w fun e w' => e = .returned (.bool q) ∧ Below w.heap.size w w' := by
  subst h; exact within_any a b w ha hb
end Go.Proofs.YtfhghplplkkpmaaGreatDoor
namespace Go.Proofs.YtfhghplplkkpmaaGreatDoor
open Go.RowKit
/-- a cube's nine cells lie at a place -/
def CB (W : World) (g o : Nat) (t : List UInt8) : Prop := W.cell? ⟨g, o, none⟩ = some (.int .i64 (t.length : Int)) ∧ W.cell? ⟨g, o + 1, none⟩ = some (.int .u64 (FW t 0 : Int)) ∧ W.cell? ⟨g, o + 2, none⟩ = some (.int .u64 (FW t 1 : Int)) ∧ W.cell? ⟨g, o + 3, none⟩ = some (.int .u64 (FW t 2 : Int)) ∧ W.cell? ⟨g, o + 4, none⟩ = some (.int .u64 (FW t 3 : Int)) ∧ W.cell? ⟨g, o + 5, none⟩ = some (.int .u64 (OW t 0 : Int)) ∧ W.cell? ⟨g, o + 6, none⟩ = some (.int .u64 (OW t 1 : Int)) ∧ W.cell? ⟨g, o + 7, none⟩ = some (.int .u64 (OW t 2 : Int)) ∧ W.cell? ⟨g, o + 8, none⟩ = some (.int .u64 (OW t 3 : Int))
theorem CB.below {W X : World} {g o : Nat} {t : List UInt8} (h : CB W g o t) (hb : Below W.heap.size W X) : CB X g o t := by
  have hk : ∀ {p : Addr} {v : Value}, W.cell? p = some v → X.cell? p = some v := fun h => (hb.cell (World.block_lt_of_cell? W _ h)).trans h
  obtain ⟨a0, a1, a2, a3, a4, a5, a6, a7, a8⟩ := h
  exact ⟨hk a0, hk a1, hk a2, hk a3, hk a4, hk a5, hk a6, hk a7, hk a8⟩
theorem CB_of {W : World} {b : Nat} {t : List UInt8} (h : W.heap[b]? = some (.cells #[.int .i64 (t.length : Int), .int .u64 (FW t 0 : Int), .int .u64 (FW t 1 : Int), .int .u64 (FW t 2 : Int), .int .u64 (FW t 3 : Int), .int .u64 (OW t 0 : Int), .int .u64 (OW t 1 : Int), .int .u64 (OW t 2 : Int), .int .u64 (OW t 3 : Int)] 40 (0, 0))) : CB W b 0 t := by
  obtain ⟨c, -⟩ := cells_block h
  exact ⟨c 0, c 1, c 2, c 3, c 4, c 5, c 6, c 7, c 8⟩
/-- a row of cubes lies there, now and as long as what lay is not written -/
def IRC (w : World) (p : Option Addr) (L : List (List UInt8)) : Prop := ∀ W : World, Below w.heap.size w W → ∀ k t, L[k]? = some t → ∃ g o0, p = some ⟨g, o0, none⟩ ∧ CB W g (o0 + k * 9) t
theorem IRC.later {w W : World} {p : Option Addr} {L : List (List UInt8)} (h : IRC w p L) (hb : Below w.heap.size w W) : IRC W p L := fun X hX k t ht => h X (bel0 hb hX) k t ht
theorem IRC_own {W : World} {B n c : Nat} {p : Option Addr} {L : List (List UInt8)} (h : W.ownsRow B 40 9 (.slice p n c) n (ces L)) (hn : L.length = n) : IRC W p L := fun X hX k t ht => by
  obtain ⟨hk, he⟩ := List.getElem?_eq_some_iff.1 ht
  subst hn
  rcases h.2 with ⟨e, h0⟩ | ⟨g, cap, cur, e, _⟩
  · omega
  · injection e with e1 _ _
    subst e1
    refine ⟨g, 0, rfl, ?_⟩
    rw [Nat.zero_add]
    exact CB.below (ce_at h hk he) hX
/-- the first place, from k on, at which p holds -/
def ixP (p : List UInt8 → Bool) (k : Nat) : List (List UInt8) → Int
  | [] => -1
  | t :: r => if p t = true then (k : Int) else ixP p (k + 1) r
theorem ixP_step {p : List UInt8 → Bool} {L : List (List UInt8)} {k : Nat} {t : List UInt8} (h : L[k]? = some t) : ixP p k (L.drop k) = if p t = true then (k : Int) else ixP p (k + 1) (L.drop (k + 1)) := by
  obtain ⟨hk, he⟩ := List.getElem?_eq_some_iff.1 h
  rw [List.drop_eq_getElem_cons hk, he]
  rfl
theorem ixP_any (p : List UInt8 → Bool) : ∀ (L : List (List UInt8)) (k : Nat), decide ((0 : Int) ≤ ixP p k L) = L.any p
  | [], k => by simp [ixP]
  | t :: r, k => by
    unfold ixP
    cases h : p t with
    | true => simp [h]
    | false => rw [if_neg (by simp), ixP_any p r (k + 1)]; simp [h]
/-- where p holds first -/
theorem ixP_at (p : List UInt8 → Bool) : ∀ (L : List (List UInt8)) (k : Nat), (ixP p k L = -1 ∧ ∀ t ∈ L, p t = false) ∨ ∃ A t R, L = A ++ t :: R ∧ (∀ x ∈ A, p x = false) ∧ p t = true ∧ ixP p k L = ((k + A.length : Nat) : Int)
  | [], k => .inl ⟨rfl, fun t h => by cases h⟩
  | t :: r, k => by
    unfold ixP
    cases h : p t with
    | true => exact .inr ⟨[], t, r, rfl, fun x hx => (by cases hx), h, by simp⟩
    | false =>
      rw [if_neg (by simp)]
      rcases ixP_at p r (k + 1) with ⟨e, ha⟩ | ⟨A, u, R, e1, e2, e3, e4⟩
      · refine .inl ⟨e, fun x hx => ?_⟩
        rcases List.mem_cons.1 hx with rfl | hx
        · exact h
        · exact ha x hx
      · refine .inr ⟨t :: A, u, R, by rw [e1]; rfl, fun x hx => ?_, e3, by rw [e4, List.length_cons]; congr 1; omega⟩
        rcases List.mem_cons.1 hx with rfl | hx
        · exact h
        · exact e2 x hx
/-- greatest's closures: within(x, y), within(y, x) -/
def WQ (W : World) (bw bx : Nat) (x : List UInt8) : Prop := W.heap[bw]? = some (.cells #[.func (.func 62) #[] #[]] 110 (0, 0)) ∧ W.heap[bx]? = some (.cells #[.int .i64 (x.length : Int), .int .u64 (FW x 0 : Int), .int .u64 (FW x 1 : Int), .int .u64 (FW x 2 : Int), .int .u64 (FW x 3 : Int), .int .u64 (OW x 0 : Int), .int .u64 (OW x 1 : Int), .int .u64 (OW x 2 : Int), .int .u64 (OW x 3 : Int)] 40 (0, 0))
theorem WQ.below {W X : World} {bw bx : Nat} {x : List UInt8} (h : WQ W bw bx x) (hb : Below W.heap.size W X) : WQ X bw bx x := ⟨keepblk3 hb h.1, keepblk3 hb h.2⟩
set_option maxRecDepth 100000 in
set_option maxHeartbeats 1000000 in
theorem great1_any (x y : List UInt8) (bw bx : Nat) (w : World) (gx : good x = true) (gy : good y = true) (h : WQ w bw bx x) : Calls Tryz.prog 83 #[cubeV y, .pointer (some ⟨bw, 0, none⟩), .pointer (some ⟨bx, 0, none⟩)] w fun e w' => e = .returned (.bool (wiB x y)) ∧ Below w.heap.size w w' := by
  obtain ⟨hw, hx⟩ := h
  have w0 : (w.alloc (Obj.cells #[.int .i64 (y.length : Int), .int .u64 (FW y 0 : Int), .int .u64 (FW y 1 : Int), .int .u64 (FW y 2 : Int), .int .u64 (FW y 3 : Int), .int .u64 (OW y 0 : Int), .int .u64 (OW y 1 : Int), .int .u64 (OW y 2 : Int), .int .u64 (OW y 3 : Int)] 40)).cell? ⟨bw, 0, none⟩ = some (.func (.func 62) #[] #[]) := (cells_block (allocblk3 hw _)).1 0
  have x0 : CB (w.alloc (Obj.cells #[.int .i64 (y.length : Int), .int .u64 (FW y 0 : Int), .int .u64 (FW y 1 : Int), .int .u64 (FW y 2 : Int), .int .u64 (FW y 3 : Int), .int .u64 (OW y 0 : Int), .int .u64 (OW y 1 : Int), .int .u64 (OW y 2 : Int), .int .u64 (OW y 3 : Int)] 40)) bx 0 x := CB_of (allocblk3 hx _)
  have y0 : CB (w.alloc (Obj.cells #[.int .i64 (y.length : Int), .int .u64 (FW y 0 : Int), .int .u64 (FW y 1 : Int), .int .u64 (FW y 2 : Int), .int .u64 (FW y 3 : Int), .int .u64 (OW y 0 : Int), .int .u64 (OW y 1 : Int), .int .u64 (OW y 2 : Int), .int .u64 (OW y 3 : Int)] 40)) w.heap.size 0 y := CB_of (alloc_get _ _)
  obtain ⟨V, hV⟩ : ∃ V : World, w.alloc (Obj.cells #[.int .i64 (y.length : Int), .int .u64 (FW y 0 : Int), .int .u64 (FW y 1 : Int), .int .u64 (FW y 2 : Int), .int .u64 (FW y 3 : Int), .int .u64 (OW y 0 : Int), .int .u64 (OW y 1 : Int), .int .u64 (OW y 2 : Int), .int .u64 (OW y 3 : Int)] 40) = V := ⟨_, rfl⟩
  have vB : Below w.heap.size w V := by rw [← hV]; exact belA (Below.refl _ _) _
  rw [hV] at w0 x0 y0
  obtain ⟨a0, a1, a2, a3, a4, a5, a6, a7, a8⟩ := x0
  obtain ⟨d0, d1, d2, d3, d4, d5, d6, d7, d8⟩ := y0
  clear hw hx
  unfold cubeV cv
  go_enter Tryz.func83, Tryz.ntmps83
  go_wp2_with fail
  refine (within_any x y _ gx gy).mono ?_
  rintro e W1 ⟨rfl, hb1⟩
  go_wp2_with fail
  go_ret
  exact ⟨rfl, bel0 vB hb1⟩
set_option maxRecDepth 100000 in
set_option maxHeartbeats 1000000 in
theorem great2_any (x y : List UInt8) (bw bx : Nat) (w : World) (gx : good x = true) (gy : good y = true) (h : WQ w bw bx x) : Calls Tryz.prog 85 #[cubeV y, .pointer (some ⟨bw, 0, none⟩), .pointer (some ⟨bx, 0, none⟩)] w fun e w' => e = .returned (.bool (wiB y x)) ∧ Below w.heap.size w w' := by
  obtain ⟨hw, hx⟩ := h
  have w0 : (w.alloc (Obj.cells #[.int .i64 (y.length : Int), .int .u64 (FW y 0 : Int), .int .u64 (FW y 1 : Int), .int .u64 (FW y 2 : Int), .int .u64 (FW y 3 : Int), .int .u64 (OW y 0 : Int), .int .u64 (OW y 1 : Int), .int .u64 (OW y 2 : Int), .int .u64 (OW y 3 : Int)] 40)).cell? ⟨bw, 0, none⟩ = some (.func (.func 62) #[] #[]) := (cells_block (allocblk3 hw _)).1 0
  have x0 : CB (w.alloc (Obj.cells #[.int .i64 (y.length : Int), .int .u64 (FW y 0 : Int), .int .u64 (FW y 1 : Int), .int .u64 (FW y 2 : Int), .int .u64 (FW y 3 : Int), .int .u64 (OW y 0 : Int), .int .u64 (OW y 1 : Int), .int .u64 (OW y 2 : Int), .int .u64 (OW y 3 : Int)] 40)) bx 0 x := CB_of (allocblk3 hx _)
  have y0 : CB (w.alloc (Obj.cells #[.int .i64 (y.length : Int), .int .u64 (FW y 0 : Int), .int .u64 (FW y 1 : Int), .int .u64 (FW y 2 : Int), .int .u64 (FW y 3 : Int), .int .u64 (OW y 0 : Int), .int .u64 (OW y 1 : Int), .int .u64 (OW y 2 : Int), .int .u64 (OW y 3 : Int)] 40)) w.heap.size 0 y := CB_of (alloc_get _ _)
  obtain ⟨V, hV⟩ : ∃ V : World, w.alloc (Obj.cells #[.int .i64 (y.length : Int), .int .u64 (FW y 0 : Int), .int .u64 (FW y 1 : Int), .int .u64 (FW y 2 : Int), .int .u64 (FW y 3 : Int), .int .u64 (OW y 0 : Int), .int .u64 (OW y 1 : Int), .int .u64 (OW y 2 : Int), .int .u64 (OW y 3 : Int)] 40) = V := ⟨_, rfl⟩
  have vB : Below w.heap.size w V := by rw [← hV]; exact belA (Below.refl _ _) _
  rw [hV] at w0 x0 y0
  obtain ⟨a0, a1, a2, a3, a4, a5, a6, a7, a8⟩ := x0
  obtain ⟨d0, d1, d2, d3, d4, d5, d6, d7, d8⟩ := y0
  clear hw hx
  unfold cubeV cv
  go_enter Tryz.func85, Tryz.ntmps85
  go_wp2_with fail
  refine (within_any y x _ gy gx).mono ?_
  rintro e W1 ⟨rfl, hb1⟩
  go_wp2_with fail
  go_ret
  exact ⟨rfl, bel0 vB hb1⟩
set_option maxRecDepth 100000 in
set_option maxHeartbeats 2000000 in
theorem idxc1_any (L : List (List UInt8)) (n : Nat) (o : Option Addr) (c : Nat) (b1 b2 : Nat) (p : List UInt8 → Bool) (w : World) (hn : L.length = n) (hL : n ≤ 281474976710656) (hr : IRC w o L) (hp : ∀ W, Below w.heap.size w W → ∀ t ∈ L, Calls Tryz.prog 83 #[cubeV t, .pointer (some ⟨b1, 0, none⟩), .pointer (some ⟨b2, 0, none⟩)] W fun e w' => e = .returned (.bool (p t)) ∧ Below W.heap.size W w') :
    Calls Tryz.prog 102 #[.slice o n c, .func (.func 83) #[] #[.pointer (some ⟨b1, 0, none⟩), .pointer (some ⟨b2, 0, none⟩)]] w fun e w' => e = .returned (.int .i64 (ixP p 0 L)) ∧ Below w.heap.size w w' := by
  have HR : Hid (IRC w o L) := hr
  have HPP : Hid (∀ W, Below w.heap.size w W → ∀ t ∈ L, Calls Tryz.prog 83 #[cubeV t, .pointer (some ⟨b1, 0, none⟩), .pointer (some ⟨b2, 0, none⟩)] W fun e w' => e = .returned (.bool (p t)) ∧ Below W.heap.size W w') := hp
  have HN : Hid (L.length = n) := hn
  obtain ⟨q, hq⟩ : ∃ q, ixP p 0 L = q := ⟨_, rfl⟩
  rw [hq]
  have HQ : Hid (ixP p 0 (L.drop 0) = q) := hq
  clear hr hp hq hn
  go_enter Tryz.func102, Tryz.ntmps102
  go_wp2_with fail
  go_loopw [8] (fun vk wr => ∃ k : Nat, vk = .int .i64 k ∧ k ≤ n ∧ Hid (ixP p k (L.drop k) = q) ∧ Below w.heap.size w wr) (fun vk _ => n - (intOf vk).toNat)
  case atStart => exact ⟨0, rfl, Nat.zero_le _, HQ, Below.refl _ _⟩
  case round =>
    clear HQ
    obtain ⟨k, rfl, hk, hidx, hB⟩ := hrel
    by_cases hlt : k < n
    · have j1 : (k : Int) < (n : Int) := by omega
      have j0 : (0 : Int) ≤ (k : Int) := by omega
      obtain ⟨t, ht⟩ : ∃ t, L[k]? = some t := ⟨_, List.getElem?_eq_getElem (by rw [HN.out]; exact hlt)⟩
      obtain ⟨g, o0, rfl, p0, p1, p2, p3, p4, p5, p6, p7, p8⟩ := HR.out wr hB k t ht
      have hx2 := hidx.out
      rw [ixP_step ht] at hx2
      have H1 := HPP.out wr hB t (List.mem_of_getElem? ht)
      have HH : Hid (Calls Tryz.prog 83 #[cubeV t, .pointer (some ⟨b1, 0, none⟩), .pointer (some ⟨b2, 0, none⟩)] wr fun e w' => e = .returned (.bool (p t)) ∧ Below wr.heap.size wr w') := H1
      clear ht hidx H1
      cases hy : p t with
      | true =>
        rw [hy, if_pos rfl] at hx2
        have HX2 : Hid ((k : Int) = q) := hx2
        have HY : Hid (p t = true) := hy
        clear hx2 hy
        go_wp2_with fail
        refine HH.out.mono ?_
        rintro e W1 ⟨rfl, hb1⟩
        rw [HY.out]
        go_wp2_with fail
        go_ret
        exact ⟨by rw [← HX2.out]; rfl, bel0 hB hb1⟩
      | false =>
        rw [hy, if_neg (by simp)] at hx2
        have HX : Hid (ixP p (k + 1) (L.drop (k + 1)) = q) := hx2
        have HY : Hid (p t = false) := hy
        clear hx2 hy
        go_wp2_with fail
        refine HH.out.mono ?_
        rintro e W1 ⟨rfl, hb1⟩
        rw [HY.out]
        go_wp2_with fail
        go_roundw
        case rel => exact ⟨k + 1, by go_num, by omega, HX, bel0 hB hb1⟩
        case measure => simp [intOf]; omega
    · have j1 : ¬ (k : Int) < (n : Int) := by omega
      have HX2 : Hid (-1 = q) := by
        unfold Hid
        rw [← hidx.out, List.drop_eq_nil_of_le (by rw [HN.out]; omega)]
        rfl
      clear hidx
      go_wp2_with fail
      go_ret
      exact ⟨by rw [← HX2.out]; rfl, hB⟩
set_option maxRecDepth 100000 in
set_option maxHeartbeats 2000000 in
theorem idxc2_any (L : List (List UInt8)) (n : Nat) (o : Option Addr) (c : Nat) (b1 b2 : Nat) (p : List UInt8 → Bool) (w : World) (hn : L.length = n) (hL : n ≤ 281474976710656) (hr : IRC w o L) (hp : ∀ W, Below w.heap.size w W → ∀ t ∈ L, Calls Tryz.prog 85 #[cubeV t, .pointer (some ⟨b1, 0, none⟩), .pointer (some ⟨b2, 0, none⟩)] W fun e w' => e = .returned (.bool (p t)) ∧ Below W.heap.size W w') :
    Calls Tryz.prog 102 #[.slice o n c, .func (.func 85) #[] #[.pointer (some ⟨b1, 0, none⟩), .pointer (some ⟨b2, 0, none⟩)]] w fun e w' => e = .returned (.int .i64 (ixP p 0 L)) ∧ Below w.heap.size w w' := by
  have HR : Hid (IRC w o L) := hr
  have HPP : Hid (∀ W, Below w.heap.size w W → ∀ t ∈ L, Calls Tryz.prog 85 #[cubeV t, .pointer (some ⟨b1, 0, none⟩), .pointer (some ⟨b2, 0, none⟩)] W fun e w' => e = .returned (.bool (p t)) ∧ Below W.heap.size W w') := hp
  have HN : Hid (L.length = n) := hn
  obtain ⟨q, hq⟩ : ∃ q, ixP p 0 L = q := ⟨_, rfl⟩
  rw [hq]
  have HQ : Hid (ixP p 0 (L.drop 0) = q) := hq
  clear hr hp hq hn
  go_enter Tryz.func102, Tryz.ntmps102
  go_wp2_with fail
  go_loopw [8] (fun vk wr => ∃ k : Nat, vk = .int .i64 k ∧ k ≤ n ∧ Hid (ixP p k (L.drop k) = q) ∧ Below w.heap.size w wr) (fun vk _ => n - (intOf vk).toNat)
  case atStart => exact ⟨0, rfl, Nat.zero_le _, HQ, Below.refl _ _⟩
  case round =>
    clear HQ
    obtain ⟨k, rfl, hk, hidx, hB⟩ := hrel
    by_cases hlt : k < n
    · have j1 : (k : Int) < (n : Int) := by omega
      have j0 : (0 : Int) ≤ (k : Int) := by omega
      obtain ⟨t, ht⟩ : ∃ t, L[k]? = some t := ⟨_, List.getElem?_eq_getElem (by rw [HN.out]; exact hlt)⟩
      obtain ⟨g, o0, rfl, p0, p1, p2, p3, p4, p5, p6, p7, p8⟩ := HR.out wr hB k t ht
      have hx2 := hidx.out
      rw [ixP_step ht] at hx2
      have H1 := HPP.out wr hB t (List.mem_of_getElem? ht)
      have HH : Hid (Calls Tryz.prog 85 #[cubeV t, .pointer (some ⟨b1, 0, none⟩), .pointer (some ⟨b2, 0, none⟩)] wr fun e w' => e = .returned (.bool (p t)) ∧ Below wr.heap.size wr w') := H1
      clear ht hidx H1
      cases hy : p t with
      | true =>
        rw [hy, if_pos rfl] at hx2
        have HX2 : Hid ((k : Int) = q) := hx2
        have HY : Hid (p t = true) := hy
        clear hx2 hy
        go_wp2_with fail
        refine HH.out.mono ?_
        rintro e W1 ⟨rfl, hb1⟩
        rw [HY.out]
        go_wp2_with fail
        go_ret
        exact ⟨by rw [← HX2.out]; rfl, bel0 hB hb1⟩
      | false =>
        rw [hy, if_neg (by simp)] at hx2
        have HX : Hid (ixP p (k + 1) (L.drop (k + 1)) = q) := hx2
        have HY : Hid (p t = false) := hy
        clear hx2 hy
        go_wp2_with fail
        refine HH.out.mono ?_
        rintro e W1 ⟨rfl, hb1⟩
        rw [HY.out]
        go_wp2_with fail
        go_roundw
        case rel => exact ⟨k + 1, by go_num, by omega, HX, bel0 hB hb1⟩
        case measure => simp [intOf]; omega
    · have j1 : ¬ (k : Int) < (n : Int) := by omega
      have HX2 : Hid (-1 = q) := by
        unfold Hid
        rw [← hidx.out, List.drop_eq_nil_of_le (by rw [HN.out]; omega)]
        rfl
      clear hidx
      go_wp2_with fail
      go_ret
      exact ⟨by rw [← HX2.out]; rfl, hB⟩
set_option maxRecDepth 100000 in
set_option maxHeartbeats 1000000 in
theorem contc_any (L : List (List UInt8)) (n : Nat) (o : Option Addr) (c : Nat) (b1 b2 : Nat) (p : List UInt8 → Bool) (w : World) (hn : L.length = n) (hL : n ≤ 281474976710656) (hr : IRC w o L) (hp : ∀ W, Below w.heap.size w W → ∀ t ∈ L, Calls Tryz.prog 83 #[cubeV t, .pointer (some ⟨b1, 0, none⟩), .pointer (some ⟨b2, 0, none⟩)] W fun e w' => e = .returned (.bool (p t)) ∧ Below W.heap.size W w') :
    Calls Tryz.prog 75 #[.slice o n c, .func (.func 83) #[] #[.pointer (some ⟨b1, 0, none⟩), .pointer (some ⟨b2, 0, none⟩)]] w fun e w' => e = .returned (.bool (L.any p)) ∧ Below w.heap.size w w' := by
  have H1 := idxc1_any L n o c b1 b2 p w hn hL hr hp
  obtain ⟨b, hb⟩ : ∃ b, L.any p = b := ⟨_, rfl⟩
  obtain ⟨i, hi⟩ : ∃ i, ixP p 0 L = i := ⟨_, rfl⟩
  have HD : Hid (decide ((0 : Int) ≤ i) = b) := by
    unfold Hid
    rw [← hb, ← hi, ixP_any]
  rw [hi] at H1
  rw [hb]
  clear hr hp hb hi hn
  go_enter Tryz.func75, Tryz.ntmps75
  go_wp2_with fail
  refine H1.mono ?_
  rintro e W1 ⟨rfl, hb1⟩
  go_wp2_with fail
  go_ret
  exact ⟨by rw [← HD.out]; rfl, hb1⟩
end Go.Proofs.YtfhghplplkkpmaaGreatDoor
