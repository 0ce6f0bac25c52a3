import Derived.Test.YtmblloddhpcdeacYC
namespace Go.Proofs.Ytmblloddhpcdeac
open Go.RowKit

theorem upTo_ex (t : List UInt8) (N : Nat) (h : 1 ≤ N) : ∃ m, upTo t N m := by
  induction N with
  | zero => omega
  | succ N ih =>
    by_cases e : N = 0
    · subst e
      exact ⟨1, by omega, by omega, trivial, .inl rfl⟩
    · obtain ⟨m, a1, a2, a3, a4⟩ := ih (by omega)
      cases hb : (nx t (ms t (m - 1))).2
      · exact ⟨m, a1, by omega, a3, .inr hb⟩
      · rcases a4 with rfl | hf
        · refine ⟨m + 1, by omega, by omega, ?_, .inl rfl⟩
          rw [show m + 1 - 1 = (m - 1) + 1 by omega]
          exact ⟨a3, hb⟩
        · rw [hf] at hb; cases hb

theorem rMembers_nil (s : ByteArray) (N : Nat) (w : World) (h : s.toList.isEmpty = true ∨ N = 0) : Calls Try.prog 22 #[.string s, .int .i64 (N : Int)] w fun e w' => e = .returned (.slice none 0 0) ∧ Below w.heap.size w w' := by
  cases he : s.toList.isEmpty
  · have hN : N = 0 := by
      rcases h with h | h
      · rw [he] at h; cases h
      · exact h
    subst hN
    clear h
    go_enter Try.func22, Try.ntmps22
    go_wp2
    go_ret
    exact ⟨rfl, Below.refl _ _⟩
  · clear h
    go_enter Try.func22, Try.ntmps22
    go_wp2
    go_ret
    exact ⟨rfl, Below.refl _ _⟩

/-- some and the reference give the same row -/
theorem both_mem (T : List UInt8) (N : Nat) (gT : good T = true) (hN : N ≤ 10000) : ∃ (m : Nat) (xs : List Value), m ≤ 10000 ∧ (∀ i, i < m → ∃ s : ByteArray, xs[i]? = some (.string s)) ∧
    (∀ w, Calls Try.prog 27 #[cubeV T, .int .i64 (N : Int)] w fun e w' => ∃ v, e = .returned v ∧ w'.ownsRow w.heap.size 9 1 v m xs ∧ Below w.heap.size w w') ∧
    (∀ w, Calls Try.prog 22 #[.string ⟨T.toArray⟩, .int .i64 (N : Int)] w fun e w' => ∃ v, e = .returned v ∧ w'.ownsRow w.heap.size 9 1 v m xs ∧ Below w.heap.size w w') := by
  by_cases hN0 : N = 0
  · subst hN0
    refine ⟨0, [], by omega, fun i hi => by omega, fun w => ?_, fun w => ?_⟩
    · refine (some_none _ _ _ _ _ _ _ _ _ w).mono ?_
      rintro e w' ⟨rfl, hb⟩
      exact ⟨_, rfl, World.ownsRow_nil _ _ _ _, hb⟩
    · refine (rMembers_nil _ 0 w (.inr rfl)).mono ?_
      rintro e w' ⟨rfl, hb⟩
      exact ⟨_, rfl, World.ownsRow_nil _ _ _ _, hb⟩
  · by_cases hT : T = []
    · subst hT
      refine ⟨0, [], by omega, fun i hi => by omega, fun w => ?_, fun w => ?_⟩
      · rw [cubeV_nil]
        refine (some_zeroN N (by omega) w).mono ?_
        rintro e w' ⟨rfl, hb⟩
        exact ⟨_, rfl, World.ownsRow_nil _ _ _ _, hb⟩
      · refine (rMembers_nil _ N w (.inl (by rw [ByteArray.toList_eq]; rfl))).mono ?_
        rintro e w' ⟨rfl, hb⟩
        exact ⟨_, rfl, World.ownsRow_nil _ _ _ _, hb⟩
    · have h1 : 1 ≤ T.length := by
        cases T with
        | nil => exact absurd rfl hT
        | cons x l => simp
      obtain ⟨m, hm⟩ := upTo_ex T N (by omega)
      refine ⟨m, mL T m, Nat.le_trans hm.2.1 hN, fun i hi => mL_str T m i hi, fun w => ?_, fun w => ?_⟩
      · refine (some_any T N w gT h1 (by omega) hN).mono ?_
        rintro e w' ⟨m', v, rfl, hu, ho, hb⟩
        obtain rfl := upTo_uniq T N m' m hu hm
        exact ⟨_, rfl, ho, hb⟩
      · refine (rMembers_any ⟨T.toArray⟩ T N w (by simp) gT h1 (by omega) hN).mono ?_
        rintro e w' ⟨m', v, rfl, hu, ho, hb⟩
        obtain rfl := upTo_uniq T N m' m hu hm
        exact ⟨_, rfl, ho, hb⟩

theorem some_one (w : World) : Calls Try.prog 27 #[cubeV [120], .int .i64 5] w fun e w' => ∃ v, e = .returned v ∧ w'.ownsRow w.heap.size 9 1 v 2 [.string ⟨#[48]⟩, .string ⟨#[49]⟩] ∧ Below w.heap.size w w' := by
  refine (some_any [120] 5 w (by decide) (by decide) (by decide) (by decide)).mono ?_
  rintro e w' ⟨m', v, rfl, hu, ho, hb⟩
  have h2 : upTo [120] 5 2 := ⟨by decide, by decide, ⟨trivial, by decide⟩, .inr (by decide)⟩
  obtain rfl := upTo_uniq [120] 5 m' 2 hu h2
  exact ⟨_, rfl, ho, hb⟩
theorem own_two {w : World} (B : Nat) (a b : ByteArray) (hB : B ≤ w.heap.size) : (w.alloc (.cells #[.string a, .string b] 9)).ownsRow B 9 1 (.slice (some ⟨w.heap.size, 0, none⟩) 2 2) 2 [.string a, .string b] :=
  ⟨by simp, .inr ⟨w.heap.size, 2, _, rfl, hB, alloc_get _ _, by omega, by unfold maxLen; omega, by simp, by simp⟩⟩

set_option maxRecDepth 100000 in
set_option maxHeartbeats 2000000 in
theorem members_try (s : ByteArray) (n m : Int) (T : List UInt8) (w : World) (hs : s.size ≤ maxLen) (hT0 : cubeT s.data.toList = T) (gT : good T = true) :
    Calls Try.prog 6 #[.string s, .int .i64 n, .int .i64 m] w fun e w' => e = .returned (.bool true) ∧ Below w.heap.size w w' := by
  have hT : Hid (cubeT s.data.toList = T) := hT0
  obtain ⟨N, hN, hWn0⟩ := within_nat n 10000
  obtain ⟨M, hM, hWm0⟩ := within_nat m 10000
  obtain ⟨a, xs, ha, hxa0, hSa0, hRa0⟩ := both_mem T N gT hN
  obtain ⟨b, ys, hb, hyb0, hSb0, hRb0⟩ := both_mem T M gT hM
  have hWn : Hid (∀ w, Calls Try.prog 21 #[.int .i64 n, .int .i64 10000] w fun e w' => e = .returned (.int .i64 (N : Int)) ∧ w' = w) := hWn0
  have hWm : Hid (∀ w, Calls Try.prog 21 #[.int .i64 m, .int .i64 10000] w fun e w' => e = .returned (.int .i64 (M : Int)) ∧ w' = w) := hWm0
  have hxa : Hid (∀ i, i < a → ∃ s : ByteArray, xs[i]? = some (.string s)) := hxa0
  have hyb : Hid (∀ i, i < b → ∃ s : ByteArray, ys[i]? = some (.string s)) := hyb0
  have hSa : Hid (∀ w, Calls Try.prog 27 #[.agg #[.int .i64 (T.length : Int), .int .u64 (FW T 0 : Int), .int .u64 (FW T 1 : Int), .int .u64 (FW T 2 : Int), .int .u64 (FW T 3 : Int), .int .u64 (OW T 0 : Int), .int .u64 (OW T 1 : Int), .int .u64 (OW T 2 : Int), .int .u64 (OW T 3 : Int)], .int .i64 (N : Int)] w fun e w' => ∃ v, e = .returned v ∧ w'.ownsRow w.heap.size 9 1 v a xs ∧ Below w.heap.size w w') := hSa0
  have hSb : Hid (∀ w, Calls Try.prog 27 #[.agg #[.int .i64 (T.length : Int), .int .u64 (FW T 0 : Int), .int .u64 (FW T 1 : Int), .int .u64 (FW T 2 : Int), .int .u64 (FW T 3 : Int), .int .u64 (OW T 0 : Int), .int .u64 (OW T 1 : Int), .int .u64 (OW T 2 : Int), .int .u64 (OW T 3 : Int)], .int .i64 (M : Int)] w fun e w' => ∃ v, e = .returned v ∧ w'.ownsRow w.heap.size 9 1 v b ys ∧ Below w.heap.size w w') := hSb0
  have hRa : Hid (∀ w, Calls Try.prog 22 #[.string ⟨T.toArray⟩, .int .i64 (N : Int)] w fun e w' => ∃ v, e = .returned v ∧ w'.ownsRow w.heap.size 9 1 v a xs ∧ Below w.heap.size w w') := hRa0
  have hRb : Hid (∀ w, Calls Try.prog 22 #[.string ⟨T.toArray⟩, .int .i64 (M : Int)] w fun e w' => ∃ v, e = .returned v ∧ w'.ownsRow w.heap.size 9 1 v b ys ∧ Below w.heap.size w w') := hRb0
  have HA : Hid (∀ W, Calls Try.prog 12 #[.int .i64 1] W fun e w' => e = .returned (cubeV [120]) ∧ Below W.heap.size W w') := fun W => allV 1 W
  clear hT0 hWn0 hWm0 hxa0 hyb0 hSa0 hSb0 hRa0 hRb0
  go_enter Try.func6, Try.ntmps6
  go_wp2_with fail
  refine (made_D s T _ hs hT.out).mono ?_
  rintro e w1 ⟨rfl, hb1⟩
  unfold cubeV cv
  have kX : (w1.alloc (.cells #[.int .i64 (T.length : Int), .int .u64 (FW T 0 : Int), .int .u64 (FW T 1 : Int), .int .u64 (FW T 2 : Int), .int .u64 (FW T 3 : Int), .int .u64 (OW T 0 : Int), .int .u64 (OW T 1 : Int), .int .u64 (OW T 2 : Int), .int .u64 (OW T 3 : Int)] 26)).heap[w1.heap.size]? = some (.cells (#[.int .i64 (T.length : Int), .int .u64 (FW T 0 : Int), .int .u64 (FW T 1 : Int), .int .u64 (FW T 2 : Int), .int .u64 (FW T 3 : Int), .int .u64 (OW T 0 : Int), .int .u64 (OW T 1 : Int), .int .u64 (OW T 2 : Int), .int .u64 (OW T 3 : Int)]) 26 (0, 0)) := alloc_get _ _
  have BB := belA hb1 (.cells #[.int .i64 (T.length : Int), .int .u64 (FW T 0 : Int), .int .u64 (FW T 1 : Int), .int .u64 (FW T 2 : Int), .int .u64 (FW T 3 : Int), .int .u64 (OW T 0 : Int), .int .u64 (OW T 1 : Int), .int .u64 (OW T 2 : Int), .int .u64 (OW T 3 : Int)] 26)
  clear hb1
  go_wp2_with fail
  refine (refC_D s T _ hs hT.out).mono ?_
  rintro e w' ⟨rfl, rfl⟩
  go_wp2_with fail
  refine (hWn.out _).mono ?_
  rintro e w' ⟨rfl, rfl⟩
  go_wp2_with fail
  refine (hWm.out _).mono ?_
  rintro e w' ⟨rfl, rfl⟩
  have cX := (cells_block kX).1
  go_wp2_with fail
  refine (hSa.out _).mono ?_
  rintro e w2 ⟨v1, rfl, o1, hb2⟩
  replace kX := keepblk hb2 kX
  replace BB := bel0 BB hb2
  clear cX hb2
  have cX := (cells_block kX).1
  go_wp2_with fail
  refine (hSb.out _).mono ?_
  rintro e w3 ⟨v2, rfl, o2, hb3⟩
  replace o1 := owns_below o1 hb3
  replace BB := bel0 BB hb3
  clear cX hb3 kX
  go_wp2_with fail
  refine (HA.out _).mono ?_
  rintro e w4 ⟨rfl, hb4⟩
  replace o1 := owns_below o1 hb4
  replace o2 := owns_below o2 hb4
  replace BB := bel0 BB hb4
  clear hb4
  go_wp2_with fail
  refine (some_one _).mono ?_
  rintro e w5 ⟨v3, rfl, o3, hb5⟩
  replace o1 := owns_below o1 hb5
  replace o2 := owns_below o2 hb5
  replace BB := bel0 BB hb5
  clear hb5
  go_wp2_with fail
  refine (hRa.out _).mono ?_
  rintro e w6 ⟨v4, rfl, o4, hb6⟩
  replace o1 := owns_below o1 hb6
  replace o2 := owns_below o2 hb6
  replace o3 := owns_below o3 hb6
  replace BB := bel0 BB hb6
  clear hb6
  go_wp2_with fail
  refine (same_any a xs v1 v4 _ _ _ ha hxa.out o1 o4).mono ?_
  rintro e w7 ⟨rfl, hb7⟩
  replace o2 := owns_below o2 hb7
  replace o3 := owns_below o3 hb7
  replace BB := bel0 BB hb7
  clear hb7 o1 o4
  go_wp2_with fail
  refine (hRb.out _).mono ?_
  rintro e w8 ⟨v5, rfl, o5, hb8⟩
  replace o2 := owns_below o2 hb8
  replace o3 := owns_below o3 hb8
  replace BB := bel0 BB hb8
  clear hb8
  go_wp2_with fail
  refine (same_any b ys v2 v5 _ _ _ hb hyb.out o2 o5).mono ?_
  rintro e w9 ⟨rfl, hb9⟩
  replace o3 := owns_below o3 hb9
  replace BB := bel0 BB hb9
  clear hb9 o2 o5
  have o6 := own_two (w := w9) 0 ⟨#[48]⟩ ⟨#[49]⟩ (Nat.zero_le _)
  replace o3 := o3.alloc (.cells #[.string ⟨#[48]⟩, .string ⟨#[49]⟩] 9)
  replace BB := belA BB (.cells #[.string ⟨#[48]⟩, .string ⟨#[49]⟩] 9)
  go_wp2_with fail
  refine (same_any 2 _ v3 _ _ _ _ (by decide) (fun i hi => by
    match i, hi with
    | 0, _ => exact ⟨_, rfl⟩
    | 1, _ => exact ⟨_, rfl⟩) o3 o6).mono ?_
  rintro e w10 ⟨rfl, hb10⟩
  go_wp2_with fail
  go_ret
  exact ⟨rfl, bel0 BB hb10⟩

theorem ternMembers_walk (s : ByteArray) (n m : Int) (w : World) (hs : s.size ≤ maxLen) :
    Calls Try.prog 6 #[.string s, .int .i64 n, .int .i64 m] w fun e w' => e = .returned (.bool true) ∧ Below w.heap.size w w' :=
  members_try s n m _ w hs rfl (good_cubeT _)
end Go.Proofs.Ytmblloddhpcdeac
