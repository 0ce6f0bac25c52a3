import Derived.Test.YtkcbkeimbpopcaaGreatDoorXBM
namespace Go.Proofs.YtkcbkeimbpopcaaGreatDoor
open Go.RowKit Go.Shelf
theorem put3_get {W : World} {b : Nat} {x0 x1 x2 : Value} {T : TypeId} {m : Nat × Nat} (v0 v1 v2 : Value) (h : W.heap[b]? = some (.cells #[x0, x1, x2] T m)) : (((W.setCell ⟨b, 0, none⟩ v0).setCell ⟨b, 1, none⟩ v1).setCell ⟨b, 2, none⟩ v2).heap[b]? = some (.cells #[v0, v1, v2] T m) := by
  have h0 := set_get (j := 0) v0 h
  have h1 := set_get (j := 1) v1 h0
  have h2 := set_get (j := 2) v2 h1
  rw [h2]
  simp
theorem SPL_put {W : World} {B b : Nat} {V x0 x1 x2 : Value} {y : Int} {X : List (List UInt8 × List (List UInt8))} (h : W.heap[b]? = some (.cells #[x0, x1, x2] 24 (0, 0))) (hs : SPL W B V X) (hb : b < B) : (((W.setCell ⟨b, 0, none⟩ (.int .i64 y)).setCell ⟨b, 1, none⟩ V).setCell ⟨b, 2, none⟩ (.bool false)).heap[b]? = some (.cells #[.int .i64 y, V, .bool false] 24 (0, 0)) ∧ SPL (((W.setCell ⟨b, 0, none⟩ (.int .i64 y)).setCell ⟨b, 1, none⟩ V).setCell ⟨b, 2, none⟩ (.bool false)) 0 V X :=
  ⟨put3_get _ _ _ h, (hs.kept (gr3 _ _ _ _ _) hb).base (Nat.zero_le _)⟩
theorem num_le (b : Int) (l : List UInt8) (h : prE b l = 0) : (prB b l == 0) = false ∧ prB b l = b := by
  have h1 := prE_zero h
  have e : prB b l = b := by unfold prB; rw [if_pos h]
  refine ⟨?_, e⟩
  rw [e]
  simp
  omega
set_option maxRecDepth 100000 in
set_option maxHeartbeats 4000000 in
theorem forms_walk (b : Int) (l : List UInt8) (w : World) (hl0 : l.length ≤ 281474976710656) : Calls Tryz.prog 3 #[.int .i64 b, .string ⟨l.toArray⟩] w fun e w' => e = .returned (.bool true) ∧ Below w.heap.size w w' := by
  have hl : l.length ≤ maxLen := by unfold maxLen; omega
  have hok := prT_ok b l
  obtain ⟨B, hB⟩ : ∃ B, prB b l = B := ⟨_, rfl⟩
  obtain ⟨X, hX⟩ : ∃ X, prT b l = X := ⟨_, rfl⟩
  have HRD : Hid (Calls Tryz.prog 9 #[.int .i64 b, .string ⟨l.toArray⟩] w fun e w' => ∃ V V2, e = .returned (.tuple #[.agg #[.int .i64 B, V, .bool false], .agg #[.int .i64 B, V2], .bool true]) ∧ SPL w' w.heap.size V X ∧ RSR w' V2 X ∧ Below w.heap.size w w') := by
    unfold Hid
    rw [← hB, ← hX]
    exact read_any b l w hl
  rw [hX] at hok
  have HOK : Hid (gdC X ∧ szC X ≤ 128) := hok
  have HP : Hid ((B == 0) = true ∨ ((B == 0) = false ∧ ∀ W, Calls Tryz.prog 13 #[.int .i64 B, .string ⟨(txC X).toArray⟩] W fun e w' => ∃ V, e = .returned (.tuple #[.agg #[.int .i64 B, V, .bool false], .int .i64 0]) ∧ SPL w' W.heap.size V X ∧ Below W.heap.size W w')) := by
    by_cases h0 : prE b l = 0
    · obtain ⟨e1, e2⟩ := num_le b l h0
      refine .inr ⟨by rw [← hB]; exact e1, fun W => ?_⟩
      obtain ⟨f1, f2⟩ := pr_back b l h0
      have h := sParse_any b (txC X) W (by have := txC_len hok.1 hok.2; unfold maxLen; omega)
      rw [← hX] at h ⊢
      rw [← hB, e2]
      unfold PRS at h
      have f3 : prB b (txC (prT b l)) = b := by unfold prB; rw [if_pos f1]
      rw [f3, f1, f2] at h
      exact h
    · refine .inl ?_
      rw [← hB]
      unfold prB
      rw [if_neg h0]
      rfl
  clear hB hX hok
  obtain ⟨n, hn⟩ : ∃ n, X.length = n := ⟨_, rfl⟩
  go_enter Tryz.func3, Tryz.ntmps3
  go_wp2_with fail
  refine HRD.out.mono ?_
  rintro e w1 ⟨V, V2, rfl, sv, rv, hb1⟩
  obtain ⟨p, c, rfl⟩ := sv.shape
  obtain ⟨p2, c2, rfl⟩ := rv.shape
  rw [hn] at sv rv ⊢
  have HF : Hid (∀ W, Below ((w1.alloc (.cells #[.int .i64 B, .slice p n c, .bool false] 24 (0, 0))).alloc (.cells #[.int .i64 B, .slice p2 n c2] 27 (0, 0))).heap.size ((w1.alloc (.cells #[.int .i64 B, .slice p n c, .bool false] 24 (0, 0))).alloc (.cells #[.int .i64 B, .slice p2 n c2] 27 (0, 0))) W → ((∀ j, W.cell? ⟨w1.heap.size, j, none⟩ = (#[.int .i64 B, .slice p n c, .bool false] : Array Value)[j]?) ∧ (∀ j, W.cell? ⟨w1.heap.size + 1, j, none⟩ = (#[.int .i64 B, .slice p2 n c2] : Array Value)[j]?) ∧ SPL W w.heap.size (.slice p n c) X ∧ RSR W (.slice p2 n c2) X ∧ Below w.heap.size w W)) := fun W hW => by
    have h1 : Below w1.heap.size w1 W := bel0 (belA (belA (Below.refl _ _) _) _) hW
    exact ⟨(cells_block (keepblk3 hW (alw_0 _ _ _))).1, (cells_block (keepblk3 hW (alw_1 _ _ _))).1, sv.below h1, rv.later h1, bel0 hb1 h1⟩
  clear sv rv hb1 HRD
  go_wp2_with fail
  refine (none_any b _).mono ?_
  rintro e w2 ⟨rfl, hb2⟩
  have HB2 : Hid (Below ((w1.alloc (.cells #[.int .i64 B, .slice p n c, .bool false] 24 (0, 0))).alloc (.cells #[.int .i64 B, .slice p2 n c2] 27 (0, 0))).heap.size ((w1.alloc (.cells #[.int .i64 B, .slice p n c, .bool false] 24 (0, 0))).alloc (.cells #[.int .i64 B, .slice p2 n c2] 27 (0, 0))) w2) := hb2
  clear hb2
  obtain ⟨wA, hwA⟩ : ∃ wA, ((w1.alloc (.cells #[.int .i64 B, .slice p n c, .bool false] 24 (0, 0))).alloc (.cells #[.int .i64 B, .slice p2 n c2] 27 (0, 0))) = wA := ⟨_, rfl⟩
  have ha1 : w1.heap.size + 1 < wA.heap.size := by rw [← hwA]; simp
  rw [hwA] at HF HB2
  clear hwA
  go_upto_region 5 with fail
  have hc8 : ∀ j, (w2.alloc (.cells #[.int .i64 (nnB b), .slice none 0 0, .bool false] 24 (0, 0))).cell? ⟨w2.heap.size, j, none⟩ = (#[.int .i64 (nnB b), .slice none 0 0, .bool false] : Array Value)[j]? := (cells_block (alloc_get _ _)).1
  have hb3 : Below wA.heap.size wA (w2.alloc (.cells #[.int .i64 (nnB b), .slice none 0 0, .bool false] 24 (0, 0))) := belA HB2.out _
  have H8 : Hid (∀ W, Below (w2.alloc (.cells #[.int .i64 (nnB b), .slice none 0 0, .bool false] 24 (0, 0))).heap.size (w2.alloc (.cells #[.int .i64 (nnB b), .slice none 0 0, .bool false] 24 (0, 0))) W → ∀ j, W.cell? ⟨w2.heap.size, j, none⟩ = (#[.int .i64 (nnB b), .slice none 0 0, .bool false] : Array Value)[j]?) := fun W hW => (cells_block (keepblk3 hW (alloc_get _ _))).1
  obtain ⟨w3, hw3⟩ : ∃ w3, w2.alloc (.cells #[.int .i64 (nnB b), .slice none 0 0, .bool false] 24 (0, 0)) = w3 := ⟨_, rfl⟩
  rw [hw3] at hc8 hb3 H8 ⊢
  have hc8d : ∀ j, w3.drew.cell? ⟨w2.heap.size, j, none⟩ = (#[.int .i64 (nnB b), .slice none 0 0, .bool false] : Array Value)[j]? := hc8
  have HB3 : Hid (Below wA.heap.size wA w3) := hb3
  clear hw3 hb3 HB2
  go_region_held3 (fun W => ∀ j, W.cell? ⟨w2.heap.size, j, none⟩ = (#[.int .i64 (nnB b), .slice none 0 0, .bool false] : Array Value)[j]?) (first | with_reducible exact hc8 | with_reducible exact hc8d | with_reducible exact hk5 | with_reducible exact hk6) (first | (go_at_call 12; refine (dNone_any b _).mono ?_; rintro e w5 ⟨rfl, hb5⟩; have hb5' : Below w3.heap.size w3 w5 := (by first | exact hb5 | exact und hb5); have hk5 := H8.out w5 hb5') | (go_at_call 11; refine (like_any (nnB b) _ _ [] 0 _ (SPL_nil _ _) (RSR_nil _) (Nat.zero_le _) (fun t h => by cases h)).mono ?_; rintro e w6 ⟨rfl, hb6⟩; have hb6' : Below w3.heap.size w3 w6 := bel0 hb5' hb6; have hk6 := H8.out w6 hb6'))
  have HB6 : Hid (Below wA.heap.size wA w6) := bel0 HB3.out hb6'
  clear hc8 hc8d hk5 hk6 hb5' hb6' hb5 hb6 H8 HB3
  obtain ⟨hc5, hc6, -⟩ := HF.out w6 HB6.out
  rcases HP.out with hz | ⟨hz, HPP⟩
  · clear HP
    go_wp2_with fail
    go_ret
    exact ⟨rfl, (HF.out w6 HB6.out).2.2.2.2⟩
  · have HPa : Hid (∀ W, Calls Tryz.prog 13 #[.int .i64 B, .string ⟨(txC X).toArray⟩] W fun e w' => ∃ V, e = .returned (.tuple #[.agg #[.int .i64 B, V, .bool false], .int .i64 0]) ∧ SPL w' W.heap.size V X ∧ Below W.heap.size W w') := HPP
    clear HP HPP
    have HBi : Hid (∀ W, Calls Tryz.prog 14 #[.agg #[.int .i64 B, .slice p n c, .bool false]] W fun e w' => e = .returned (.int .i64 B) ∧ Below W.heap.size W w') := fun W => bits_any B p n c W
    have HTx : Hid (∀ W, Below wA.heap.size wA W → Calls Tryz.prog 15 #[.agg #[.int .i64 B, .slice p n c, .bool false]] W fun e w' => e = .returned (.string ⟨(txC X).toArray⟩) ∧ Below W.heap.size W w') := fun W hW => spText_any B _ X w.heap.size W (HF.out W hW).2.2.1 HOK.out.2 HOK.out.1
    have H5 : Hid (∀ W, Below w6.heap.size w6 W → ∀ j, W.cell? ⟨w1.heap.size, j, none⟩ = (#[.int .i64 B, .slice p n c, .bool false] : Array Value)[j]?) := fun W hW => (HF.out W (bel0 HB6.out hW)).1
    have HT2 : Hid (∀ W, Below w6.heap.size w6 W → Calls Tryz.prog 15 #[.agg #[.int .i64 B, .slice p n c, .bool false]] W fun e w' => e = .returned (.string ⟨(txC X).toArray⟩) ∧ Below W.heap.size W w') := fun W hW => HTx.out W (bel0 HB6.out hW)
    go_wp2_with fail
    go_cut [9, 10] (fun h e wc => ∃ b3 V3, h = .pointer (some ⟨b3, 0, none⟩) ∧ e = .int .i64 0 ∧ Hid (wc.heap[b3]? = some (.cells #[.int .i64 B, V3, .bool false] 24 (0, 0)) ∧ SPL wc 0 V3 X ∧ Below w6.heap.size w6 wc))
    case first =>
      clear HTx HF HOK hc6
      go_region_held3 (fun W => ∀ j, W.cell? ⟨w1.heap.size, j, none⟩ = (#[.int .i64 B, .slice p n c, .bool false] : Array Value)[j]?) (first | with_reducible exact H5.out _ (Below.refl _ _) | with_reducible exact H5.out _ (Below.refl _ _).drew | with_reducible exact H5.out _ (belA (Below.refl _ _) _) | with_reducible exact H5.out _ (belA (Below.refl _ _).drew _) | with_reducible exact H5.out _ hb7' | with_reducible exact H5.out _ (belA hb7' _) | with_reducible exact H5.out _ hb8' | with_reducible exact H5.out _ (belA hb8' _) | with_reducible exact H5.out _ hb9' | with_reducible exact H5.out _ (belA hb9' _) | with_reducible exact H5.out _ (((hb9'.setCell (Nat.le_refl _) _).setCell (Nat.le_refl _) _).setCell (Nat.le_refl _) _) | with_reducible exact H5.out _ (((hb9'.setCell hb7'.size _).setCell hb7'.size _).setCell hb7'.size _) | with_reducible exact H5.out _ (((hb9'.setCell hb8'.size _).setCell hb8'.size _).setCell hb8'.size _) | with_reducible exact H5.out _ ((((belA hb9' _).setCell hb9'.size _).setCell hb9'.size _).setCell hb9'.size _)) (first | (go_at_call 14; refine (HBi.out _).mono ?_; rintro e w7 ⟨rfl, hb7⟩; have hb7' : Below w6.heap.size w6 w7 := (by first | exact und hb7 | exact bel1 (und hb7) | exact und (bel1 hb7))) | (go_at_call 15; refine (HT2.out _ (by first | exact hb7' | exact belA hb7' _)).mono ?_; rintro e w8 ⟨rfl, hb8⟩; have hb8' : Below w6.heap.size w6 w8 := (by first | exact bel0 hb7' hb8 | exact bel0 hb7' (bel1 hb8))) | (go_at_call 13; refine (HPa.out _).mono ?_; rintro e w9 ⟨V3, rfl, s9, hb9⟩; have hb9' : Below w6.heap.size w6 w9 := (by first | exact bel0 hb8' hb9 | exact bel0 hb8' (bel1 hb9)); obtain ⟨p3, c3, rfl⟩ := s9.shape; rw [hn] at s9; first | (have hk8 := keepblk3 hb8 (keepblk3 (und hb7) (alloc_get w6 (.cells #[.int .i64 0, .slice none 0 0, .bool false] 24 (0, 0)))); have hk9 := keepblk3 hb9 hk8; have hl9 := lt_of_get3 hk8; have hc9 := (cells_block hk9).1; have hf9 := (cells_block hk9).2) | (have hk8 := keepblk3 hb8 (alloc_get w7 (.cells #[.int .i64 0, .slice none 0 0, .bool false] 24 (0, 0))); have hk9 := keepblk3 hb9 hk8; have hl9 := lt_of_get3 hk8; have hc9 := (cells_block hk9).1; have hf9 := (cells_block hk9).2) | (have hk8 := alloc_get w8 (.cells #[.int .i64 0, .slice none 0 0, .bool false] 24 (0, 0)); have hk9 := keepblk3 hb9 hk8; have hl9 := lt_of_get3 hk8; have hc9 := (cells_block hk9).1; have hf9 := (cells_block hk9).2) | skip))
      all_goals go_wp2
      all_goals go_meet
      · exact ⟨_, _, rfl, rfl, alloc_get _ _, (s9.below (belA (Below.refl _ _) _)).base (Nat.zero_le _), belA hb9' _⟩
      · exact ⟨_, _, rfl, rfl, (SPL_put hk9 s9 hl9).1, (SPL_put hk9 s9 hl9).2, (((hb9'.setCell hb8'.size _).setCell hb8'.size _).setCell hb8'.size _)⟩
      · exact ⟨_, _, rfl, rfl, (SPL_put hk9 s9 hl9).1, (SPL_put hk9 s9 hl9).2, (((hb9'.setCell hb7'.size _).setCell hb7'.size _).setCell hb7'.size _)⟩
      · exact ⟨_, _, rfl, rfl, (SPL_put hk9 s9 hl9).1, (SPL_put hk9 s9 hl9).2, (((hb9'.setCell (Nat.le_refl _) _).setCell (Nat.le_refl _) _).setCell (Nat.le_refl _) _)⟩
    case rest =>
      obtain ⟨b3, V3, rfl, rfl, HS⟩ := hcut
      obtain ⟨p3, c3, rfl⟩ := HS.out.2.1.shape
      have hc3 := (cells_block HS.out.1).1
      rw [hn] at hc3
      rename World => wc
      have HC3 : Hid (∀ W, Below wc.heap.size wc W → (∀ j, W.cell? ⟨b3, j, none⟩ = (#[.int .i64 B, .slice p3 n c3, .bool false] : Array Value)[j]?) ∧ (∀ j, W.cell? ⟨w1.heap.size + 1, j, none⟩ = (#[.int .i64 B, .slice p2 n c2] : Array Value)[j]?) ∧ Calls Tryz.prog 11 #[.agg #[.int .i64 B, .slice p3 n c3, .bool false], .agg #[.int .i64 B, .slice p2 n c2]] W (fun e w' => e = .returned (.bool true) ∧ Below W.heap.size W w') ∧ Below w.heap.size w W) := fun W hW => by
        have h1 := HF.out W (bel0 (bel0 HB6.out HS.out.2.2) hW)
        have h2 := (cells_block (keepblk3 hW HS.out.1)).1
        have h3 := HS.out.2.1.below hW
        rw [hn] at h2 h3
        exact ⟨h2, h1.2.1, like_any B _ _ X 0 W h3 h1.2.2.2.1 HOK.out.2 HOK.out.1, h1.2.2.2.2⟩
      clear hc5 hc6 HF HS HB6 H5 HT2 HTx HPa HBi hc3
      go_wp2_with fail
      refine (num_any 0 _).mono ?_
      rintro e w10 ⟨rfl, hb10⟩
      obtain ⟨hc10, hd10, hL, -⟩ := HC3.out w10 hb10
      have HL : Hid (Calls Tryz.prog 11 #[.agg #[.int .i64 B, .slice p3 n c3, .bool false], .agg #[.int .i64 B, .slice p2 n c2]] w10 (fun e w' => e = .returned (.bool true) ∧ Below w10.heap.size w10 w')) := hL
      clear hL
      go_wp2_with fail
      refine HL.out.mono ?_
      rintro e w11 ⟨rfl, hb11⟩
      go_wp2_with fail
      go_ret
      exact ⟨rfl, (HC3.out w11 (bel0 hb10 hb11)).2.2.2⟩
end Go.Proofs.YtkcbkeimbpopcaaGreatDoor
