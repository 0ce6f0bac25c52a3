import Derived.Test.YtbdnpbiimbeflaaZA
namespace Go.Proofs.Ytbdnpbiimbeflaa
open Go.RowKit Go.Shelf
set_option maxRecDepth 100000 in
theorem ofs_many (t : ByteArray) (p : Option Addr) (len cap : Nat) (w : World) (h : (2100 : Int) < (len : Int)) : Calls Try.prog 3 #[.string t, .slice p len cap] w fun e w' => e = .returned (.bool true) ∧ Below w.heap.size w w' := by
  go_enter Try.func3, Try.ntmps3
  go_wp2_with fail
  go_ret
  exact ⟨rfl, Below.refl _ _⟩
set_option maxRecDepth 100000 in
set_option maxHeartbeats 8000000 in
theorem ofs_few (t : ByteArray) (p : Option Addr) (len cap : Nat) (SL : List ByteArray) (w : World) (ht : t.size ≤ maxLen) (hlen : SL.length = len) (hlb : ¬ (2100 : Int) < (len : Int)) (hcell0 : ∀ i, i < len → ∃ ad, p = some ad ∧ w.cell? (ad.add i) = some (.string (SL.getD i ByteArray.empty))) (hsz0 : ∀ s ∈ SL, s.size ≤ maxLen) :
    Calls Try.prog 3 #[.string t, .slice p len cap] w fun e w' => e = .returned (.bool true) ∧ Below w.heap.size w w' := by
  have hcell : Hid (∀ i, i < len → ∃ ad, p = some ad ∧ w.cell? (ad.add i) = some (.string (SL.getD i ByteArray.empty))) := hcell0
  have hsz : Hid (∀ s ∈ SL, s.size ≤ maxLen) := hsz0
  have HLEN : Hid (SL.length = len) := hlen
  obtain ⟨T, hT⟩ : ∃ T, cubeT t.data.toList = T := ⟨_, rfl⟩
  have gT : Hid (good T = true) := by unfold Hid; rw [← hT]; exact good_cubeT _
  have HCT : Hid (∀ W, Calls Try.prog 4 #[.string t] W fun e w' => e = .returned (.agg #[.int .i64 (T.length : Int), .int .u64 (FW T 0 : Int), .int .u64 (FW T 1 : Int), .int .u64 (FW T 2 : Int), .int .u64 (FW T 3 : Int), .int .u64 (OW T 0 : Int), .int .u64 (OW T 1 : Int), .int .u64 (OW T 2 : Int), .int .u64 (OW T 3 : Int)]) ∧ Below W.heap.size W w') := fun W => by
    have h := lcube_any t W ht
    rw [hT] at h
    exact h
  have HZT : Hid (∀ W, Calls Try.prog 5 #[.string t] W fun e w' => e = .returned (.string ⟨T.toArray⟩) ∧ Below W.heap.size W w') := fun W => by
    have h := zeroed_any t W ht
    rw [hT] at h
    exact h
  clear hcell0 hsz0 hlen hT ht
  obtain ⟨iC, hiC, hzC0, hzC1, hzC2⟩ := info_parts info_cubeQ
  obtain ⟨iS, hiS, hzS0, hzS1, hzS2⟩ := info_parts info_str2
  go_enter Try.func3, Try.ntmps3
  go_wp2_with fail
  go_loopw [5, 6, 7] (fun v a i wr => ∃ k : Nat, k ≤ len ∧ i = .int .i64 k ∧ wr.ownsRow w.heap.size 9 1 a k (stx (cubL (SL.take k))) ∧ wr.ownsRow w.heap.size 28 9 v k (ces (cubL (SL.take k))) ∧ Below w.heap.size w wr) (fun _ _ i _ => len - (intOf i).toNat)
  case atStart => exact ⟨0, Nat.zero_le _, rfl, World.ownsRow_nil _ _ _ _, World.ownsRow_nil _ _ _ _, Below.refl _ _⟩
  case round =>
    obtain ⟨k, hk, rfl, oA, hown, hB⟩ := hrel
    by_cases hlt : k < len
    · have i0 : (0 : Int) ≤ (k : Int) := by omega
      have i1 : (k : Int) < (len : Int) := by omega
      obtain ⟨S, hS⟩ : ∃ S, SL.getD k ByteArray.empty = S := ⟨_, rfl⟩
      obtain ⟨ad, rfl, hc⟩ := hcell.out k hlt
      rw [hS] at hc
      have hsS : S.size ≤ maxLen := hsz.out S (by rw [← hS]; exact getD_mem SL k (by rw [HLEN.out]; exact hlt))
      have hbk := World.block_lt_of_cell? w _ hc
      have cS : wr.cell? (ad.add k) = some (.string S) := (hB.cell hbk).trans hc
      have Hc : Hid (w.cell? (ad.add k) = some (.string S)) := hc
      clear hc
      obtain ⟨P, hP⟩ : ∃ P, cubeT S.data.toList = P := ⟨_, rfl⟩
      have HCC : Hid (∀ W, Calls Try.prog 4 #[.string S] W fun e w' => e = .returned (.agg #[.int .i64 (P.length : Int), .int .u64 (FW P 0 : Int), .int .u64 (FW P 1 : Int), .int .u64 (FW P 2 : Int), .int .u64 (FW P 3 : Int), .int .u64 (OW P 0 : Int), .int .u64 (OW P 1 : Int), .int .u64 (OW P 2 : Int), .int .u64 (OW P 3 : Int)]) ∧ Below W.heap.size W w') := fun W => by
        have h := lcube_any S W hsS
        rw [hP] at h
        exact h
      have HZC : Hid (∀ W, Calls Try.prog 5 #[.string S] W fun e w' => e = .returned (.string ⟨P.toArray⟩) ∧ Below W.heap.size W w') := fun W => by
        have h := zeroed_any S W hsS
        rw [hP] at h
        exact h
      have hcl : Hid (cubL (SL.take (k + 1)) = cubL (SL.take k) ++ [P]) := cubL_snoc SL k (by rw [HLEN.out]; exact hlt) S hS P hP
      obtain ⟨M, hM⟩ : ∃ M, cubL (SL.take k) = M := ⟨_, rfl⟩
      rw [hM] at hcl oA hown
      clear hP hM hS hsS
      go_wp2_with fail
      refine (HCC.out _).mono ?_
      rintro e w3 ⟨rfl, hb3⟩
      have hown3 := own_belQ hown hb3
      have oA3 := own_belQ oA hb3
      have B3 := bel0 hB hb3
      have hz3 := B3.size
      clear hown hB hb3 oA cS
      go_wp2_with (at_builtin; refine wpList_append_own _ rfl _ _ 23 rfl w.heap.size 28 iC _ 9 72 Try.underlying23 hiC hzC0 hzC1 hzC2 rfl (by decide) _ _ _ rfl (hown3.alloc _) ⟨w3.heap.size, 0, none⟩ 1 1 (ce9 P) rfl rfl (World.news_of_block (cs := #[.int .i64 (P.length : Int), .int .u64 (FW P 0 : Int), .int .u64 (FW P 1 : Int), .int .u64 (FW P 2 : Int), .int .u64 (FW P 3 : Int), .int .u64 (OW P 0 : Int), .int .u64 (OW P 1 : Int), .int .u64 (OW P 2 : Int), .int .u64 (OW P 3 : Int)]) (t := 28) (fr := (0, 0)) (alloc_get _ _)) (by simp [ce9, Value.oneCell']) (by unfold maxLen; omega) (by omega) (by simp; omega) ?_)
      intro v4 w4 hown4 hgrow _
      have B4 := app_bel B3 hown3 hgrow (Nat.le_refl _)
      have cS4 : w4.cell? (ad.add k) = some (.string S) := (B4.cell hbk).trans Hc.out
      have oA4 := (oA3.alloc _).kept hgrow (own_neQ oA3 hown3 (by decide))
      clear oA3 hown3 hgrow B3 hz3
      go_wp2_with fail
      refine (HZC.out _).mono ?_
      rintro e w5 ⟨rfl, hb5⟩
      have hown5 := own_belQ hown4 hb5
      have oA5 := own_belQ oA4 hb5
      have B5 := bel0 B4 hb5
      have hz5 := B5.size
      clear hown4 oA4 B4 hb5 cS4
      go_wp2_with (at_builtin; refine wpList_append_own _ rfl _ _ 22 rfl w.heap.size 9 iS (.string ⟨#[]⟩) 1 16 Try.underlying22 hiS hzS0 hzS1 hzS2 rfl (by decide) _ _ _ rfl (oA5.alloc _) ⟨_, 0, none⟩ 1 1 [.string ⟨P.toArray⟩] rfl rfl (cell_one_new _ _ _) (by simp [Value.oneCell']) (by unfold maxLen; omega) (by omega) (by simp; omega) ?_)
      intro v6 w6 oA6 hgrow _
      have B6 := app_bel B5 oA5 hgrow (Nat.le_refl _)
      have hown6 := (hown5.alloc _).kept hgrow (own_neQ hown5 oA5 (by decide))
      clear hown5 oA5 hgrow B5 hz5
      go_wp2_with fail
      go_roundw
      case rel => exact ⟨k + 1, by omega, by go_num, by rw [hcl.out, stx_snoc]; exact oA6, by rw [hcl.out, ces_snoc]; exact hown6, B6⟩
      case measure => simp [intOf]; omega
    · have i1 : ¬ (k : Int) < (len : Int) := by omega
      have hkl : SL.take k = SL := List.take_of_length_le (by rw [HLEN.out]; omega)
      rw [hkl] at hown oA
      obtain ⟨L, hL⟩ : ∃ L, cubL SL = L := ⟨_, rfl⟩
      have hLl : L.length = len := by rw [← hL]; simp [cubL]; exact HLEN.out
      rw [hL] at hown oA
      obtain rfl : k = len := by omega
      have HG : Hid (∀ x ∈ L, good x = true) := by unfold Hid; rw [← hL]; exact good_cubL SL
      have HLL : Hid (L.length = k) := hLl
      have HCL : Hid (∀ i, i < k → ∃ ad S P, p = some ad ∧ w.cell? (ad.add i) = some (.string S) ∧ S.size ≤ maxLen ∧ cubeT S.data.toList = P ∧ L[i]? = some P) := fun i hi => by
        obtain ⟨ad, e, hc⟩ := hcell.out i hi
        have hi2 : i < SL.length := by rw [HLEN.out]; exact hi
        exact ⟨ad, _, _, e, hc, hsz.out _ (getD_mem SL i hi2), rfl, by rw [← hL]; exact cubL_at SL i hi2⟩
      clear hkl hL hcell hsz hLl HLEN
      obtain ⟨A1, h1⟩ : ∃ A, List.replicate 39 (120 : UInt8) = A := ⟨_, rfl⟩
      obtain ⟨A2, h2⟩ : ∃ A, List.replicate 40 (120 : UInt8) = A := ⟨_, rfl⟩
      have g1 : good A1 = true := by rw [← h1]; exact good_replicate 39 (by omega)
      have g2 : good A2 = true := by rw [← h2]; exact good_replicate 40 (by omega)
      have H1 : Hid (∀ W, Calls Try.prog 6 #[.int .i64 1, .int .i64 1] W fun e w' => e = .returned (.agg #[.int .i64 (A1.length : Int), .int .u64 (FW A1 0 : Int), .int .u64 (FW A1 1 : Int), .int .u64 (FW A1 2 : Int), .int .u64 (FW A1 3 : Int), .int .u64 (OW A1 0 : Int), .int .u64 (OW A1 1 : Int), .int .u64 (OW A1 2 : Int), .int .u64 (OW A1 3 : Int)]) ∧ Below W.heap.size W w') := fun W => by rw [← h1]; exact mark_any 1 39 W (.inl ⟨rfl, rfl⟩)
      have H2 : Hid (∀ W, Calls Try.prog 6 #[.int .i64 1, .int .i64 2] W fun e w' => e = .returned (.agg #[.int .i64 (A2.length : Int), .int .u64 (FW A2 0 : Int), .int .u64 (FW A2 1 : Int), .int .u64 (FW A2 2 : Int), .int .u64 (FW A2 3 : Int), .int .u64 (OW A2 0 : Int), .int .u64 (OW A2 1 : Int), .int .u64 (OW A2 2 : Int), .int .u64 (OW A2 3 : Int)]) ∧ Below W.heap.size W w') := fun W => by rw [← h2]; exact mark_any 2 40 W (.inr ⟨rfl, rfl⟩)
      clear h1 h2
      go_wp2_with fail
      refine (H1.out _).mono ?_
      rintro e w6 ⟨rfl, hb6⟩
      replace hown := own_belQ hown hb6
      replace oA := own_belQ oA hb6
      replace hB := bel0 hB hb6
      clear hb6
      go_wp2_with fail
      refine (H2.out _).mono ?_
      rintro e w7 ⟨rfl, hb7⟩
      replace hown := own_belQ hown hb7
      replace oA := own_belQ oA hb7
      replace hB := bel0 hB hb7
      have hz7 := hB.size
      clear hb7
      go_wp2_with (at_builtin; refine wpList_append_own _ rfl _ _ 23 rfl w.heap.size 28 iC _ 9 72 Try.underlying23 hiC hzC0 hzC1 hzC2 rfl (by decide) _ _ _ rfl (hown.alloc _) ⟨w7.heap.size, 0, none⟩ 2 2 (ce9 A1 ++ ce9 A2) rfl rfl (World.news_of_block (cs := #[.int .i64 (A1.length : Int), .int .u64 (FW A1 0 : Int), .int .u64 (FW A1 1 : Int), .int .u64 (FW A1 2 : Int), .int .u64 (FW A1 3 : Int), .int .u64 (OW A1 0 : Int), .int .u64 (OW A1 1 : Int), .int .u64 (OW A1 2 : Int), .int .u64 (OW A1 3 : Int), .int .i64 (A2.length : Int), .int .u64 (FW A2 0 : Int), .int .u64 (FW A2 1 : Int), .int .u64 (FW A2 2 : Int), .int .u64 (FW A2 3 : Int), .int .u64 (OW A2 0 : Int), .int .u64 (OW A2 1 : Int), .int .u64 (OW A2 2 : Int), .int .u64 (OW A2 3 : Int)]) (t := 28) (fr := (0, 0)) (alloc_get _ _)) (by simp [ce9, Value.oneCell']) (by unfold maxLen; omega) (by omega) (by simp; omega) ?_)
      intro v' w8 oR hgrow _
      obtain ⟨gR, cR, rfl⟩ := own_shape2 oR
      have B8 := app_bel hB hown hgrow (Nat.le_refl _)
      replace oA := (oA.alloc _).kept hgrow (own_neQ oA hown (by decide))
      clear hown hgrow hB hz7
      obtain ⟨pA, cA, rfl⟩ := shapeQ1 oA
      have oP : w8.ownsRow w.heap.size 28 9 (.slice (some ⟨gR, 0, none⟩) k cR) k (ces L) := own_pre oR (by rw [cesO_len, HLL.out])
      have hcR := own_cap oR
      have n0 : (0 : Int) ≤ (k : Int) := by omega
      have n1 : (k : Int) ≤ (cR : Int) := by omega
      have oR' : w8.ownsRow w.heap.size 28 9 (.slice (some ⟨gR, 0, none⟩) (k + 2) cR) (k + 2) (ces (L ++ [A1, A2])) := by
        have e1 : ces (L ++ [A1, A2]) = ces L ++ (ce9 A1 ++ ce9 A2) := by simp [ces]
        rw [e1]
        exact oR
      have R8 : Hid (w8.ownsRow w.heap.size 28 9 (.slice (some ⟨gR, 0, none⟩) (k + 2) cR) (k + 2) (ces (L ++ [A1, A2])) ∧ w8.ownsRow w.heap.size 9 1 (.slice pA k cA) k (stx L) ∧ Below w.heap.size w w8) := ⟨oR', oA, B8⟩
      have HO : Hid (∀ W, Below w8.heap.size w8 W → Calls Try.prog 7 #[.agg #[.int .i64 (T.length : Int), .int .u64 (FW T 0 : Int), .int .u64 (FW T 1 : Int), .int .u64 (FW T 2 : Int), .int .u64 (FW T 3 : Int), .int .u64 (OW T 0 : Int), .int .u64 (OW T 1 : Int), .int .u64 (OW T 2 : Int), .int .u64 (OW T 3 : Int)], .slice (some ⟨gR, 0, none⟩) k cR] W fun e w' => ∃ V, e = .returned (.tuple #[.agg #[.int .i64 (ofB T L), V, .bool false], .int .i64 (ofE T L)]) ∧ SPV w' W.heap.size V (ofT srtT T L) ∧ Below W.heap.size W w') := fun W hW => of_any srtT sort_ok srtT_len T L (some ⟨gR, 0, none⟩) k cR w.heap.size W HLL.out (by omega) gT.out HG.out (own_belQ oP hW)
      have HDO : Hid (∀ W, Below w8.heap.size w8 W → Calls Try.prog 8 #[.string ⟨T.toArray⟩, .slice pA k cA] W fun e w' => ∃ V, e = .returned (.tuple #[.agg #[.int .i64 (ofB T L), V], .int .i64 (ofE T L)]) ∧ RSV w' W.heap.size V (ofT srtT T L) ∧ Below W.heap.size W w') := fun W hW => dOf_any T L pA k cA W HLL.out (by omega) gT.out HG.out ((IRSt_own oA HLL.out).later hW)
      clear oR oR' oA B8 oP hcR
      go_wp2_with fail
      go_cut [9, 10] (fun h e wc => ∃ b V, h = .pointer (some ⟨b, 0, none⟩) ∧ e = .int .i64 (ofE T L) ∧ w8.heap.size ≤ b ∧ Hid (SB wc w8.heap.size b V (ofB T L) (ofT srtT T L) ∧ Below w8.heap.size w8 wc))
      case first =>
        clear HDO H1 H2 HZT HCL HG R8 HLL g1 g2 gT hiC hzC0 hzC1 hzC2 hiS hzS0 hzS1 hzS2
        go_region_with (first | (go_at_call 4; refine (HCT.out _).mono ?_; rintro e w9 ⟨rfl, hb9⟩; have hb9' : Below w8.heap.size w8 w9 := (by first | exact und hb9 | exact bel1 (und hb9))) | (go_at_call 7; refine (HO.out _ (by first | exact hb9' | exact belA hb9' _)).mono ?_; rintro e w10 ⟨V, rfl, sv, hb10⟩; obtain ⟨pV, nV, cV, rfl⟩ := sv.shape; first | (have hk9 := keepblk3 hb10 (keepblk3 (und hb9) (alloc_get w8 (.cells #[.int .i64 0, .slice none 0 0, .bool false] 34 (0, 0)))); have hc9 := (cells_block hk9).1; have hf9 := (cells_block hk9).2) | (have hk9 := keepblk3 hb10 (alloc_get w9 (.cells #[.int .i64 0, .slice none 0 0, .bool false] 34 (0, 0))); have hc9 := (cells_block hk9).1; have hf9 := (cells_block hk9).2) | skip))
        all_goals go_wp2
        all_goals go_meet
        all_goals first
          | exact ⟨_, _, rfl, rfl, Nat.le_refl _, (SB_put hk9 sv (lt_of_get3 (keepblk3 (und hb9) (alloc_get w8 (.cells #[.int .i64 0, .slice none 0 0, .bool false] 34 (0, 0)))))).base (by have := hb9'.size; omega), (((bel0 hb9' hb10).setCell (Nat.le_refl _) _).setCell (Nat.le_refl _) _).setCell (Nat.le_refl _) _⟩
          | exact ⟨_, _, rfl, rfl, hb9'.size, (SB_put hk9 sv (by simp)).base (by have := hb9'.size; simp; omega), (((bel0 (belA hb9' _) hb10).setCell hb9'.size _).setCell hb9'.size _).setCell hb9'.size _⟩
          | exact ⟨_, _, rfl, rfl, (bel0 hb9' hb10).size, ⟨alloc_get _ _, (sv.below (belA (Below.refl _ _) _)).base (by have := hb9'.size; omega)⟩, belA (bel0 hb9' hb10) _⟩
      case rest =>
        obtain ⟨b, V, rfl, rfl, hbb, HS⟩ := hcut
        obtain ⟨pV, nV, cV, rfl⟩ := HS.out.1.2.shape
        clear HO
        go_wp2_with fail
        refine (HZT.out _).mono ?_
        rintro e w11 ⟨rfl, hb11⟩
        go_wp2_with fail
        refine (HDO.out _ (bel0 HS.out.2 hb11)).mono ?_
        rintro e w12 ⟨V2, rfl, rv, hb12⟩
        obtain ⟨p2, n2, c2, rfl⟩ := rv.shape
        obtain ⟨w13, hw13⟩ : ∃ w13, w12.alloc (.cells #[.int .i64 (ofB T L), .slice p2 n2 c2] 40 (0, 0)) = w13 := ⟨_, rfl⟩
        have hal : Below w12.heap.size w12 w13 := by rw [← hw13]; exact belA (Below.refl _ _) _
        have hk13 : w13.heap[w12.heap.size]? = some (.cells #[.int .i64 (ofB T L), .slice p2 n2 c2] 40 (0, 0)) := by rw [← hw13]; exact alloc_get _ _
        have b8 : Below w8.heap.size w8 w13 := bel0 HS.out.2 (bel0 hb11 (bel0 hb12 hal))
        have D13 : Hid (w13.ownsRow w.heap.size 28 9 (.slice (some ⟨gR, 0, none⟩) (k + 2) cR) (k + 2) (ces (L ++ [A1, A2])) ∧ w13.ownsRow w.heap.size 9 1 (.slice pA k cA) k (stx L) ∧ SB w13 w8.heap.size b (.slice pV nV cV) (ofB T L) (ofT srtT T L) ∧ TB w13 w8.heap.size w12.heap.size (.slice p2 n2 c2) (ofB T L) (ofT srtT T L) ∧ Below w.heap.size w w13 ∧ w.heap.size ≤ b ∧ w.heap.size ≤ w12.heap.size) := ⟨own_belQ R8.out.1 b8, own_belQ R8.out.2.1 b8, HS.out.1.below (bel0 hb11 (bel0 hb12 hal)), ⟨hk13, (rv.below hal).base (by have := HS.out.2.size; have := hb11.size; omega)⟩, bel0 R8.out.2.2 b8, Nat.le_trans R8.out.2.2.size hbb, by have := R8.out.2.2.size; have := HS.out.2.size; have := hb11.size; have := hb12.size; omega⟩
        obtain ⟨bt, hbt⟩ : ∃ bt, w12.heap.size = bt := ⟨_, rfl⟩
        clear hal hk13 b8 HS R8 rv hb12 hb11 HDO
        go_wp2_with fail
        clear hw13
        rw [hbt] at D13
        clear hbt
        go_loopw [13] (fun i wr => ∃ j : Nat, j ≤ k ∧ i = .int .i64 j ∧ Below w13.heap.size w13 wr) (fun i _ => k - (intOf i).toNat)
        case atStart => exact ⟨0, Nat.zero_le _, rfl, Below.refl _ _⟩
        case round =>
          obtain ⟨j, hj, rfl, hBj⟩ := hrel
          by_cases hlt2 : j < k
          · have k0 : (0 : Int) ≤ (j : Int) := by omega
            have k1 : (j : Int) < (k : Int) := by omega
            have k2 : (j : Int) < (k : Int) + 2 := by omega
            obtain ⟨ad, S, P, rfl, hc, hsS, hP, hLP⟩ := HCL.out j hlt2
            have hbk := World.block_lt_of_cell? w _ hc
            have HCS : Hid (∀ W, Below w13.heap.size w13 W → W.cell? (ad.add j) = some (.string S)) := fun W hW => ((bel0 D13.out.2.2.2.2.1 hW).cell hbk).trans hc
            have HCP : Hid (∀ W, Calls Try.prog 4 #[.string S] W fun e w' => e = .returned (.agg #[.int .i64 (P.length : Int), .int .u64 (FW P 0 : Int), .int .u64 (FW P 1 : Int), .int .u64 (FW P 2 : Int), .int .u64 (FW P 3 : Int), .int .u64 (OW P 0 : Int), .int .u64 (OW P 1 : Int), .int .u64 (OW P 2 : Int), .int .u64 (OW P 3 : Int)]) ∧ Below W.heap.size W w') := fun W => by
              have h := lcube_any S W hsS
              rw [hP] at h
              exact h
            have gP : good P = true := HG.out P (List.mem_of_getElem? hLP)
            have eP : ∀ W, (Op.equalIn 10000 28 (.agg #[.int .i64 (P.length : Int), .int .u64 (FW P 0 : Int), .int .u64 (FW P 1 : Int), .int .u64 (FW P 2 : Int), .int .u64 (FW P 3 : Int), .int .u64 (OW P 0 : Int), .int .u64 (OW P 1 : Int), .int .u64 (OW P 2 : Int), .int .u64 (OW P 3 : Int)]) (.agg #[.int .i64 (P.length : Int), .int .u64 (FW P 0 : Int), .int .u64 (FW P 1 : Int), .int .u64 (FW P 2 : Int), .int .u64 (FW P 3 : Int), .int .u64 (OW P 0 : Int), .int .u64 (OW P 1 : Int), .int .u64 (OW P 2 : Int), .int .u64 (OW P 3 : Int)])).run Try.prog W = .ok true W := fun W => by rw [eql_cube P P gP gP W]; simp
            have HRj : Hid ((L ++ [A1, A2])[j]? = some P) := by unfold Hid; rw [List.getElem?_append_left (by rw [HLL.out]; exact hlt2)]; exact hLP
            have HRl : Hid ((L ++ [A1, A2]).length = k + 2) := by unfold Hid; rw [List.length_append, HLL.out]; rfl
            clear hc hsS hP hLP hbk gP
            go_wp2_with fail
            refine quiet_lit3 (C := fun W => Below w13.heap.size w13 W) (by kernel_rfl) (by kernel_rfl) (show Below _ _ _ from hBj.drew) ?_
            go_big_quiet_want
            go_big_quiet_op
            go_big_quiet_on
            go_big_quiet_want
            go_big_quiet_op
            go_big_quiet_on
            go_big_quiet_want
            refine ⟨.pointer (some ⟨gR, j * 9, none⟩), fun W hW => ?_, ?_⟩
            · go_simp
            go_big_quiet_on
            simp only [Act.put, List.setIfInBounds_toArray, List.set_cons_zero, List.set_cons_succ]
            go_big_quiet_want
            refine ⟨.agg #[.int .i64 (P.length : Int), .int .u64 (FW P 0 : Int), .int .u64 (FW P 1 : Int), .int .u64 (FW P 2 : Int), .int .u64 (FW P 3 : Int), .int .u64 (OW P 0 : Int), .int .u64 (OW P 1 : Int), .int .u64 (OW P 2 : Int), .int .u64 (OW P 3 : Int)], fun W hW => ?_, ?_⟩
            · obtain ⟨x0, x1, x2, x3, x4, x5, x6, x7, x8⟩ := ce_at2 (own_belQ D13.out.1 hW) HRl.out HRj.out
              go_simp
            go_big_quiet_on
            simp only [Act.put, List.setIfInBounds_toArray, List.set_cons_zero, List.set_cons_succ]
            go_big_quiet_want
            go_big_quiet_op
            go_big_quiet_on
            go_big_quiet_want
            go_big_quiet_op
            go_big_quiet_on
            go_big_quiet_want
            refine ⟨.pointer (some (ad.add j)), fun W hW => ?_, ?_⟩
            · go_simp
            go_big_quiet_on
            simp only [Act.put, List.setIfInBounds_toArray, List.set_cons_zero, List.set_cons_succ]
            go_big_quiet_want
            refine ⟨.string S, fun W hW => ?_, ?_⟩
            · have x := HCS.out W hW
              go_simp
            go_big_quiet_on
            simp only [Act.put, List.setIfInBounds_toArray, List.set_cons_zero, List.set_cons_succ]
            go_big_quiet_want
            refine ⟨.agg #[.int .i64 (P.length : Int), .int .u64 (FW P 0 : Int), .int .u64 (FW P 1 : Int), .int .u64 (FW P 2 : Int), .int .u64 (FW P 3 : Int), .int .u64 (OW P 0 : Int), .int .u64 (OW P 1 : Int), .int .u64 (OW P 2 : Int), .int .u64 (OW P 3 : Int)], fun W hW => ?_, ?_⟩
            · go_simp
              refine (HCP.out W).mono ?_
              rintro e w7 ⟨rfl, hb⟩
              exact ⟨rfl, bel0 hW hb⟩
            go_big_quiet_on
            simp only [Act.put, List.setIfInBounds_toArray, List.set_cons_zero, List.set_cons_succ]
            go_big_quiet_want
            refine ⟨.bool false, fun W hW => ?_, ?_⟩
            · go_simp
            go_big_quiet_on
            simp only [Act.put, List.setIfInBounds_toArray, List.set_cons_zero, List.set_cons_succ]
            refine wpQuiet_nil ?_
            intro W hW
            go_wp2_with fail
            go_roundw
            case rel => exact ⟨j + 1, by omega, by go_num, hW⟩
            case measure => simp [intOf]; omega
          · have k1 : ¬ (j : Int) < (k : Int) := by omega
            have m0 : (k : Int) < (k : Int) + 2 := by omega
            obtain ⟨m, hm⟩ : ∃ m : Nat, m = k + 1 := ⟨_, rfl⟩
            have m1 : (k : Int) + 1 = (m : Int) := by omega
            have m2 : (0 : Int) ≤ (m : Int) := by omega
            have m3 : (m : Int) < (k : Int) + 2 := by omega
            have m4 : IntKind.i64.wrap (m : Int) = (m : Int) := wrapK m (by omega)
            have e7 : ∀ W, (Op.equalIn 10000 28 (.agg #[.int .i64 (A1.length : Int), .int .u64 (FW A1 0 : Int), .int .u64 (FW A1 1 : Int), .int .u64 (FW A1 2 : Int), .int .u64 (FW A1 3 : Int), .int .u64 (OW A1 0 : Int), .int .u64 (OW A1 1 : Int), .int .u64 (OW A1 2 : Int), .int .u64 (OW A1 3 : Int)]) (.agg #[.int .i64 (A1.length : Int), .int .u64 (FW A1 0 : Int), .int .u64 (FW A1 1 : Int), .int .u64 (FW A1 2 : Int), .int .u64 (FW A1 3 : Int), .int .u64 (OW A1 0 : Int), .int .u64 (OW A1 1 : Int), .int .u64 (OW A1 2 : Int), .int .u64 (OW A1 3 : Int)])).run Try.prog W = .ok true W := fun W => by rw [eql_cube A1 A1 g1 g1 W]; simp
            have e9 : ∀ W, (Op.equalIn 10000 28 (.agg #[.int .i64 (A2.length : Int), .int .u64 (FW A2 0 : Int), .int .u64 (FW A2 1 : Int), .int .u64 (FW A2 2 : Int), .int .u64 (FW A2 3 : Int), .int .u64 (OW A2 0 : Int), .int .u64 (OW A2 1 : Int), .int .u64 (OW A2 2 : Int), .int .u64 (OW A2 3 : Int)]) (.agg #[.int .i64 (A2.length : Int), .int .u64 (FW A2 0 : Int), .int .u64 (FW A2 1 : Int), .int .u64 (FW A2 2 : Int), .int .u64 (FW A2 3 : Int), .int .u64 (OW A2 0 : Int), .int .u64 (OW A2 1 : Int), .int .u64 (OW A2 2 : Int), .int .u64 (OW A2 3 : Int)])).run Try.prog W = .ok true W := fun W => by rw [eql_cube A2 A2 g2 g2 W]; simp
            have r7 : Hid ((L ++ [A1, A2])[k]? = some A1) := by unfold Hid; rw [List.getElem?_append_right (by rw [HLL.out]; exact Nat.le_refl _), HLL.out]; simp
            have r9 : Hid ((L ++ [A1, A2])[m]? = some A2) := by unfold Hid; rw [List.getElem?_append_right (by rw [HLL.out]; omega), HLL.out, hm]; simp
            have HRl : Hid ((L ++ [A1, A2]).length = k + 2) := by unfold Hid; rw [List.length_append, HLL.out]; rfl
            have HSM : Hid (∀ W, Below w13.heap.size w13 W → Calls Try.prog 9 #[.agg #[.int .i64 (ofB T L), .slice pV nV cV, .bool false], .int .i64 (ofE T L), .agg #[.int .i64 (ofB T L), .slice p2 n2 c2], .int .i64 (ofE T L)] W fun r w' => r = .returned (.bool true) ∧ Below W.heap.size W w') := fun W hW => same_any _ _ _ _ _ w8.heap.size w8.heap.size W (D13.out.2.2.1.below hW).2 (D13.out.2.2.2.1.below hW).2 (by have := (ofT_gd gT.out HG.out).2; omega) (ofT_gd gT.out HG.out).1
            clear hm
            go_wp2_with fail
            refine quiet_lit3 (C := fun W => Below w13.heap.size w13 W) (by kernel_rfl) (by kernel_rfl) (show Below _ _ _ from hBj.drew) ?_
            go_big_quiet_want
            go_big_quiet_op
            go_big_quiet_on
            go_big_quiet_want
            go_big_quiet_op
            go_big_quiet_on
            go_big_quiet_want
            refine ⟨.int .i64 (k : Int), fun W hW => ?_, ?_⟩
            · go_simp
            go_big_quiet_on
            simp only [Act.put, List.setIfInBounds_toArray, List.set_cons_zero, List.set_cons_succ]
            go_big_quiet_want
            refine ⟨.pointer (some ⟨gR, k * 9, none⟩), fun W hW => ?_, ?_⟩
            · go_simp
            go_big_quiet_on
            simp only [Act.put, List.setIfInBounds_toArray, List.set_cons_zero, List.set_cons_succ]
            go_big_quiet_want
            refine ⟨.agg #[.int .i64 (A1.length : Int), .int .u64 (FW A1 0 : Int), .int .u64 (FW A1 1 : Int), .int .u64 (FW A1 2 : Int), .int .u64 (FW A1 3 : Int), .int .u64 (OW A1 0 : Int), .int .u64 (OW A1 1 : Int), .int .u64 (OW A1 2 : Int), .int .u64 (OW A1 3 : Int)], fun W hW => ?_, ?_⟩
            · obtain ⟨x0, x1, x2, x3, x4, x5, x6, x7, x8⟩ := ce_at2 (own_belQ D13.out.1 hW) HRl.out r7.out
              go_simp
            go_big_quiet_on
            simp only [Act.put, List.setIfInBounds_toArray, List.set_cons_zero, List.set_cons_succ]
            go_big_quiet_want
            refine ⟨.agg #[.int .i64 (A1.length : Int), .int .u64 (FW A1 0 : Int), .int .u64 (FW A1 1 : Int), .int .u64 (FW A1 2 : Int), .int .u64 (FW A1 3 : Int), .int .u64 (OW A1 0 : Int), .int .u64 (OW A1 1 : Int), .int .u64 (OW A1 2 : Int), .int .u64 (OW A1 3 : Int)], fun W hW => ?_, ?_⟩
            · go_simp
              refine (H1.out W).mono ?_
              rintro e w7 ⟨rfl, hb⟩
              exact ⟨rfl, bel0 hW hb⟩
            go_big_quiet_on
            simp only [Act.put, List.setIfInBounds_toArray, List.set_cons_zero, List.set_cons_succ]
            go_big_quiet_want
            refine ⟨.bool false, fun W hW => ?_, ?_⟩
            · go_simp
            go_big_quiet_on
            simp only [Act.put, List.setIfInBounds_toArray, List.set_cons_zero, List.set_cons_succ]
            go_big_quiet_want
            go_big_quiet_op
            go_big_quiet_on
            go_big_quiet_want
            go_big_quiet_op
            go_big_quiet_on
            go_big_quiet_want
            go_big_quiet_op
            go_big_quiet_on
            go_big_quiet_want
            refine ⟨.int .i64 (k : Int), fun W hW => ?_, ?_⟩
            · go_simp
            go_big_quiet_on
            simp only [Act.put, List.setIfInBounds_toArray, List.set_cons_zero, List.set_cons_succ]
            go_big_quiet_want
            refine ⟨.int .i64 (m : Int), fun W hW => ?_, ?_⟩
            · go_simp
            go_big_quiet_on
            simp only [Act.put, List.setIfInBounds_toArray, List.set_cons_zero, List.set_cons_succ]
            go_big_quiet_want
            refine ⟨.pointer (some ⟨gR, m * 9, none⟩), fun W hW => ?_, ?_⟩
            · go_simp
            go_big_quiet_on
            simp only [Act.put, List.setIfInBounds_toArray, List.set_cons_zero, List.set_cons_succ]
            go_big_quiet_want
            refine ⟨.agg #[.int .i64 (A2.length : Int), .int .u64 (FW A2 0 : Int), .int .u64 (FW A2 1 : Int), .int .u64 (FW A2 2 : Int), .int .u64 (FW A2 3 : Int), .int .u64 (OW A2 0 : Int), .int .u64 (OW A2 1 : Int), .int .u64 (OW A2 2 : Int), .int .u64 (OW A2 3 : Int)], fun W hW => ?_, ?_⟩
            · obtain ⟨x0, x1, x2, x3, x4, x5, x6, x7, x8⟩ := ce_at2 (own_belQ D13.out.1 hW) HRl.out r9.out
              go_simp
            go_big_quiet_on
            simp only [Act.put, List.setIfInBounds_toArray, List.set_cons_zero, List.set_cons_succ]
            go_big_quiet_want
            refine ⟨.agg #[.int .i64 (A2.length : Int), .int .u64 (FW A2 0 : Int), .int .u64 (FW A2 1 : Int), .int .u64 (FW A2 2 : Int), .int .u64 (FW A2 3 : Int), .int .u64 (OW A2 0 : Int), .int .u64 (OW A2 1 : Int), .int .u64 (OW A2 2 : Int), .int .u64 (OW A2 3 : Int)], fun W hW => ?_, ?_⟩
            · go_simp
              refine (H2.out W).mono ?_
              rintro e w7 ⟨rfl, hb⟩
              exact ⟨rfl, bel0 hW hb⟩
            go_big_quiet_on
            simp only [Act.put, List.setIfInBounds_toArray, List.set_cons_zero, List.set_cons_succ]
            go_big_quiet_want
            refine ⟨.bool false, fun W hW => ?_, ?_⟩
            · go_simp
            go_big_quiet_on
            simp only [Act.put, List.setIfInBounds_toArray, List.set_cons_zero, List.set_cons_succ]
            go_big_quiet_want
            refine ⟨.bool false, fun W hW => ?_, ?_⟩
            · go_simp
            go_big_quiet_on
            simp only [Act.put, List.setIfInBounds_toArray, List.set_cons_zero, List.set_cons_succ]
            go_big_quiet_want
            go_big_quiet_op
            go_big_quiet_on
            go_big_quiet_want
            refine ⟨.agg #[.int .i64 (ofB T L), .slice pV nV cV, .bool false], fun W hW => ?_, ?_⟩
            · obtain ⟨y1, -⟩ := cells_block (D13.out.2.2.1.below hW).1
              go_simp
            go_big_quiet_on
            simp only [Act.put, List.setIfInBounds_toArray, List.set_cons_zero, List.set_cons_succ]
            go_big_quiet_want
            go_big_quiet_op
            go_big_quiet_on
            go_big_quiet_want
            refine ⟨.agg #[.int .i64 (ofB T L), .slice p2 n2 c2], fun W hW => ?_, ?_⟩
            · obtain ⟨y1, -⟩ := cells_block (D13.out.2.2.2.1.below hW).1
              go_simp
            go_big_quiet_on
            simp only [Act.put, List.setIfInBounds_toArray, List.set_cons_zero, List.set_cons_succ]
            go_big_quiet_want
            go_big_quiet_op
            go_big_quiet_on
            go_big_quiet_want
            refine ⟨.bool true, fun W hW => ?_, ?_⟩
            · go_simp
              refine (HSM.out W hW).mono ?_
              rintro e w7 ⟨rfl, hb⟩
              exact ⟨rfl, bel0 hW hb⟩
            go_big_quiet_on
            simp only [Act.put, List.setIfInBounds_toArray, List.set_cons_zero, List.set_cons_succ]
            go_big_quiet_want
            refine ⟨.bool false, fun W hW => ?_, ?_⟩
            · go_simp
            go_big_quiet_on
            simp only [Act.put, List.setIfInBounds_toArray, List.set_cons_zero, List.set_cons_succ]
            go_big_quiet_want
            refine ⟨.bool false, fun W hW => ?_, ?_⟩
            · go_simp
            go_big_quiet_on
            simp only [Act.put, List.setIfInBounds_toArray, List.set_cons_zero, List.set_cons_succ]
            refine wpQuiet_nil ?_
            intro W hW
            clear HSM e7 e9 r7 r9 m0 m1 m2 m3 m4 H1 H2
            by_cases hk0 : k = 0
            · have bk : ((k : Int) == 0) = true := by rw [hk0]; rfl
              clear hk0
              go_wp2_with fail
              go_ret
              exact ⟨rfl, bel0 D13.out.2.2.2.2.1 hW⟩
            · have bk : ((k : Int) == 0) = false := by rw [beq_eq_false_iff_ne]; omega
              have kp : (0 : Int) < (k : Int) := by omega
              have kq : (0 : Int) < (k : Int) + 2 := by omega
              have hkp : Hid (0 < k) := by unfold Hid; omega
              clear hk0
              go_wp2_with fail
              refine (HCT.out _).mono ?_
              rintro e w14 ⟨rfl, hb14⟩
              have b14 : Below w13.heap.size w13 w14 := bel0 hW hb14
              have oR14 := own_belQ D13.out.1 b14
              have oA14 := own_belQ D13.out.2.1 b14
              have sB14 := keepblk3 b14 D13.out.2.2.1.1
              have tB14 := keepblk3 b14 D13.out.2.2.2.1.1
              have Bw14 := bel0 D13.out.2.2.2.2.1 b14
              obtain ⟨P0, hP0⟩ : ∃ P, (L ++ [A1, A2])[0]? = some P := ⟨_, List.getElem?_eq_getElem (by rw [HRl.out]; omega)⟩
              obtain ⟨x0, x1, x2, x3, x4, x5, x6, x7, x8⟩ := ce_at2 oR14 HRl.out hP0
              simp only [Nat.zero_mul, Nat.zero_add] at x0 x1 x2 x3 x4 x5 x6 x7 x8
              have fz := oR14.frozenAt
              obtain ⟨gA, hpA⟩ : ∃ gA, pA = some ⟨gA, 0, none⟩ := by
                rcases oA14.2 with ⟨_, h0⟩ | ⟨g, c, cur, e, _⟩
                · have := hkp.out; omega
                · injection e with e1 _ _
                  exact ⟨g, e1⟩
              subst hpA
              obtain ⟨X, hX⟩ : ∃ X, ((((((((w14.setCell ⟨gR, 0, none⟩ (.int .i64 (T.length : Int))).setCell ⟨gR, 1, none⟩ (.int .u64 (FW T 0 : Int))).setCell ⟨gR, 2, none⟩ (.int .u64 (FW T 1 : Int))).setCell ⟨gR, 3, none⟩ (.int .u64 (FW T 2 : Int))).setCell ⟨gR, 4, none⟩ (.int .u64 (FW T 3 : Int))).setCell ⟨gR, 5, none⟩ (.int .u64 (OW T 0 : Int))).setCell ⟨gR, 6, none⟩ (.int .u64 (OW T 1 : Int))).setCell ⟨gR, 7, none⟩ (.int .u64 (OW T 2 : Int))).setCell ⟨gR, 8, none⟩ (.int .u64 (OW T 3 : Int)) = X := ⟨_, rfl⟩
              have hput := put9k_own (k := 0) T oR14 (by rw [HRl.out]; omega)
              have oX : X.ownsRow w.heap.size 28 9 (.slice (some ⟨gR, 0, none⟩) (k + 2) cR) (k + 2) (ces ((L ++ [A1, A2]).set 0 T)) := by rw [← hX]; exact hput.1
              have gX : w14.grownBy X (some gR) := by rw [← hX]; exact hput.2
              obtain ⟨cur1, hg1⟩ := own_blk oR14
              have oAX := oA14.kept gX (own_neQ oA14 oR14 (by decide))
              have sBX : X.heap[b]? = some (.cells #[.int .i64 (ofB T L), .slice pV nV cV, .bool false] 34 (0, 0)) := (gX.block b (lt_of_get3 sB14) (fun e => blk_ne sB14 hg1 (by decide) (by injection e))).trans sB14
              have tBX : X.heap[bt]? = some (.cells #[.int .i64 (ofB T L), .slice p2 n2 c2] 40 (0, 0)) := (gX.block bt (lt_of_get3 tB14) (fun e => blk_ne tB14 hg1 (by decide) (by injection e))).trans tB14
              have BwX : Below w.heap.size w X := Bw14.grown gX Bw14.size (fun g e => by injection e with e; subst e; exact (oR14.lt gR rfl).1)
              obtain ⟨L2, hL2⟩ : ∃ L2, L.set 0 T = L2 := ⟨_, rfl⟩
              have hset : (L ++ [A1, A2]).set 0 T = L2 ++ [A1, A2] := by rw [← hL2, List.set_append_left _ _ (by rw [HLL.out]; exact hkp.out)]
              have HL2 : Hid (L2.length = k) := by unfold Hid; rw [← hL2, List.length_set]; exact HLL.out
              have HG2 : Hid (∀ x ∈ L2, good x = true) := fun x hx => by
                rw [← hL2] at hx
                rcases List.mem_or_eq_of_mem_set hx with h | rfl
                · exact HG.out x h
                · exact gT.out
              rw [hset] at oX
              have DX : Hid (X.ownsRow w.heap.size 28 9 (.slice (some ⟨gR, 0, none⟩) (k + 2) cR) (k + 2) (ces (L2 ++ [A1, A2])) ∧ X.ownsRow w.heap.size 9 1 (.slice (some ⟨gA, 0, none⟩) k cA) k (stx L) ∧ X.heap[b]? = some (.cells #[.int .i64 (ofB T L), .slice pV nV cV, .bool false] 34 (0, 0)) ∧ X.heap[bt]? = some (.cells #[.int .i64 (ofB T L), .slice p2 n2 c2] 40 (0, 0)) ∧ Below w.heap.size w X) := ⟨oX, oAX, sBX, tBX, BwX⟩
              have HLS : Hid ((stx L).set 0 (.string ⟨T.toArray⟩) = stx L2) := by
                unfold Hid stx
                rw [← hL2, List.map_set]
              clear hput oX gX hg1 oAX sBX tBX BwX hset oR14 oA14 sB14 tB14 Bw14 b14 hb14 hP0 hL2
              go_wp2_with fail
              clear hX x0 x1 x2 x3 x4 x5 x6 x7 x8 fz
              refine (HZT.out _).mono ?_
              rintro e w15 ⟨rfl, hb15⟩
              have oA15 := own_belQ DX.out.2.1 hb15
              have oR15 := own_belQ DX.out.1 hb15
              have sB15 := keepblk3 hb15 DX.out.2.2.1
              have tB15 := keepblk3 hb15 DX.out.2.2.2.1
              have Bw15 := bel0 DX.out.2.2.2.2 hb15
              obtain ⟨Q0, hQ0⟩ : ∃ P, L[0]? = some P := ⟨_, List.getElem?_eq_getElem (by rw [HLL.out]; exact hkp.out)⟩
              have y0 : w15.cell? ⟨gA, 0, none⟩ = some (.string ⟨Q0.toArray⟩) := by
                obtain ⟨g3, o3, e, hc3⟩ := IRSt_own oA15 HLL.out w15 (Below.refl _ _) 0 Q0 hQ0
                injection e with e
                injection e with e1 e2
                subst e1 e2
                exact hc3
              have fy := oA15.frozenAt
              obtain ⟨Y, hY⟩ : ∃ Y, w15.setCell ⟨gA, 0, none⟩ (.string ⟨T.toArray⟩) = Y := ⟨_, rfl⟩
              have hst := oA15.stored 0 (.string ⟨T.toArray⟩)
              rw [HLS.out] at hst
              have oAY : Y.ownsRow w.heap.size 9 1 (.slice (some ⟨gA, 0, none⟩) k cA) k (stx L2) := by rw [← hY]; exact hst.1
              have gY : w15.grownBy Y (some gA) := by rw [← hY]; exact set_gr _ _ _ _
              obtain ⟨cur2, hg2⟩ := own_blk oA15
              have oRY := oR15.kept gY (own_neQ oR15 oA15 (by decide))
              have sBY := (gY.block b (lt_of_get3 sB15) (fun e => blk_ne sB15 hg2 (by decide) (by injection e))).trans sB15
              have tBY := (gY.block bt (lt_of_get3 tB15) (fun e => blk_ne tB15 hg2 (by decide) (by injection e))).trans tB15
              have BwY : Below w.heap.size w Y := Bw15.grown gY Bw15.size (fun g e => by injection e with e; subst e; exact (oA15.lt gA rfl).1)
              have oPY : Y.ownsRow w.heap.size 28 9 (.slice (some ⟨gR, 0, none⟩) k cR) k (ces L2) := by
                have e1 : ces (L2 ++ [A1, A2]) = ces L2 ++ (ce9 A1 ++ ce9 A2) := by simp [ces]
                rw [e1] at oRY
                exact own_pre oRY (by rw [cesO_len, HL2.out])
              have n1' : (k : Int) ≤ (cR : Int) := n1
              have DY : Hid (Y.ownsRow w.heap.size 9 1 (.slice (some ⟨gA, 0, none⟩) k cA) k (stx L2) ∧ Y.heap[b]? = some (.cells #[.int .i64 (ofB T L), .slice pV nV cV, .bool false] 34 (0, 0)) ∧ Y.heap[bt]? = some (.cells #[.int .i64 (ofB T L), .slice p2 n2 c2] 40 (0, 0)) ∧ Below w.heap.size w Y) := ⟨oAY, sBY, tBY, BwY⟩
              have HO2 : Hid (∀ W, Below Y.heap.size Y W → Calls Try.prog 7 #[.agg #[.int .i64 (T.length : Int), .int .u64 (FW T 0 : Int), .int .u64 (FW T 1 : Int), .int .u64 (FW T 2 : Int), .int .u64 (FW T 3 : Int), .int .u64 (OW T 0 : Int), .int .u64 (OW T 1 : Int), .int .u64 (OW T 2 : Int), .int .u64 (OW T 3 : Int)], .slice (some ⟨gR, 0, none⟩) k cR] W fun e w' => ∃ V, e = .returned (.tuple #[.agg #[.int .i64 (ofB T L2), V, .bool false], .int .i64 (ofE T L2)]) ∧ SPV w' W.heap.size V (ofT srtT T L2) ∧ Below W.heap.size W w') := fun W hW => of_any srtT sort_ok srtT_len T L2 (some ⟨gR, 0, none⟩) k cR w.heap.size W HL2.out (by omega) gT.out HG2.out (own_belQ oPY hW)
              clear hst oAY gY hg2 oRY sBY tBY BwY oPY oR15 oA15 sB15 tB15 Bw15 hb15 hQ0 DX HLS
              go_wp2_with fail
              clear hY y0 fy
              go_region_with (first | (go_at_call 4; refine (HCT.out _).mono ?_; rintro e w16 ⟨rfl, hb16⟩; have hb16' : Below Y.heap.size Y w16 := und hb16) | (go_at_call 7; refine (HO2.out _ hb16').mono ?_; rintro e w17 ⟨V3, rfl, sv, hb17⟩; obtain ⟨p3, n3, c3, rfl⟩ := sv.shape; have hk9 := keepblk3 hb17 (keepblk3 hb16' DY.out.2.1); have hc9 := (cells_block hk9).1; have hf9 := (cells_block hk9).2))
              all_goals
                have SZ : SB (((w17.setCell ⟨b, 0, none⟩ (.int .i64 (ofB T L2))).setCell ⟨b, 1, none⟩ (.slice p3 n3 c3)).setCell ⟨b, 2, none⟩ (.bool false)) w16.heap.size b (.slice p3 n3 c3) (ofB T L2) (ofT srtT T L2) := SB_put hk9 sv (by have := lt_of_get3 DY.out.2.1; have := hb16'.size; omega)
                obtain ⟨z, hz⟩ : ∃ z, ((w17.setCell ⟨b, 0, none⟩ (.int .i64 (ofB T L2))).setCell ⟨b, 1, none⟩ (.slice p3 n3 c3)).setCell ⟨b, 2, none⟩ (.bool false) = z := ⟨_, rfl⟩
                rw [hz] at SZ
                have gz : w17.grownBy z (some b) := by rw [← hz]; exact grown_trans (set_gr _ b 0 _) (grown_trans (set_gr _ b 1 _) (set_gr _ b 2 _))
                have b17 : Below Y.heap.size Y w17 := bel0 hb16' hb17
                have oA17 := own_belQ DY.out.1 b17
                have tB17 := keepblk3 b17 DY.out.2.2.1
                obtain ⟨cur3, hg3⟩ := own_blk oA17
                have oAz := oA17.kept gz (.inr (fun e => blk_ne hg3 hk9 (by decide) (by injection e)))
                have hbt : b ≠ bt := blk_ne hk9 tB17 (by decide)
                have tBz := (gz.block bt (lt_of_get3 tB17) (fun e => hbt (by injection e with e; exact e.symm))).trans tB17
                have Bwz : Below w.heap.size w z := (bel0 DY.out.2.2.2 b17).grown gz (bel0 DY.out.2.2.2 b17).size (fun g e => by injection e with e; subst e; exact D13.out.2.2.2.2.2.1)
                have ltb : bt < w16.heap.size := by have := lt_of_get3 DY.out.2.2.1; have := hb16'.size; omega
                have DZ : Hid (SB z w16.heap.size b (.slice p3 n3 c3) (ofB T L2) (ofT srtT T L2) ∧ z.heap[bt]? = some (.cells #[.int .i64 (ofB T L), .slice p2 n2 c2] 40 (0, 0)) ∧ Below w.heap.size w z ∧ b ≠ bt ∧ bt < w16.heap.size) := ⟨SZ, tBz, Bwz, hbt, ltb⟩
                have HDO2 : Hid (∀ W, Below z.heap.size z W → Calls Try.prog 8 #[.string ⟨T.toArray⟩, .slice (some ⟨gA, 0, none⟩) k cA] W fun e w' => ∃ V, e = .returned (.tuple #[.agg #[.int .i64 (ofB T L2), V], .int .i64 (ofE T L2)]) ∧ RSV w' W.heap.size V (ofT srtT T L2) ∧ Below W.heap.size W w') := fun W hW => dOf_any T L2 (some ⟨gA, 0, none⟩) k cA W HL2.out (by omega) gT.out HG2.out ((IRSt_own oAz HL2.out).later hW)
                clear SZ gz b17 oA17 tB17 hg3 oAz hbt tBz Bwz ltb hk9 sv hb17 hb16 hb16' HO2
                go_wp2_with fail
                clear hz hc9 hf9
                refine (HZT.out _).mono ?_
                rintro e w18 ⟨rfl, hb18⟩
                go_wp2_with fail
                refine (HDO2.out _ hb18).mono ?_
                rintro e w19 ⟨V4, rfl, rv, hb19⟩
                obtain ⟨p4, n4, c4, rfl⟩ := rv.shape
                have b19 : Below z.heap.size z w19 := bel0 hb18 hb19
                have hk19 := keepblk3 b19 DZ.out.2.1
                obtain ⟨hc19, hf19⟩ := cells_block hk19
                have TZ : TB ((w19.setCell ⟨bt, 0, none⟩ (.int .i64 (ofB T L2))).setCell ⟨bt, 1, none⟩ (.slice p4 n4 c4)) w18.heap.size bt (.slice p4 n4 c4) (ofB T L2) (ofT srtT T L2) := TB_put hk19 rv (lt_of_get3 (keepblk3 hb18 DZ.out.2.1))
                obtain ⟨z2, hz2⟩ : ∃ z2, (w19.setCell ⟨bt, 0, none⟩ (.int .i64 (ofB T L2))).setCell ⟨bt, 1, none⟩ (.slice p4 n4 c4) = z2 := ⟨_, rfl⟩
                rw [hz2] at TZ
                have gz2 : w19.grownBy z2 (some bt) := by rw [← hz2]; exact grown_trans (set_gr _ bt 0 _) (set_gr _ bt 1 _)
                have sB19 := keepblk3 b19 DZ.out.1.1
                have SZ2 : SB z2 w16.heap.size b (.slice p3 n3 c3) (ofB T L2) (ofT srtT T L2) := ⟨(gz2.block b (lt_of_get3 sB19) (fun e => DZ.out.2.2.2.1 (by injection e))).trans sB19, (DZ.out.1.2.below b19).kept gz2 DZ.out.2.2.2.2⟩
                have Bw2 : Below w.heap.size w z2 := (bel0 DZ.out.2.2.1 b19).grown gz2 (bel0 DZ.out.2.2.1 b19).size (fun g e => by injection e with e; subst e; exact D13.out.2.2.2.2.2.2)
                have HSM2 : Hid (Calls Try.prog 9 #[.agg #[.int .i64 (ofB T L2), .slice p3 n3 c3, .bool false], .int .i64 (ofE T L2), .agg #[.int .i64 (ofB T L2), .slice p4 n4 c4], .int .i64 (ofE T L2)] z2 fun r w' => r = .returned (.bool true) ∧ Below z2.heap.size z2 w') := same_any _ _ _ _ _ w16.heap.size w18.heap.size z2 SZ2.2 TZ.2 (by have := (ofT_gd gT.out HG2.out).2; omega) (ofT_gd gT.out HG2.out).1
                have cs2 := (cells_block SZ2.1).1
                have ct2 := (cells_block TZ.1).1
                have HBw2 : Hid (Below w.heap.size w z2) := Bw2
                clear b19 hk19 TZ gz2 sB19 SZ2 Bw2 rv hb19 hb18 HDO2
                go_wp2_with fail
                refine HSM2.out.mono ?_
                rintro r w20 ⟨rfl, hb20⟩
                go_wp2_with fail
                go_ret
                exact ⟨rfl, bel0 HBw2.out hb20⟩
end Go.Proofs.Ytbdnpbiimbeflaa
