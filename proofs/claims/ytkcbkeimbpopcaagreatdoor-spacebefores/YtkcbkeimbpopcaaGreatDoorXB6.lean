import Derived.Test.YtkcbkeimbpopcaaGreatDoorXB4
import Derived.Test.YtkcbkeimbpopcaaGreatDoorXB5
import Derived.Test.YtkcbkeimbpopcaaGreatDoorXB3
import Derived.Test.YtkcbkeimbpopcaaGreatDoorXBM
import Derived.Test.YtkcbkeimbpopcaaGreatDoorXBS
namespace Go.Proofs.YtkcbkeimbpopcaaGreatDoor
open Go.RowKit Go.Shelf
set_option maxRecDepth 100000 in
theorem lcube_any (s : ByteArray) (w : World) (hs : s.size ≤ maxLen) : Calls Tryz.prog 27 #[.string s] w fun e w' => e = .returned (cubeV (cubeT s.data.toList)) ∧ Below w.heap.size w w' := by
  obtain ⟨D, hD⟩ : ∃ D, cubeT s.data.toList = D := ⟨_, rfl⟩
  obtain ⟨E, hE⟩ : ∃ E, refP s.data.toList = E := ⟨_, rfl⟩
  rw [hD]
  obtain ⟨w1, hw1⟩ : ∃ w1, w.alloc (.cells #[.int .i64 0, .int .u64 0, .int .u64 0, .int .u64 0, .int .u64 0, .int .u64 0, .int .u64 0, .int .u64 0, .int .u64 0] 54 (0, 0)) = w1 := ⟨_, rfl⟩
  have h1 : w1.heap[w.heap.size]? = some (.cells #[.int .i64 0, .int .u64 0, .int .u64 0, .int .u64 0, .int .u64 0, .int .u64 0, .int .u64 0, .int .u64 0, .int .u64 0] 54 (0, 0)) := by rw [← hw1]; exact alloc_get _ _
  have hB1 : Below w.heap.size w w1 := by rw [← hw1]; exact belA (Below.refl _ _) _
  have HP : Hid (Calls Tryz.prog 67 #[.string s] w1 fun e w' => e = .returned (.tuple #[cubeV D, .int .i64 E]) ∧ Below w1.heap.size w1 w') := parse_D s w1 hs D E hD hE
  clear hD hE
  go_enter Tryz.func27, Tryz.ntmps27
  go_wp2_with fail
  refine HP.out.mono ?_
  rintro e W1 ⟨rfl, hb1⟩
  unfold cubeV cv
  have k1 := keepblk3 hb1 h1
  have k2 := allocblk3 k1 (.cells #[.int .i64 (D.length : Int), .int .u64 (FW D 0 : Int), .int .u64 (FW D 1 : Int), .int .u64 (FW D 2 : Int), .int .u64 (FW D 3 : Int), .int .u64 (OW D 0 : Int), .int .u64 (OW D 1 : Int), .int .u64 (OW D 2 : Int), .int .u64 (OW D 3 : Int)] 54 (0, 0))
  obtain ⟨hc2, hf2⟩ := cells_block k2
  have HF : Hid (_ = _) := put9_get (.int .i64 (D.length : Int)) (.int .u64 (FW D 0 : Int)) (.int .u64 (FW D 1 : Int)) (.int .u64 (FW D 2 : Int)) (.int .u64 (FW D 3 : Int)) (.int .u64 (OW D 0 : Int)) (.int .u64 (OW D 1 : Int)) (.int .u64 (OW D 2 : Int)) (.int .u64 (OW D 3 : Int)) k2
  have HB : Hid (Below w.heap.size w (put9 (W1.alloc (.cells #[.int .i64 (D.length : Int), .int .u64 (FW D 0 : Int), .int .u64 (FW D 1 : Int), .int .u64 (FW D 2 : Int), .int .u64 (FW D 3 : Int), .int .u64 (OW D 0 : Int), .int .u64 (OW D 1 : Int), .int .u64 (OW D 2 : Int), .int .u64 (OW D 3 : Int)] 54 (0, 0))) w.heap.size (.int .i64 (D.length : Int)) (.int .u64 (FW D 0 : Int)) (.int .u64 (FW D 1 : Int)) (.int .u64 (FW D 2 : Int)) (.int .u64 (FW D 3 : Int)) (.int .u64 (OW D 0 : Int)) (.int .u64 (OW D 1 : Int)) (.int .u64 (OW D 2 : Int)) (.int .u64 (OW D 3 : Int)))) := put9_below _ _ _ _ _ _ _ _ _ (belA (bel0 hB1 hb1) _) (Nat.le_refl _)
  clear k1 k2 h1 hB1 hb1 hw1
  go_wp2_with fail
  refine bodyPost_ret (v := .agg #[.int .i64 (D.length : Int), .int .u64 (FW D 0 : Int), .int .u64 (FW D 1 : Int), .int .u64 (FW D 2 : Int), .int .u64 (FW D 3 : Int), .int .u64 (OW D 0 : Int), .int .u64 (OW D 1 : Int), .int .u64 (OW D 2 : Int), .int .u64 (OW D 3 : Int)]) ?_ rfl ?_
  · exact res_cube1 _ _ w.heap.size _ _ _ _ _ _ _ _ _ Tryz.results27 rfl HF.out
  · exact ⟨rfl, HB.out⟩
/-- a space of the program that is Ts when it has its form -/
def ANS (W : World) (V : Value) (lo : Bool) (Ts : List (List UInt8 × List (List UInt8))) : Prop := (lo = false ∧ SPL W 0 V Ts) ∨ (lo = true ∧ ∃ Rs, LSP W V Rs ∧ Rs.length ≤ 1000 ∧ ordT (topC (stl Rs)) = Ts)
theorem ANS.below {W X : World} {V : Value} {lo : Bool} {Ts : List (List UInt8 × List (List UInt8))} (h : ANS W V lo Ts) (hb : Below W.heap.size W X) : ANS X V lo Ts := by
  rcases h with ⟨h1, h2⟩ | ⟨h1, Rs, h2, h3⟩
  · exact .inl ⟨h1, h2.below hb⟩
  · exact .inr ⟨h1, Rs, h2.below hb, h3⟩
theorem ANS.putS {W : World} {b : Nat} {V : Value} {lo : Bool} {Ts : List (List UInt8 × List (List UInt8))} {cs : Array Value} {m : Nat × Nat} (h : ANS W V lo Ts) (hb : W.heap[b]? = some (.cells cs 24 m)) (v0 v1 v2 : Value) : ANS (((W.setCell ⟨b, 0, none⟩ v0).setCell ⟨b, 1, none⟩ v1).setCell ⟨b, 2, none⟩ v2) V lo Ts := by
  rcases h with ⟨h1, h2⟩ | ⟨h1, Rs, h2, h3⟩
  · exact .inl ⟨h1, h2.putS hb v0 v1 v2⟩
  · exact .inr ⟨h1, Rs, h2.putS hb v0 v1 v2, h3⟩
theorem ANS.shape {W : World} {V : Value} {lo : Bool} {Ts : List (List UInt8 × List (List UInt8))} (h : ANS W V lo Ts) : ∃ p n c, V = .slice p n c := by
  rcases h with ⟨h1, h2⟩ | ⟨h1, Rs, h2, h3⟩
  · obtain ⟨p, c, e⟩ := h2.shape
    exact ⟨p, _, c, e⟩
  · obtain ⟨p, c, e⟩ := h2.shape
    exact ⟨p, _, c, e⟩
theorem same_ans (b e : Int) (V V2 : Value) (lo : Bool) (Ts : List (List UInt8 × List (List UInt8))) (w : World) (h : ANS w V lo Ts) (h2 : RSR w V2 Ts) (ho : szC Ts ≤ 128) (hg : gdC Ts) : Calls Tryz.prog 21 #[.agg #[.int .i64 b, V, .bool lo], .int .i64 e, .agg #[.int .i64 b, V2], .int .i64 e] w fun r w' => r = .returned (.bool true) ∧ Below w.heap.size w w' := by
  rcases h with ⟨rfl, h1⟩ | ⟨rfl, Rs, h1, h3, h4⟩
  · exact same_any b e V V2 Ts 0 w h1 h2 ho hg
  · exact sameL_any b e V V2 Rs Ts w h4 h1 h3 h2 ho hg
theorem bv_ok (b : Int) (A : List (List UInt8 × List (List UInt8))) (r : List UInt8) (hg : gdC A) (hs : szC A ≤ 128) (gr : good r = true) : gdC (bvT b A r) ∧ szC (bvT b A r) ≤ 128 := by
  unfold bvT
  split
  · refine ⟨gdC_ord (gdC_top (gdC_stl (bfN_gd gr hg))), ?_⟩
    rw [szC_ord]
    have h1 := szC_top (bfN r A)
    have h2 := bfN_sz r A
    omega
  · exact ⟨(fun t h => by cases h), Nat.zero_le _⟩
theorem sBefore_ans (b : Int) (A : List (List UInt8 × List (List UInt8))) (r : List UInt8) (V1 : Value) (w : World) (h1 : SPL w 0 V1 A) (hs1 : szC A ≤ 128) (hg1 : gdC A) (gr : good r = true) (hfx : ordT (topC (stl A)) = A) (hft : ∀ t ∈ A, FTm t ∧ (t.1.length : Int) = b ∧ t.1 ≠ []) :
    Calls Tryz.prog 26 #[.agg #[.int .i64 b, V1, .bool false], .agg #[.int .i64 (r.length : Int), .int .u64 (FW r 0 : Int), .int .u64 (FW r 1 : Int), .int .u64 (FW r 2 : Int), .int .u64 (FW r 3 : Int), .int .u64 (OW r 0 : Int), .int .u64 (OW r 1 : Int), .int .u64 (OW r 2 : Int), .int .u64 (OW r 3 : Int)]] w fun e w' => ∃ V lo, e = .returned (.tuple #[.agg #[.int .i64 (bvB b r), V, .bool lo], .int .i64 (bvE b r)]) ∧ ANS w' V lo (bvT b A r) ∧ Below w.heap.size w w' := by
  refine (sBefore_any b A r 0 V1 w h1 hs1 hg1 gr).mono ?_
  rintro e w' ⟨hb, ⟨h2, rfl⟩ | ⟨h2, h3, rfl⟩ | ⟨h2, V, rfl, h3⟩⟩
  · refine ⟨.slice none 0 0, false, ?_, .inl ⟨rfl, ?_⟩, hb⟩
    · unfold bvB
      rw [h2]
      rfl
    · unfold bvT
      rw [h2]
      exact SPL_nil _ _
  · refine ⟨V1, false, ?_, .inl ⟨rfl, ?_⟩, hb⟩
    · unfold bvB
      rw [h2]
      rfl
    · have e : bvT b A r = A := by
        unfold bvT
        rw [if_pos h2]
        cases A with
        | nil => simp [bfN, ordT, srtLn, topC, stl]
        | cons a l =>
          obtain ⟨-, h5, h6⟩ := hft a List.mem_cons_self
          have hl := good_len gr
          have h7 : bvE b r = 0 := h2
          have hb' : b = (r.length : Int) := by
            unfold bvE at h7
            split at h7
            · cases h7
            · rename_i hh
              have hh' : (!(b == 0) && (b == (r.length : Int))) = true := by simpa using hh
              simpa using (Bool.and_eq_true_iff.1 hh').2
          have hp : 1 ≤ b := by
            have : a.1.length ≠ 0 := fun e => h6 (List.eq_nil_of_length_eq_zero e)
            omega
          have h8 : r = List.replicate b.toNat 120 := by
            rw [h3]
            unfold alT
            rw [if_pos ⟨hp, by omega⟩]
          rw [h8, bfN_all (n := b.toNat) (fun t ht => ?_), hfx]
          obtain ⟨x1, x2, x3⟩ := hft t ht
          exact ⟨by omega, x3, x1⟩
      rw [e]
      exact h1.below hb
  · refine ⟨V, true, ?_, .inr ⟨rfl, _, h3, ?_, ?_⟩, hb⟩
    · unfold bvB
      rw [h2]
      rfl
    · have h4 := bfN_len r A
      have h5 := szC_len A
      omega
    · unfold bvT
      rw [if_pos h2]
set_option maxRecDepth 100000 in
set_option maxHeartbeats 8000000 in
theorem befores_walk (b : Int) (l wd : List UInt8) (w : World) (hl0 : l.length ≤ 281474976710656) (hl1 : wd.length ≤ 281474976710656) : Calls Tryz.prog 8 #[.int .i64 b, .string ⟨l.toArray⟩, .string ⟨wd.toArray⟩] w fun e w' => e = .returned (.bool true) ∧ Below w.heap.size w w' := by
  have hla : l.length ≤ maxLen := by unfold maxLen; omega
  have hlb : (⟨wd.toArray⟩ : ByteArray).size ≤ maxLen := by
    have : (⟨wd.toArray⟩ : ByteArray).size = wd.length := by simp [ByteArray.size]
    unfold maxLen
    omega
  have ok1 := prT_ok b l
  have fx1 := prT_fix b l
  have ft1 : ∀ t ∈ prT b l, FTm t ∧ (t.1.length : Int) = prB b l ∧ t.1 ≠ [] := fun t ht => by
    obtain ⟨h0, h1, h2, -, h4⟩ := prT_ft b l t ht
    refine ⟨h0, ?_, fun e => ?_⟩
    · unfold prB
      rw [if_pos h4]
      exact h1
    · rw [e] at h1
      simp at h1
      omega
  obtain ⟨B1, hB1⟩ : ∃ B, prB b l = B := ⟨_, rfl⟩
  obtain ⟨X1, hX1⟩ : ∃ X, prT b l = X := ⟨_, rfl⟩
  obtain ⟨r, hr⟩ : ∃ r, cubeT wd = r := ⟨_, rfl⟩
  have gr : good r = true := by rw [← hr]; exact good_cubeT _
  have HR1 : Hid (Calls Tryz.prog 9 #[.int .i64 b, .string ⟨l.toArray⟩] w fun e w' => ∃ V V2, e = .returned (.tuple #[.agg #[.int .i64 B1, V, .bool false], .agg #[.int .i64 B1, V2], .bool true]) ∧ SPL w' w.heap.size V X1 ∧ RSR w' V2 X1 ∧ Below w.heap.size w w') := by
    unfold Hid
    rw [← hB1, ← hX1]
    exact read_any b l w hla
  rw [hX1] at ok1 fx1 ft1
  rw [hB1] at ft1
  have HCU : Hid (∀ W, Calls Tryz.prog 27 #[.string ⟨wd.toArray⟩] W fun e w' => e = .returned (.agg #[.int .i64 (r.length : Int), .int .u64 (FW r 0 : Int), .int .u64 (FW r 1 : Int), .int .u64 (FW r 2 : Int), .int .u64 (FW r 3 : Int), .int .u64 (OW r 0 : Int), .int .u64 (OW r 1 : Int), .int .u64 (OW r 2 : Int), .int .u64 (OW r 3 : Int)]) ∧ Below W.heap.size W w') := fun W => by
    have h := lcube_any ⟨wd.toArray⟩ W hlb
    have e : cubeT (⟨wd.toArray⟩ : ByteArray).data.toList = r := hr
    rw [e] at h
    exact h
  have HZE : Hid (∀ W, Calls Tryz.prog 29 #[.string ⟨wd.toArray⟩] W fun e w' => e = .returned (.string ⟨r.toArray⟩) ∧ Below W.heap.size W w') := fun W => by
    have h := zeroed_any ⟨wd.toArray⟩ W hlb
    have e : cubeT (⟨wd.toArray⟩ : ByteArray).data.toList = r := hr
    rw [e] at h
    exact h
  have HJO := bv_ok B1 X1 r ok1.1 ok1.2 gr
  have HJ1 : Hid (∀ (W : World) (V : Value), SPL W 0 V X1 → Calls Tryz.prog 26 #[.agg #[.int .i64 B1, V, .bool false], .agg #[.int .i64 (r.length : Int), .int .u64 (FW r 0 : Int), .int .u64 (FW r 1 : Int), .int .u64 (FW r 2 : Int), .int .u64 (FW r 3 : Int), .int .u64 (OW r 0 : Int), .int .u64 (OW r 1 : Int), .int .u64 (OW r 2 : Int), .int .u64 (OW r 3 : Int)]] W fun e w' => ∃ V lo, e = .returned (.tuple #[.agg #[.int .i64 (bvB B1 r), V, .bool lo], .int .i64 (bvE B1 r)]) ∧ ANS w' V lo (bvT B1 X1 r) ∧ Below W.heap.size W w') := fun W V h => sBefore_ans B1 X1 r V W h ok1.2 ok1.1 gr fx1 ft1
  have HJ2 : Hid (∀ (W : World) (V : Value), RSR W V X1 → Calls Tryz.prog 28 #[.agg #[.int .i64 B1, V], .string ⟨r.toArray⟩] W fun e w' => ∃ V, e = .returned (.tuple #[.agg #[.int .i64 (bvB B1 r), V], .int .i64 (bvE B1 r)]) ∧ RSR w' V (bvT B1 X1 r) ∧ Below W.heap.size W w') := fun W V h => dBefore_any B1 X1 r V W h ok1.2 ok1.1 gr ft1
  obtain ⟨B3, hB3⟩ : ∃ B, bvB B1 r = B := ⟨_, rfl⟩
  obtain ⟨E3, hE3⟩ : ∃ B, bvE B1 r = B := ⟨_, rfl⟩
  obtain ⟨X3, hX3⟩ : ∃ B, bvT B1 X1 r = B := ⟨_, rfl⟩
  rw [hB3, hE3, hX3] at HJ1 HJ2
  rw [hX3] at HJO
  have HJK : Hid (gdC X3 ∧ szC X3 ≤ 128) := HJO
  clear hB1 hX1 ok1 fx1 ft1 hB3 hE3 hX3 HJO gr hr hlb hla
  obtain ⟨n1, hn1⟩ : ∃ n, X1.length = n := ⟨_, rfl⟩
  go_enter Tryz.func8, Tryz.ntmps8
  go_wp2_with fail
  refine HR1.out.mono ?_
  rintro e w1 ⟨V, V2, rfl, sv1, rv1, hb1⟩
  obtain ⟨p1, c1, rfl⟩ := sv1.shape
  obtain ⟨q1, d1, rfl⟩ := rv1.shape
  rw [hn1] at sv1 rv1 ⊢
  obtain ⟨wA, hwA⟩ : ∃ wA, ((w1.alloc (.cells #[.int .i64 B1, .slice p1 n1 c1, .bool false] 24 (0, 0))).alloc (.cells #[.int .i64 B1, .slice q1 n1 d1] 27 (0, 0))) = wA := ⟨_, rfl⟩
  have HF : Hid (∀ W, Below wA.heap.size wA W → ((∀ j, W.cell? ⟨w1.heap.size, j, none⟩ = (#[.int .i64 B1, .slice p1 n1 c1, .bool false] : Array Value)[j]?) ∧ (∀ j, W.cell? ⟨w1.heap.size + 1, j, none⟩ = (#[.int .i64 B1, .slice q1 n1 d1] : Array Value)[j]?) ∧ SPL W 0 (.slice p1 n1 c1) X1 ∧ RSR W (.slice q1 n1 d1) X1 ∧ Below w.heap.size w W)) := fun W hW => by
    rw [← hwA] at hW
    have h1 : Below w1.heap.size w1 W := bel0 (belA (belA (Below.refl _ _) _) _) hW
    exact ⟨(cells_block (keepblk3 hW (alw_0 _ _ _))).1, (cells_block (keepblk3 hW (alw_1 _ _ _))).1, (sv1.below h1).base (Nat.zero_le _), rv1.later h1, bel0 hb1 h1⟩
  have H5 : Hid (∀ W, Below wA.heap.size wA W → (∀ j, W.cell? ⟨w1.heap.size, j, none⟩ = (#[.int .i64 B1, .slice p1 n1 c1, .bool false] : Array Value)[j]?)) := fun W hW => (HF.out W hW).1
  obtain ⟨f1, f2, -⟩ := HF.out wA (Below.refl _ _)
  clear sv1 rv1 hb1 HR1
  go_upto_region 4 with fail
  clear f2 hwA
  go_cut [10, 11] (fun h e wc => ∃ b3 V3 lo, h = .pointer (some ⟨b3, 0, none⟩) ∧ e = .int .i64 E3 ∧ Hid (wc.heap[b3]? = some (.cells #[.int .i64 B3, V3, .bool lo] 24 (0, 0)) ∧ ANS wc V3 lo X3 ∧ Below wA.heap.size wA wc))
  case first =>
    clear HZE HJ2 HJK f1
    go_region_held3 (fun W => (∀ j, W.cell? ⟨w1.heap.size, j, none⟩ = (#[.int .i64 B1, .slice p1 n1 c1, .bool false] : Array Value)[j]?)) (first | with_reducible exact H5.out _ (Below.refl _ _) | with_reducible exact H5.out _ (Below.refl _ _).drew | with_reducible exact H5.out _ (belA (Below.refl _ _) _) | with_reducible exact H5.out _ (belA (Below.refl _ _).drew _) | with_reducible exact H5.out _ hb7' | with_reducible exact H5.out _ (belA hb7' _) | with_reducible exact H5.out _ hb9' | with_reducible exact H5.out _ (belA hb9' _) | with_reducible exact H5.out _ (((hb9'.setCell (Nat.le_refl _) _).setCell (Nat.le_refl _) _).setCell (Nat.le_refl _) _) | with_reducible exact H5.out _ (((hb9'.setCell hb7'.size _).setCell hb7'.size _).setCell hb7'.size _) | with_reducible exact H5.out _ ((((belA hb9' _).setCell hb9'.size _).setCell hb9'.size _).setCell hb9'.size _)) (first | (go_at_call 27; refine (HCU.out _).mono ?_; rintro e w7 ⟨rfl, hb7⟩; have hb7' : Below wA.heap.size wA w7 := (by first | exact und hb7 | exact bel1 (und hb7) | exact und (bel1 hb7) | exact hb7)) | (go_at_call 26; refine (HJ1.out _ _ (by first | exact (HF.out _ hb7').2.2.1 | exact (HF.out _ (belA hb7' _)).2.2.1)).mono ?_; rintro e w9 ⟨V3, lo, rfl, s9, hb9⟩; have hb9' : Below wA.heap.size wA w9 := (by first | exact bel0 hb7' hb9 | exact bel0 hb7' (bel1 hb9)); obtain ⟨p3, n3, c3, rfl⟩ := s9.shape; (first | (have hk9 := keepblk3 hb9 (keepblk3 (und hb7) (alloc_get wA (.cells #[.int .i64 0, .slice none 0 0, .bool false] 24 (0, 0)))); have hc9 := (cells_block hk9).1; have hf9 := (cells_block hk9).2) | (have hk9 := keepblk3 hb9 (keepblk3 hb7 (alloc_get wA.drew (.cells #[.int .i64 0, .slice none 0 0, .bool false] 24 (0, 0)))); have hc9 := (cells_block hk9).1; have hf9 := (cells_block hk9).2) | (have hk9 := keepblk3 hb9 (alloc_get w7 (.cells #[.int .i64 0, .slice none 0 0, .bool false] 24 (0, 0))); have hc9 := (cells_block hk9).1; have hf9 := (cells_block hk9).2) | skip)))
    all_goals go_wp2
    all_goals go_meet
    · exact ⟨_, _, _, rfl, rfl, alloc_get _ _, s9.below (belA (Below.refl _ _) _), belA hb9' _⟩
    · exact ⟨_, _, _, rfl, rfl, put3_get _ _ _ hk9, s9.putS hk9 _ _ _, ((hb9'.setCell hb7'.size _).setCell hb7'.size _).setCell hb7'.size _⟩
    · exact ⟨_, _, _, rfl, rfl, put3_get _ _ _ hk9, s9.putS hk9 _ _ _, ((hb9'.setCell (Nat.le_refl _) _).setCell (Nat.le_refl _) _).setCell (Nat.le_refl _) _⟩
  case rest =>
    obtain ⟨b3, V3, lo, rfl, rfl, HS⟩ := hcut
    rename World => wc
    obtain ⟨p3, n3, c3, rfl⟩ := HS.out.2.1.shape
    have H6 : Hid (∀ W, Below wc.heap.size wc W → (∀ j, W.cell? ⟨w1.heap.size + 1, j, none⟩ = (#[.int .i64 B1, .slice q1 n1 d1] : Array Value)[j]?)) := fun W hW => (HF.out W (bel0 HS.out.2.2 hW)).2.1
    have HG : Hid (∀ W, Below wc.heap.size wc W → RSR W (.slice q1 n1 d1) X1) := fun W hW => (HF.out W (bel0 HS.out.2.2 hW)).2.2.2.1
    have f2 := H6.out wc (Below.refl _ _)
    clear HCU HJ1 H5 f1
    go_upto_region 5 with fail
    go_cut [12, 13] (fun h e wd => ∃ b4 V4, h = .pointer (some ⟨b4, 0, none⟩) ∧ e = .int .i64 E3 ∧ Hid (wd.heap[b4]? = some (.cells #[.int .i64 B3, V4] 27 (0, 0)) ∧ RSR wd V4 X3 ∧ Below wc.heap.size wc wd))
    case first =>
      clear HJK f2 HF
      go_region_held3 (fun W => (∀ j, W.cell? ⟨w1.heap.size + 1, j, none⟩ = (#[.int .i64 B1, .slice q1 n1 d1] : Array Value)[j]?)) (first | with_reducible exact H6.out _ (Below.refl _ _) | with_reducible exact H6.out _ (Below.refl _ _).drew | with_reducible exact H6.out _ (belA (Below.refl _ _) _) | with_reducible exact H6.out _ (belA (Below.refl _ _).drew _) | with_reducible exact H6.out _ hb7' | with_reducible exact H6.out _ (belA hb7' _) | with_reducible exact H6.out _ hb9' | with_reducible exact H6.out _ (belA hb9' _) | with_reducible exact H6.out _ ((hb9'.setCell (Nat.le_refl _) _).setCell (Nat.le_refl _) _) | with_reducible exact H6.out _ ((hb9'.setCell hb7'.size _).setCell hb7'.size _) | with_reducible exact H6.out _ (((belA hb9' _).setCell hb9'.size _).setCell hb9'.size _)) (first | (go_at_call 29; refine (HZE.out _).mono ?_; rintro e w7 ⟨rfl, hb7⟩; have hb7' : Below wc.heap.size wc w7 := (by first | exact und hb7 | exact bel1 (und hb7) | exact und (bel1 hb7) | exact hb7)) | (go_at_call 28; refine (HJ2.out _ _ (by first | exact HG.out _ hb7' | exact HG.out _ (belA hb7' _))).mono ?_; rintro e w9 ⟨V4, rfl, s9, hb9⟩; have hb9' : Below wc.heap.size wc w9 := (by first | exact bel0 hb7' hb9 | exact bel0 hb7' (bel1 hb9)); obtain ⟨p4, c4, rfl⟩ := s9.shape; (first | (have hk9 := keepblk3 hb9 (keepblk3 (und hb7) (alloc_get wc (.cells #[.int .i64 0, .slice none 0 0] 27 (0, 0)))); have hc9 := (cells_block hk9).1; have hf9 := (cells_block hk9).2) | (have hk9 := keepblk3 hb9 (keepblk3 hb7 (alloc_get wc.drew (.cells #[.int .i64 0, .slice none 0 0] 27 (0, 0)))); have hc9 := (cells_block hk9).1; have hf9 := (cells_block hk9).2) | (have hk9 := keepblk3 hb9 (alloc_get w7 (.cells #[.int .i64 0, .slice none 0 0] 27 (0, 0))); have hc9 := (cells_block hk9).1; have hf9 := (cells_block hk9).2) | skip)))
      all_goals go_wp2
      all_goals go_meet
      · exact ⟨_, _, rfl, rfl, alloc_get _ _, s9.later (belA (Below.refl _ _) _), belA hb9' _⟩
      · exact ⟨_, _, rfl, rfl, set2_get _ _ hk9, s9.kept (gr2 _ _ _ _) (no_str2 hk9), (hb9'.setCell hb7'.size _).setCell hb7'.size _⟩
      · exact ⟨_, _, rfl, rfl, set2_get _ _ hk9, s9.kept (gr2 _ _ _ _) (no_str2 hk9), (hb9'.setCell (Nat.le_refl _) _).setCell (Nat.le_refl _) _⟩
    case rest =>
      obtain ⟨b4, V4, rfl, rfl, HT⟩ := hcut
      rename World => wd'
      obtain ⟨p4, c4, rfl⟩ := HT.out.2.1.shape
      have g1 := (cells_block (keepblk3 HT.out.2.2 HS.out.1)).1
      have g2 := (cells_block HT.out.1).1
      have HW : Hid (∀ W, Below wd'.heap.size wd' W → Below w.heap.size w W) := fun W hW => (HF.out W (bel0 HS.out.2.2 (bel0 HT.out.2.2 hW))).2.2.2.2
      have HSS := same_ans B3 E3 (.slice p3 n3 c3) (.slice p4 X3.length c4) lo X3 wd' (HS.out.2.1.below HT.out.2.2) HT.out.2.1 HJK.out.2 HJK.out.1
      obtain ⟨n4, hn4⟩ : ∃ n, X3.length = n := ⟨_, rfl⟩
      rw [hn4] at HSS g2
      have HSA : Hid (Calls Tryz.prog 21 #[.agg #[.int .i64 B3, .slice p3 n3 c3, .bool lo], .int .i64 E3, .agg #[.int .i64 B3, .slice p4 n4 c4], .int .i64 E3] wd' fun r w' => r = .returned (.bool true) ∧ Below wd'.heap.size wd' w') := HSS
      clear HF HS HT HSS H6 HG HZE HJ2 HJK f2 hn4
      go_wp2_with fail
      refine HSA.out.mono ?_
      rintro e w6 ⟨rfl, hb6⟩
      go_wp2_with fail
      go_ret
      exact ⟨rfl, HW.out w6 hb6⟩
end Go.Proofs.YtkcbkeimbpopcaaGreatDoor
