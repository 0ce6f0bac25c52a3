import Derived.Test.YtekjbpemaohipaaGreatDoorXBC
import Derived.Test.YtekjbpemaohipaaGreatDoorXBA
import Derived.Deep.RegionHeld3
namespace Go.Proofs.YtekjbpemaohipaaGreatDoor
open Go.RowKit Go.Shelf
set_option maxRecDepth 100000 in
theorem width_any (c : List UInt8) (w : World) (gc : good c = true) : Calls Tryz.prog 26 #[.agg #[.int .i64 (c.length : Int), .int .u64 (FW c 0 : Int), .int .u64 (FW c 1 : Int), .int .u64 (FW c 2 : Int), .int .u64 (FW c 3 : Int), .int .u64 (OW c 0 : Int), .int .u64 (OW c 1 : Int), .int .u64 (OW c 2 : Int), .int .u64 (OW c 3 : Int)]] w fun e w' => e = .returned (.int .i64 (c.length : Int)) ∧ Below w.heap.size w w' := by
  obtain ⟨w2, hw2⟩ : ∃ w2, w.alloc (.cells #[.int .i64 (c.length : Int), .int .u64 (FW c 0 : Int), .int .u64 (FW c 1 : Int), .int .u64 (FW c 2 : Int), .int .u64 (FW c 3 : Int), .int .u64 (OW c 0 : Int), .int .u64 (OW c 1 : Int), .int .u64 (OW c 2 : Int), .int .u64 (OW c 3 : Int)] 34 (0, 0)) = w2 := ⟨_, rfl⟩
  have hA : w2.heap[w.heap.size]? = some (.cells #[.int .i64 (c.length : Int), .int .u64 (FW c 0 : Int), .int .u64 (FW c 1 : Int), .int .u64 (FW c 2 : Int), .int .u64 (FW c 3 : Int), .int .u64 (OW c 0 : Int), .int .u64 (OW c 1 : Int), .int .u64 (OW c 2 : Int), .int .u64 (OW c 3 : Int)] 34 (0, 0)) := by rw [← hw2]; exact alloc_get _ _
  have hB2 : Below w.heap.size w w2 := by rw [← hw2]; exact belA (Below.refl _ _) _
  obtain ⟨hcT, -⟩ := cells_block hA
  have hl : c.length ≤ 256 := by
    have := gc
    unfold good at this
    simp at this
    exact this.1
  have H1 : Calls Tryz.prog 37 #[.agg #[.int .i64 (c.length : Int), .int .u64 (FW c 0 : Int), .int .u64 (FW c 1 : Int), .int .u64 (FW c 2 : Int), .int .u64 (FW c 3 : Int), .int .u64 (OW c 0 : Int), .int .u64 (OW c 1 : Int), .int .u64 (OW c 2 : Int), .int .u64 (OW c 3 : Int)]] w2 fun e w' => e = .returned (.string ⟨c.toArray⟩) ∧ Below w2.heap.size w2 w' := text_any c w2 gc
  have h2 : (⟨c.toArray⟩ : ByteArray).size = c.length := by simp [ByteArray.size]
  clear hA
  go_enter Tryz.func26, Tryz.ntmps26
  go_wp2_with fail
  refine H1.mono ?_
  rintro e W1 ⟨rfl, hb1⟩
  go_wp2_with fail
  go_ret
  exact ⟨by simp, bel0 hB2 hb1⟩
theorem sbef_D (a b M : List UInt8) (q : Bool) (w : World) (ga : good a = true) (hM : beT a b = M) (hq : agB a b = q) : Calls Tryz.prog 28 #[.agg #[.int .i64 (a.length : Int), .int .u64 (FW a 0 : Int), .int .u64 (FW a 1 : Int), .int .u64 (FW a 2 : Int), .int .u64 (FW a 3 : Int), .int .u64 (OW a 0 : Int), .int .u64 (OW a 1 : Int), .int .u64 (OW a 2 : Int), .int .u64 (OW a 3 : Int)], .agg #[.int .i64 (b.length : Int), .int .u64 (FW b 0 : Int), .int .u64 (FW b 1 : Int), .int .u64 (FW b 2 : Int), .int .u64 (FW b 3 : Int), .int .u64 (OW b 0 : Int), .int .u64 (OW b 1 : Int), .int .u64 (OW b 2 : Int), .int .u64 (OW b 3 : Int)]] w fun e w' => e = .returned (.tuple #[.agg #[.int .i64 (M.length : Int), .int .u64 (FW M 0 : Int), .int .u64 (FW M 1 : Int), .int .u64 (FW M 2 : Int), .int .u64 (FW M 3 : Int), .int .u64 (OW M 0 : Int), .int .u64 (OW M 1 : Int), .int .u64 (OW M 2 : Int), .int .u64 (OW M 3 : Int)], .bool q]) ∧ Below w.heap.size w w' := by
  subst hM hq
  exact before_any a b w ga
set_option maxRecDepth 100000 in
set_option maxHeartbeats 4000000 in
theorem allBefore_any (r : List UInt8) (L : List (List UInt8)) (n : Nat) (p : Option Addr) (cp : Nat) (w : World) (hn : L.length = n) (hN : n ≤ 1000) (gL : ∀ x ∈ L, good x = true) (hr : IRC w p L) :
    Calls Tryz.prog 29 #[.slice p n cp, .agg #[.int .i64 (r.length : Int), .int .u64 (FW r 0 : Int), .int .u64 (FW r 1 : Int), .int .u64 (FW r 2 : Int), .int .u64 (FW r 3 : Int), .int .u64 (OW r 0 : Int), .int .u64 (OW r 1 : Int), .int .u64 (OW r 2 : Int), .int .u64 (OW r 3 : Int)]] w fun e w' => ∃ v, e = .returned v ∧ w'.ownsRow w.heap.size 34 9 v (bfL r L).length (ces (bfL r L)) ∧ Below w.heap.size w w' := by
  obtain ⟨i0, hi, hz0, hz1, hz2⟩ := info_parts info_cubeQ
  obtain ⟨w2, hw2⟩ : ∃ w2, w.alloc (.cells #[.int .i64 (r.length : Int), .int .u64 (FW r 0 : Int), .int .u64 (FW r 1 : Int), .int .u64 (FW r 2 : Int), .int .u64 (FW r 3 : Int), .int .u64 (OW r 0 : Int), .int .u64 (OW r 1 : Int), .int .u64 (OW r 2 : Int), .int .u64 (OW r 3 : Int)] 34 (0, 0)) = w2 := ⟨_, rfl⟩
  have hA : w2.heap[w.heap.size]? = some (.cells #[.int .i64 (r.length : Int), .int .u64 (FW r 0 : Int), .int .u64 (FW r 1 : Int), .int .u64 (FW r 2 : Int), .int .u64 (FW r 3 : Int), .int .u64 (OW r 0 : Int), .int .u64 (OW r 1 : Int), .int .u64 (OW r 2 : Int), .int .u64 (OW r 3 : Int)] 34 (0, 0)) := by rw [← hw2]; exact alloc_get _ _
  have hB2 : Below w.heap.size w w2 := by rw [← hw2]; exact belA (Below.refl _ _) _
  have HA : Hid (w2.heap[w.heap.size]? = some (.cells #[.int .i64 (r.length : Int), .int .u64 (FW r 0 : Int), .int .u64 (FW r 1 : Int), .int .u64 (FW r 2 : Int), .int .u64 (FW r 3 : Int), .int .u64 (OW r 0 : Int), .int .u64 (OW r 1 : Int), .int .u64 (OW r 2 : Int), .int .u64 (OW r 3 : Int)] 34 (0, 0)) ∧ Below w.heap.size w w2) := ⟨hA, hB2⟩
  have HR : Hid (IRC w2 p L) := hr.later hB2
  have HN : Hid (L.length = n) := hn
  have HG : Hid (∀ x ∈ L, good x = true) := gL
  clear hA hB2 hr hn gL
  go_enter Tryz.func29, Tryz.ntmps29
  go_wp2_with (at_make; refine wpList_make_own _ rfl _ _ 60 rfl w2.heap.size 34 i0 _ 9 Tryz.underlying60 hi hz0 hz1 .i64 .i64 _ n rfl rfl rfl (by rw [hz2]; omega) (by unfold maxLen; omega) (by first | exact Nat.le_refl _ | (rw [← hw2]; exact Nat.le_refl _)) ?_; intro w3 o3 g3)
  have HS0 : Hid (w3.ownsRow w2.heap.size 34 9 (.slice (some ⟨w2.heap.size, 0, none⟩) 0 n) (bfL r (L.take 0)).length (ces (bfL r (L.take 0))) ∧ Below w2.heap.size w2 w3) := by
    refine ⟨?_, (Below.refl _ _).grown g3 (Nat.le_refl _) (fun b e => by cases e)⟩
    simpa [bfL, ces] using o3
  clear hw2 o3 g3
  go_loopw [5, 15] (fun v5 v15 wr => ∃ k : Nat, v15 = .int .i64 (k : Int) ∧ k ≤ n ∧ Hid (wr.ownsRow w2.heap.size 34 9 v5 (bfL r (L.take k)).length (ces (bfL r (L.take k))) ∧ Below w2.heap.size w2 wr)) (fun _ v15 _ => n - (intOf v15).toNat)
  case atStart => exact ⟨0, rfl, Nat.zero_le _, HS0⟩
  case round =>
    clear HS0
    obtain ⟨k, rfl, hk, hS⟩ := hrel
    by_cases hlt : k < n
    · have j1 : (k : Int) < (n : Int) := by omega
      have j0 : (0 : Int) ≤ (k : Int) := by omega
      obtain ⟨x, hx⟩ : ∃ x, L[k]? = some x := ⟨_, List.getElem?_eq_getElem (by rw [HN.out]; exact hlt)⟩
      obtain ⟨gq, oq, rfl, p0, p1, p2, p3, p4, p5, p6, p7, p8⟩ := HR.out wr hS.out.2 k x hx
      have gx : good x = true := HG.out x (List.mem_of_getElem? hx)
      have hst := bfL_step (r := r) hx
      have hlm : (bfL r (L.take k)).length ≤ 1000 := by
        have h1 := bfL_len r (L.take k)
        rw [List.length_take] at h1
        omega
      obtain ⟨Lj, hLj⟩ : ∃ l, bfL r (L.take k) = l := ⟨_, rfl⟩
      rw [hLj] at hst hlm
      have hSo := hS.out
      rw [hLj] at hSo
      obtain ⟨wa, hwa⟩ : ∃ wa, wr.alloc (.cells #[.int .i64 (x.length : Int), .int .u64 (FW x 0 : Int), .int .u64 (FW x 1 : Int), .int .u64 (FW x 2 : Int), .int .u64 (FW x 3 : Int), .int .u64 (OW x 0 : Int), .int .u64 (OW x 1 : Int), .int .u64 (OW x 2 : Int), .int .u64 (OW x 3 : Int)] 34 (0, 0)) = wa := ⟨_, rfl⟩
      have hal : Below wr.heap.size wr wa := by rw [← hwa]; exact belA (Below.refl _ _) _
      have hBa := bel0 hSo.2 hal
      obtain ⟨d0, d1, d2, d3, d4, d5, d6, d7, d8⟩ : CB wa wr.heap.size 0 x := CB_of (by rw [← hwa]; exact alloc_get _ _)
      obtain ⟨e0, e1, e2, e3, e4, e5, e6, e7, e8⟩ : CB wa w.heap.size 0 r := CB_of (keepblk3 hBa HA.out.1)
      obtain ⟨D, hD⟩ : ∃ D, beT x r = D := ⟨_, rfl⟩
      obtain ⟨q, hq⟩ : ∃ q, agB x r = q := ⟨_, rfl⟩
      have HMM : Hid (Calls Tryz.prog 28 #[.agg #[.int .i64 (x.length : Int), .int .u64 (FW x 0 : Int), .int .u64 (FW x 1 : Int), .int .u64 (FW x 2 : Int), .int .u64 (FW x 3 : Int), .int .u64 (OW x 0 : Int), .int .u64 (OW x 1 : Int), .int .u64 (OW x 2 : Int), .int .u64 (OW x 3 : Int)], .agg #[.int .i64 (r.length : Int), .int .u64 (FW r 0 : Int), .int .u64 (FW r 1 : Int), .int .u64 (FW r 2 : Int), .int .u64 (FW r 3 : Int), .int .u64 (OW r 0 : Int), .int .u64 (OW r 1 : Int), .int .u64 (OW r 2 : Int), .int .u64 (OW r 3 : Int)]] wa fun e w' => e = .returned (.tuple #[.agg #[.int .i64 (D.length : Int), .int .u64 (FW D 0 : Int), .int .u64 (FW D 1 : Int), .int .u64 (FW D 2 : Int), .int .u64 (FW D 3 : Int), .int .u64 (OW D 0 : Int), .int .u64 (OW D 1 : Int), .int .u64 (OW D 2 : Int), .int .u64 (OW D 3 : Int)], .bool q]) ∧ Below wa.heap.size wa w') := sbef_D x r D q wa gx hD hq
      rw [hD, hq] at hst
      have HST : Hid (bfL r (L.take (k + 1)) = Lj ++ (if q = true then [D] else []) ∧ Below w2.heap.size w2 wa ∧ wa.ownsRow w2.heap.size 34 9 u5 Lj.length (ces Lj)) := ⟨hst, hBa, own_belQ hSo.1 hal⟩
      clear hx gx hst hLj hS hSo hD hq hal hBa
      go_wp2_with fail
      refine HMM.out.mono ?_
      rintro e W1 ⟨rfl, hb1⟩
      clear HMM hwa d0 d1 d2 d3 d4 d5 d6 d7 d8 e0 e1 e2 e3 e4 e5 e6 e7 e8 p0 p1 p2 p3 p4 p5 p6 p7 p8
      have hB1 := bel0 HST.out.2.1 hb1
      have o1 : W1.ownsRow w2.heap.size 34 9 u5 Lj.length (ces Lj) := own_belQ HST.out.2.2 hb1
      cases q with
      | false =>
        have HE : Hid ((W1.alloc (.cells #[.int .i64 (D.length : Int), .int .u64 (FW D 0 : Int), .int .u64 (FW D 1 : Int), .int .u64 (FW D 2 : Int), .int .u64 (FW D 3 : Int), .int .u64 (OW D 0 : Int), .int .u64 (OW D 1 : Int), .int .u64 (OW D 2 : Int), .int .u64 (OW D 3 : Int)] 34 (0, 0))).ownsRow w2.heap.size 34 9 u5 (bfL r (L.take (k + 1))).length (ces (bfL r (L.take (k + 1)))) ∧ Below w2.heap.size w2 (W1.alloc (.cells #[.int .i64 (D.length : Int), .int .u64 (FW D 0 : Int), .int .u64 (FW D 1 : Int), .int .u64 (FW D 2 : Int), .int .u64 (FW D 3 : Int), .int .u64 (OW D 0 : Int), .int .u64 (OW D 1 : Int), .int .u64 (OW D 2 : Int), .int .u64 (OW D 3 : Int)] 34 (0, 0)))) := by
          unfold Hid
          rw [HST.out.1, if_neg (by simp), List.append_nil]
          exact ⟨o1.alloc _, belA hB1 _⟩
        clear o1 hB1 hb1
        go_wp2_with fail
        go_roundw
        case rel => exact ⟨k + 1, by go_num, by omega, HE⟩
        case measure => simp [intOf]; omega
      | true =>
        obtain ⟨W9, hW9⟩ : ∃ W9, W1.alloc (.cells #[.int .i64 (D.length : Int), .int .u64 (FW D 0 : Int), .int .u64 (FW D 1 : Int), .int .u64 (FW D 2 : Int), .int .u64 (FW D 3 : Int), .int .u64 (OW D 0 : Int), .int .u64 (OW D 1 : Int), .int .u64 (OW D 2 : Int), .int .u64 (OW D 3 : Int)] 34 (0, 0)) = W9 := ⟨_, rfl⟩
        have hB9 : Below w2.heap.size w2 W9 := by rw [← hW9]; exact belA hB1 _
        have o9 : W9.ownsRow w2.heap.size 34 9 u5 Lj.length (ces Lj) := by rw [← hW9]; exact o1.alloc _
        obtain ⟨d0, d1, d2, d3, d4, d5, d6, d7, d8⟩ : CB W9 W1.heap.size 0 D := CB_of (by rw [← hW9]; exact alloc_get _ _)
        have hs9 := hB9.size
        clear o1 hB1 hb1
        go_wp2_with (at_builtin; refine wpList_append_own _ rfl _ _ 60 rfl w2.heap.size 34 i0 _ 9 72 Tryz.underlying60 hi hz0 hz1 hz2 rfl (by decide) _ _ _ rfl (o9.alloc _) ⟨_, 0, none⟩ 1 1 (ce9 D) rfl rfl (World.news_of_block (cs := #[.int .i64 (D.length : Int), .int .u64 (FW D 0 : Int), .int .u64 (FW D 1 : Int), .int .u64 (FW D 2 : Int), .int .u64 (FW D 3 : Int), .int .u64 (OW D 0 : Int), .int .u64 (OW D 1 : Int), .int .u64 (OW D 2 : Int), .int .u64 (OW D 3 : Int)]) (t := 34) (fr := (0, 0)) (alloc_get _ _)) (by simp [ce9, Value.oneCell']) (by unfold maxLen; omega) (by omega) (by simp; omega) ?_; intro v4 w4 o4 g4 _)
        have HE : Hid (w4.ownsRow w2.heap.size 34 9 v4 (bfL r (L.take (k + 1))).length (ces (bfL r (L.take (k + 1)))) ∧ Below w2.heap.size w2 w4) := by
          unfold Hid
          rw [HST.out.1, if_pos (by first | rfl | trivial), List.length_append, ces_snoc]
          exact ⟨o4, (belA hB9 _).grown g4 (by simp; omega) (fun b e => (o9.lt b e).1)⟩
        clear o9 o4 g4
        go_wp2_with fail
        go_roundw
        case rel => exact ⟨k + 1, by go_num, by omega, HE⟩
        case measure => simp [intOf]; omega
    · have j1 : ¬ (k : Int) < (n : Int) := by omega
      obtain rfl : k = n := by omega
      have HF : Hid (wr.ownsRow w.heap.size 34 9 u5 (bfL r L).length (ces (bfL r L)) ∧ Below w.heap.size w wr) := by
        have h := hS.out
        rw [List.take_of_length_le (by rw [HN.out]; exact Nat.le_refl _)] at h
        exact ⟨own_base h.1 HA.out.2.size, bel0 HA.out.2 h.2⟩
      clear hS
      go_wp2_with fail
      go_ret
      exact ⟨_, rfl, HF.out⟩
end Go.Proofs.YtekjbpemaohipaaGreatDoor
