import Derived.Test.YtmdnapognaddbaaGreatDoorXBC
namespace Go.Proofs.YtmdnapognaddbaaGreatDoor
open Go.RowKit
set_option maxRecDepth 100000 in
set_option maxHeartbeats 8000000 in
theorem down_nil {A : List (List UInt8)} {X : Nat → Prop} {J : List (List UInt8) → Option Nat → World → Prop} {Jx : World → Prop} {N0 l m nb bm K : Nat} {room : Int} (hJ : JY X N0 J) (hY : YLD A X J Jx l m nb) (hbm : N0 ≤ bm) (hK : K ≤ 100000)
    (c : List UInt8) (M : Nat → Nat) (o : List (List UInt8)) (r : Option Nat) (p : Option Addr) (k : Nat) (W : World) (gc : good c = true) (hc : c.length = nb) (h : J o r W) (hm : MET W bm K M) (hr : some bm ≠ r) (hNK : 0 < K) (hM4 : M 0 ≤ 4096) (hol : o.length ≤ 8192) (hpa : (o ++ [c]) <+: A) :
    Calls Tryz.prog 53 #[.agg #[.int .i64 room, .slice (some ⟨bm, 0, none⟩) K K, .func (.yield l) #[] #[]], .agg #[.int .i64 (c.length : Int), .int .u64 (FW c 0 : Int), .int .u64 (FW c 1 : Int), .int .u64 (FW c 2 : Int), .int .u64 (FW c 3 : Int), .int .u64 (OW c 0 : Int), .int .u64 (OW c 1 : Int), .int .u64 (OW c 2 : Int), .int .u64 (OW c 3 : Int)], .slice p 0 k] W (DP X J Jx bm K room M c [] o r W) := by
  have HC : Hid (c.length = nb ∧ good c = true ∧ o.length ≤ 8192) := ⟨hc, gc, hol⟩
  have HPA : Hid ((o ++ [c]) <+: A) := hpa
  clear hc gc hol hpa
  obtain ⟨w2, hw2⟩ : ∃ w2, (W.alloc (.cells #[.int .i64 room, .slice (some ⟨bm, 0, none⟩) K K, .func (.yield l) #[] #[]] 99 (0, 0))).alloc (.cells #[.int .i64 (c.length : Int), .int .u64 (FW c 0 : Int), .int .u64 (FW c 1 : Int), .int .u64 (FW c 2 : Int), .int .u64 (FW c 3 : Int), .int .u64 (OW c 0 : Int), .int .u64 (OW c 1 : Int), .int .u64 (OW c 2 : Int), .int .u64 (OW c 3 : Int)] 40 (0, 0)) = w2 := ⟨_, rfl⟩
  have b3 : w2.heap[W.heap.size]? = some (.cells #[.int .i64 room, .slice (some ⟨bm, 0, none⟩) K K, .func (.yield l) #[] #[]] 99 (0, 0)) := by rw [← hw2]; exact alw_0 _ _ _
  have b4 : w2.heap[W.heap.size + 1]? = some (.cells #[.int .i64 (c.length : Int), .int .u64 (FW c 0 : Int), .int .u64 (FW c 1 : Int), .int .u64 (FW c 2 : Int), .int .u64 (FW c 3 : Int), .int .u64 (OW c 0 : Int), .int .u64 (OW c 1 : Int), .int .u64 (OW c 2 : Int), .int .u64 (OW c 3 : Int)] 40 (0, 0)) := by rw [← hw2]; exact alw_1 _ _ _
  have hB2 : Below W.heap.size W w2 := by rw [← hw2]; exact belA (belA (Below.refl _ _) _) _
  have hm2 : MET w2 bm K M := keepblk3 hB2 hm
  have hbm2 : bm < W.heap.size := lt_of_get3 hm
  obtain ⟨w3, hw3⟩ : ∃ w3, w2.setCell ⟨bm, 0, none⟩ (.int .i64 ((M 0 : Nat) + 1 : Int)) = w3 := ⟨_, rfl⟩
  have hm3 : MET w3 bm K (cntD M 0) := by rw [← hw3]; exact hm2.put hNK
  have hy3 : YK (XB X bm) r W r w3 := by rw [← hw3]; exact (YK.below hB2).trans (YK.set _ _ _ (.inr rfl))
  have hj3 : J o r w3 := by rw [← hw3]; exact hJ.set _ _ _ _ _ _ (hJ.below _ _ _ _ h hB2) hbm hr
  have b33 : w3.heap[W.heap.size]? = some (.cells #[.int .i64 room, .slice (some ⟨bm, 0, none⟩) K K, .func (.yield l) #[] #[]] 99 (0, 0)) := by rw [← hw3]; exact (Below.heap_setCell _ _ _ _ (by show W.heap.size ≠ bm; omega)).trans b3
  have b43 : w3.heap[W.heap.size + 1]? = some (.cells #[.int .i64 (c.length : Int), .int .u64 (FW c 0 : Int), .int .u64 (FW c 1 : Int), .int .u64 (FW c 2 : Int), .int .u64 (FW c 3 : Int), .int .u64 (OW c 0 : Int), .int .u64 (OW c 1 : Int), .int .u64 (OW c 2 : Int), .int .u64 (OW c 3 : Int)] 40 (0, 0)) := by rw [← hw3]; exact (Below.heap_setCell _ _ _ _ (by show W.heap.size + 1 ≠ bm; omega)).trans b4
  obtain ⟨hc3, -⟩ := cells_block b3
  obtain ⟨hmc, hmf⟩ := hm2.cell hNK
  obtain ⟨m0, hm0⟩ : ∃ m0, M 0 = m0 := ⟨_, rfl⟩
  rw [hm0] at hmc hw3
  have hm4 : m0 ≤ 4096 := by rw [← hm0]; exact hM4
  have HH : Hid (MET w3 bm K (cntD M 0) ∧ YK (XB X bm) r W r w3 ∧ J o r w3 ∧ w3.heap[W.heap.size]? = some (.cells #[.int .i64 room, .slice (some ⟨bm, 0, none⟩) K K, .func (.yield l) #[] #[]] 99 (0, 0)) ∧ w3.heap[W.heap.size + 1]? = some (.cells #[.int .i64 (c.length : Int), .int .u64 (FW c 0 : Int), .int .u64 (FW c 1 : Int), .int .u64 (FW c 2 : Int), .int .u64 (FW c 3 : Int), .int .u64 (OW c 0 : Int), .int .u64 (OW c 1 : Int), .int .u64 (OW c 2 : Int), .int .u64 (OW c 3 : Int)] 40 (0, 0)) ∧ M 0 = m0 ∧ bm < W.heap.size ∧ 0 < K) := ⟨hm3, hy3, hj3, b33, b43, hm0, hbm2, hNK⟩
  clear hm3 hy3 hj3 b33 b43 b3 b4 hB2 hm2 hm hm0 hM4 h
  have jk : (0 : Int) < (K : Int) := by omega
  go_enter Tryz.func53, Tryz.ntmps53
  go_upto_region 2 with fail
  clear hw2 hc3 hmc hmf
  have hs0 : (∀ j, w3.drew.cell? ⟨W.heap.size, j, none⟩ = (#[.int .i64 room, .slice (some ⟨bm, 0, none⟩) K K, .func (.yield l) #[] #[]] : Array Value)[j]?) ∧ w3.drew.cell? ⟨bm, 0, none⟩ = some (.int .i64 ((m0 : Int) + 1)) := by
    refine ⟨(cells_block HH.out.2.2.2.1).1, ?_⟩
    have := (HH.out.1.cell HH.out.2.2.2.2.2.2.2).1
    unfold cntD at this
    rw [if_pos rfl, HH.out.2.2.2.2.2.1] at this
    exact this
  refine wp_region_held_drew (S := fun V => (∀ j, V.cell? ⟨W.heap.size, j, none⟩ = (#[.int .i64 room, .slice (some ⟨bm, 0, none⟩) K K, .func (.yield l) #[] #[]] : Array Value)[j]?) ∧ V.cell? ⟨bm, 0, none⟩ = some (.int .i64 ((m0 : Int) + 1))) (by kernel_rfl) hs0 (fun _ => ?_)
  refine wpAnyH_take (i := 0) (v := .pointer (some ⟨W.heap.size, 1, none⟩)) rfl (by kernel_rfl) (by kernel_rfl) (by kernel_rfl) (fun _ _ _ h => h) (Or.inl ⟨by rfl, ?_⟩) hs0 ?_
  · rintro w ⟨s1, s2⟩; go_simp
  refine wpAnyH_take (i := 1) (v := .slice (some ⟨bm, 0, none⟩) K K) rfl (by kernel_rfl) (by kernel_rfl) (by kernel_rfl) (fun _ _ _ h => h) (Or.inl ⟨by rfl, ?_⟩) hs0 ?_
  · rintro w ⟨s1, s2⟩; go_simp
  refine wpAnyH_take (i := 2) (v := .slice p 0 k) rfl (by kernel_rfl) (by kernel_rfl) (by kernel_rfl) (fun _ _ _ h => h) (Or.inl ⟨by rfl, ?_⟩) hs0 ?_
  · rintro w ⟨s1, s2⟩; go_simp
  refine wpAnyH_take (i := 3) (v := .int .i64 (0 : Int)) rfl (by kernel_rfl) (by kernel_rfl) (by kernel_rfl) (fun _ _ _ h => h) (Or.inl ⟨by rfl, ?_⟩) hs0 ?_
  · rintro w ⟨s1, s2⟩; go_simp
  refine wpAnyH_take (i := 4) (v := .pointer (some ⟨bm, 0, none⟩)) rfl (by kernel_rfl) (by kernel_rfl) (by kernel_rfl) (fun _ _ _ h => h) (Or.inl ⟨by rfl, ?_⟩) hs0 ?_
  · rintro w ⟨s1, s2⟩; go_simp
  refine wpAnyH_take (i := 5) (v := .int .i64 ((m0 : Int) + 1)) rfl (by kernel_rfl) (by kernel_rfl) (by kernel_rfl) (fun _ _ _ h => h) (Or.inl ⟨by rfl, ?_⟩) hs0 ?_
  · rintro w ⟨s1, s2⟩; go_simp
  refine wpAnyH_take (i := 6) (v := .pointer (some ⟨W.heap.size, 0, none⟩)) rfl (by kernel_rfl) (by kernel_rfl) (by kernel_rfl) (fun _ _ _ h => h) (Or.inl ⟨by rfl, ?_⟩) hs0 ?_
  · rintro w ⟨s1, s2⟩; go_simp
  refine wpAnyH_take (i := 7) (v := .int .i64 room) rfl (by kernel_rfl) (by kernel_rfl) (by kernel_rfl) (fun _ _ _ h => h) (Or.inl ⟨by rfl, ?_⟩) hs0 ?_
  · rintro w ⟨s1, s2⟩; go_simp
  refine wpAnyH_ready (rs := [8]) (by kernel_rfl) (by simp) ?_
  refine AllReadyH.cons rfl (fun KK hKK => ?_) AllReadyH.nil
  go_simp
  by_cases hro : (m0 : Int) + 1 ≤ room
  · refine (spend_ok _ _ _ hro).mono ?_
    rintro e w4 ⟨rfl, rfl⟩
    go_simp
    refine hKK.out _ _ hs0 (fun _ => ?_)
    clear hKK KK
    refine wpAnyH_done (by kernel_rfl) ?_ _
    go_upto_region 4 with fail
    have hj4 : J o r w3.drew := hJ.below _ _ _ _ HH.out.2.2.1 (Below.refl _ _).drew
    have hc3 : ∀ j, w3.drew.cell? ⟨W.heap.size, j, none⟩ = (#[.int .i64 room, .slice (some ⟨bm, 0, none⟩) K K, .func (.yield l) #[] #[]] : Array Value)[j]? := hs0.1
    have hc4 : ∀ j, w3.drew.cell? ⟨W.heap.size + 1, j, none⟩ = (#[.int .i64 (c.length : Int), .int .u64 (FW c 0 : Int), .int .u64 (FW c 1 : Int), .int .u64 (FW c 2 : Int), .int .u64 (FW c 3 : Int), .int .u64 (OW c 0 : Int), .int .u64 (OW c 1 : Int), .int .u64 (OW c 2 : Int), .int .u64 (OW c 3 : Int)] : Array Value)[j]? := (cells_block HH.out.2.2.2.2.1).1
    obtain ⟨fn, tmps, assign, body, hy, hR⟩ := hY o r w3.drew c hj4 HC.out.2.2 HC.out.2.1 HC.out.1 HPA.out
    clear hs0
    refine (wpIn_wide (n := m + 1)).1 ?_
    gi_wp2
    refine hR.mono ?_
    rintro e W3 ⟨r', hyk, ⟨rfl, hj'⟩ | ⟨rfl, hx⟩⟩
    all_goals have hbr : some bm ≠ r' := (hyk.2 bm (lt_of_get3 (show w3.drew.heap[bm]? = _ from HH.out.1)) (fun hb => by have := hJ.low _ hb; omega) hr).2
    all_goals have hyy : YK (XB X bm) r W r' W3 := (HH.out.2.1.trans (YK.below (Below.refl _ _).drew)).trans (hyk.wider (fun _ h => .inl h))
    · have hmf : MET W3 bm K (fun j => M j + lvl splT [c] [] j) := (show MET W3 bm K (cntD M 0) from hyk.blk (W := w3.drew) HH.out.1 (fun hb => by have := hJ.low _ hb; omega) hr).cong (cnt_nil M c)
      have hdk : dok splT room M [c] [] := dok_nil.2 (by rw [HH.out.2.2.2.2.2.1]; exact hro)
      have HZ : Hid (DP X J Jx bm K room M c [] o r W (.returned (.bool true)) W3) := .inl ⟨true, r', rfl, hbr, hyy, .inl ⟨rfl, hdk, hj', hmf⟩⟩
      clear hmf hyy hdk hyk hj' hR hy hc3 hc4 hj4
      gi_wp2
      go_wp2_with fail
      go_ret
      exact HZ.out
    · have HZ : Hid (DP X J Jx bm K room M c [] o r W (.returned (.bool false)) W3) := .inl ⟨false, r', rfl, hbr, hyy, .inr ⟨rfl, hx⟩⟩
      clear hR hy hc3 hc4 hj4
      gi_wp2
      go_wp2_with fail
      go_ret
      exact HZ.out
  · refine (spend_over _ _ _ (by omega)).mono ?_
    rintro e w4 ⟨rfl, rfl⟩
    refine ⟨rfl, .inr ⟨rfl, fun hd => hro ?_, o, r, hJ.below _ _ _ _ HH.out.2.2.1 (Below.refl _ _).drew⟩⟩
    rw [← HH.out.2.2.2.2.2.1]
    exact dok_nil.1 hd
end Go.Proofs.YtmdnapognaddbaaGreatDoor
