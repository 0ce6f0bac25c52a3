import Derived.Test.YtecgjlpmmailjaaGreatDoorXAH
namespace Go.Proofs.YtecgjlpmmailjaaGreatDoor
open Go.RowKit
set_option maxRecDepth 100000 in
set_option maxHeartbeats 16000000 in
theorem down_cons {A : List (List UInt8)} {X : Nat → Prop} {J : List (List UInt8) → Option Nat → World → Prop} {Jx : World → Prop} {N0 l nb bm K nf : Nat} {room : Int} (hJ : JY X N0 J) (hbm : N0 ≤ bm) (_hK : K ≤ 100000) (d : List UInt8) (L : List (List UInt8)) (hgd : gdW nb (d :: L)) (hNK0 : L.length + 1 < K) (ih : DWN A X J Jx nb l bm K nf room L) : DWN A X J Jx nb l bm K nf room (d :: L) := by
  intro c M o r p k W gc hc h hm hr hMr hrm hrc hk hol hpa
  obtain ⟨g, o0, rfl, hcb, hgx, hgr⟩ := hrc 0 d rfl
  rw [Nat.zero_mul, Nat.add_zero] at hcb
  obtain ⟨N, hN⟩ : ∃ N, (d :: L).length = N := ⟨_, rfl⟩
  obtain ⟨n1, hn1⟩ : ∃ n, N - 1 = n := ⟨_, rfl⟩
  have hN1 : L.length + 1 = N := hN
  have hM4 : M N ≤ 4096 := few_of hMr hrm N (by omega)
  rw [hN] at hMr hk ⊢
  have hNK : N < K := by omega
  obtain ⟨P, hP⟩ : ∃ P, splT c d = P := ⟨_, rfl⟩
  obtain ⟨n5, hn5⟩ : ∃ n, P.length = n := ⟨_, rfl⟩
  have gd := hgd d List.mem_cons_self
  have hPl : n5 ≤ 256 := by rw [← hn5, ← hP]; exact spl_len c d (good_len gc)
  have HN : Hid (L.length < N ∧ L.length + 1 = N ∧ L.length + 1 ≤ k ∧ n1 = L.length) := ⟨by omega, hN1, by omega, by omega⟩
  have HP : Hid (splT c d = P ∧ P.length = n5 ∧ (∀ x ∈ P, good x = true ∧ x.length = nb)) := ⟨hP, hn5, fun x hx => by
    rw [← hP] at hx
    exact ⟨good_spl c d (by omega) gc gd.1 x hx, (spl_wide c d (by omega) x hx).trans hc⟩⟩
  have HJ : Hid (J o r W) := h
  have HPA : Hid ((o ++ exT splT P L) <+: A) := by
    rw [exT_cons, hP] at hpa
    exact hpa
  clear hpa
  have HOL : Hid (o.length ≤ nf + M 0) := hol
  have HMR : Hid ((∀ j, j ≤ N → ((M j : Nat) : Int) ≤ room) ∧ (room ≤ 4096 ∨ dok splT 4096 M [c] (d :: L))) := ⟨hMr, hrm⟩
  have HIH0 : Hid (DWN A X J Jx nb l bm K nf room L) := ih
  have HSP : Hid (∀ V, Calls Tryz.prog 52 #[.agg #[.int .i64 (c.length : Int), .int .u64 (FW c 0 : Int), .int .u64 (FW c 1 : Int), .int .u64 (FW c 2 : Int), .int .u64 (FW c 3 : Int), .int .u64 (OW c 0 : Int), .int .u64 (OW c 1 : Int), .int .u64 (OW c 2 : Int), .int .u64 (OW c 3 : Int)], .agg #[.int .i64 (d.length : Int), .int .u64 (FW d 0 : Int), .int .u64 (FW d 1 : Int), .int .u64 (FW d 2 : Int), .int .u64 (FW d 3 : Int), .int .u64 (OW d 0 : Int), .int .u64 (OW d 1 : Int), .int .u64 (OW d 2 : Int), .int .u64 (OW d 3 : Int)]] V fun e w' => ∃ v, e = .returned v ∧ w'.ownsRow V.heap.size 58 9 v n5 (ces P) ∧ Below V.heap.size V w') := fun V => by
    have := split_any c d P V gc gd.1 hP
    rw [hn5] at this
    exact this
  obtain ⟨w2, hw2⟩ : ∃ w2, (W.alloc (.cells #[.int .i64 room, .slice (some ⟨bm, 0, none⟩) K K, .func (.yield l) #[] #[]] 84 (0, 0))).alloc (.cells #[.int .i64 (c.length : Int), .int .u64 (FW c 0 : Int), .int .u64 (FW c 1 : Int), .int .u64 (FW c 2 : Int), .int .u64 (FW c 3 : Int), .int .u64 (OW c 0 : Int), .int .u64 (OW c 1 : Int), .int .u64 (OW c 2 : Int), .int .u64 (OW c 3 : Int)] 58 (0, 0)) = w2 := ⟨_, rfl⟩
  have b3 : w2.heap[W.heap.size]? = some (.cells #[.int .i64 room, .slice (some ⟨bm, 0, none⟩) K K, .func (.yield l) #[] #[]] 84 (0, 0)) := by rw [← hw2]; exact alw_0 _ _ _
  have b4 : w2.heap[W.heap.size + 1]? = some (.cells #[.int .i64 (c.length : Int), .int .u64 (FW c 0 : Int), .int .u64 (FW c 1 : Int), .int .u64 (FW c 2 : Int), .int .u64 (FW c 3 : Int), .int .u64 (OW c 0 : Int), .int .u64 (OW c 1 : Int), .int .u64 (OW c 2 : Int), .int .u64 (OW c 3 : Int)] 58 (0, 0)) := by rw [← hw2]; exact alw_1 _ _ _
  have hB2 : Below W.heap.size W w2 := by rw [← hw2]; exact belA (belA (Below.refl _ _) _) _
  have hm2 : MET w2 bm K M := keepblk3 hB2 hm
  have hbm2 : bm < W.heap.size := lt_of_get3 hm
  obtain ⟨w3, hw3⟩ : ∃ w3, w2.setCell ⟨bm, N, none⟩ (.int .i64 ((M N : Nat) + 1 : Int)) = w3 := ⟨_, rfl⟩
  have hm3 : MET w3 bm K (cntD M N) := by rw [← hw3]; exact hm2.put hNK
  have hy3 : YK (XB X bm) r W r w3 := by rw [← hw3]; exact (YK.below hB2).trans (YK.set _ _ _ (.inr rfl))
  have hj3 : J o r w3 := by rw [← hw3]; exact hJ.set _ _ _ _ _ _ (hJ.below _ _ _ _ h hB2) hbm hr
  have b33 : w3.heap[W.heap.size]? = some (.cells #[.int .i64 room, .slice (some ⟨bm, 0, none⟩) K K, .func (.yield l) #[] #[]] 84 (0, 0)) := by rw [← hw3]; exact (Below.heap_setCell _ _ _ _ (by show W.heap.size ≠ bm; omega)).trans b3
  have b43 : w3.heap[W.heap.size + 1]? = some (.cells #[.int .i64 (c.length : Int), .int .u64 (FW c 0 : Int), .int .u64 (FW c 1 : Int), .int .u64 (FW c 2 : Int), .int .u64 (FW c 3 : Int), .int .u64 (OW c 0 : Int), .int .u64 (OW c 1 : Int), .int .u64 (OW c 2 : Int), .int .u64 (OW c 3 : Int)] 58 (0, 0)) := by rw [← hw3]; exact (Below.heap_setCell _ _ _ _ (by show W.heap.size + 1 ≠ bm; omega)).trans b4
  obtain ⟨hc3, -⟩ := cells_block b3
  obtain ⟨hmc, hmf⟩ := hm2.cell hNK
  obtain ⟨m0, hm0⟩ : ∃ m0, M N = m0 := ⟨_, rfl⟩
  rw [hm0] at hmc hw3
  have hm4 : m0 ≤ 4096 := by rw [← hm0]; exact hM4
  have HH : Hid (MET w3 bm K (cntD M N) ∧ YK (XB X bm) r W r w3 ∧ J o r w3 ∧ w3.heap[W.heap.size]? = some (.cells #[.int .i64 room, .slice (some ⟨bm, 0, none⟩) K K, .func (.yield l) #[] #[]] 84 (0, 0)) ∧ w3.heap[W.heap.size + 1]? = some (.cells #[.int .i64 (c.length : Int), .int .u64 (FW c 0 : Int), .int .u64 (FW c 1 : Int), .int .u64 (FW c 2 : Int), .int .u64 (FW c 3 : Int), .int .u64 (OW c 0 : Int), .int .u64 (OW c 1 : Int), .int .u64 (OW c 2 : Int), .int .u64 (OW c 3 : Int)] 58 (0, 0)) ∧ M N = m0 ∧ bm < W.heap.size ∧ N < K) := ⟨hm3, hy3, hj3, b33, b43, hm0, hbm2, hNK⟩
  clear hm3 hy3 hj3 b33 b43 b3 b4 hB2 hm2 hm hm0 hM4 h
  have HD : Hid (CB w3 g o0 d ∧ RC W (XB X bm) r (some ⟨g, o0, none⟩) (d :: L) ∧ some bm ≠ r) := ⟨hcb.same ((HH.out.2.1.2 g (World.block_lt_of_cell? W _ hcb.1) hgx hgr).1), hrc, hr⟩
  have jk : (N : Int) < (K : Int) := by omega
  have j0 : (0 : Int) ≤ (N : Int) := by omega
  have j1 : (0 : Int) < (N : Int) := by omega
  have j2 : (1 : Int) ≤ (N : Int) := by omega
  have jq : ((N : Int) == 0) = false := by
    have : ¬ (N : Int) = 0 := by omega
    simpa using this
  have jkk : (N : Int) ≤ (k : Int) := by omega
  have jz : ¬ N = 0 := by omega
  clear hcb hgx hgr hrc hrm hMr hc gc gd hP hn5 hN hN1 hgd hNK0 ih hr hk hol
  go_enter Tryz.func35, Tryz.ntmps35
  go_upto_region 2 with fail
  clear hw2 hc3 hmc hmf
  have hs0 : (∀ j, w3.drew.cell? ⟨W.heap.size, j, none⟩ = (#[.int .i64 room, .slice (some ⟨bm, 0, none⟩) K K, .func (.yield l) #[] #[]] : Array Value)[j]?) ∧ w3.drew.cell? ⟨bm, N, none⟩ = some (.int .i64 ((m0 : Int) + 1)) := by
    refine ⟨(cells_block HH.out.2.2.2.1).1, ?_⟩
    have := (HH.out.1.cell HH.out.2.2.2.2.2.2.2).1
    unfold cntD at this
    rw [if_pos rfl, HH.out.2.2.2.2.2.1] at this
    exact this
  refine wp_region_held_drew (S := fun V => (∀ j, V.cell? ⟨W.heap.size, j, none⟩ = (#[.int .i64 room, .slice (some ⟨bm, 0, none⟩) K K, .func (.yield l) #[] #[]] : Array Value)[j]?) ∧ V.cell? ⟨bm, N, none⟩ = some (.int .i64 ((m0 : Int) + 1))) (by kernel_rfl) hs0 (fun _ => ?_)
  refine wpAnyH_take (i := 0) (v := .pointer (some ⟨W.heap.size, 1, none⟩)) rfl (by kernel_rfl) (by kernel_rfl) (by kernel_rfl) (fun _ _ _ h => h) (Or.inl ⟨by rfl, ?_⟩) hs0 ?_
  · rintro w ⟨s1, s2⟩; go_simp
  refine wpAnyH_take (i := 1) (v := .slice (some ⟨bm, 0, none⟩) K K) rfl (by kernel_rfl) (by kernel_rfl) (by kernel_rfl) (fun _ _ _ h => h) (Or.inl ⟨by rfl, ?_⟩) hs0 ?_
  · rintro w ⟨s1, s2⟩; go_simp
  refine wpAnyH_take (i := 2) (v := .slice (some ⟨g, o0, none⟩) N k) rfl (by kernel_rfl) (by kernel_rfl) (by kernel_rfl) (fun _ _ _ h => h) (Or.inl ⟨by rfl, ?_⟩) hs0 ?_
  · rintro w ⟨s1, s2⟩; go_simp
  refine wpAnyH_take (i := 3) (v := .int .i64 (N : Int)) rfl (by kernel_rfl) (by kernel_rfl) (by kernel_rfl) (fun _ _ _ h => h) (Or.inl ⟨by rfl, ?_⟩) hs0 ?_
  · rintro w ⟨s1, s2⟩; go_simp
  refine wpAnyH_take (i := 4) (v := .pointer (some ⟨bm, N, none⟩)) rfl (by kernel_rfl) (by kernel_rfl) (by kernel_rfl) (fun _ _ _ h => h) (Or.inl ⟨by rfl, ?_⟩) hs0 ?_
  · rintro w ⟨s1, s2⟩; go_simp
  refine wpAnyH_take (i := 5) (v := .int .i64 ((m0 : Int) + 1)) rfl (by kernel_rfl) (by kernel_rfl) (by kernel_rfl) (fun _ _ _ h => h) (Or.inl ⟨by rfl, ?_⟩) hs0 ?_
  · rintro w ⟨s1, s2⟩; go_simp
  refine wpAnyH_take (i := 6) (v := .pointer (some ⟨W.heap.size, 0, none⟩)) rfl (by kernel_rfl) (by kernel_rfl) (by kernel_rfl) (fun _ _ _ h => h) (Or.inl ⟨by rfl, ?_⟩) hs0 ?_
  · rintro w ⟨s1, s2⟩; go_simp
  refine wpAnyH_take (i := 7) (v := .int .i64 room) rfl (by kernel_rfl) (by kernel_rfl) (by kernel_rfl) (fun _ _ _ h => h) (Or.inl ⟨by rfl, ?_⟩) hs0 ?_
  · rintro w ⟨s1, s2⟩; go_simp
  refine wpAnyH_ready (rs := [8]) (by kernel_rfl) (by simp) ?_
  refine AllReadyH.cons rfl (fun KK hKK => ?_) AllReadyH.nil
  go_simp
  by_cases hro : (m0 : Int) + 1 ≤ room
  · refine (spend_ok _ _ _ hro).mono ?_
    rintro e w4 ⟨rfl, rfl⟩
    go_simp
    refine hKK.out _ _ hs0 (fun _ => ?_)
    clear hKK KK
    refine wpAnyH_done (by kernel_rfl) ?_ _
    clear hs0
    go_upto_region 5 with fail
    have hs5 : (∀ j, w3.drew.drew.cell? ⟨W.heap.size + 1, j, none⟩ = (#[.int .i64 (c.length : Int), .int .u64 (FW c 0 : Int), .int .u64 (FW c 1 : Int), .int .u64 (FW c 2 : Int), .int .u64 (FW c 3 : Int), .int .u64 (OW c 0 : Int), .int .u64 (OW c 1 : Int), .int .u64 (OW c 2 : Int), .int .u64 (OW c 3 : Int)] : Array Value)[j]?) ∧ (w3.drew.drew.cell? ⟨g, o0, none⟩ = some (.int .i64 (d.length : Int)) ∧ w3.drew.drew.cell? ⟨g, o0 + 1, none⟩ = some (.int .u64 (FW d 0 : Int)) ∧ w3.drew.drew.cell? ⟨g, o0 + 2, none⟩ = some (.int .u64 (FW d 1 : Int)) ∧ w3.drew.drew.cell? ⟨g, o0 + 3, none⟩ = some (.int .u64 (FW d 2 : Int)) ∧ w3.drew.drew.cell? ⟨g, o0 + 4, none⟩ = some (.int .u64 (FW d 3 : Int)) ∧ w3.drew.drew.cell? ⟨g, o0 + 5, none⟩ = some (.int .u64 (OW d 0 : Int)) ∧ w3.drew.drew.cell? ⟨g, o0 + 6, none⟩ = some (.int .u64 (OW d 1 : Int)) ∧ w3.drew.drew.cell? ⟨g, o0 + 7, none⟩ = some (.int .u64 (OW d 2 : Int)) ∧ w3.drew.drew.cell? ⟨g, o0 + 8, none⟩ = some (.int .u64 (OW d 3 : Int))) := ⟨(cells_block HH.out.2.2.2.2.1).1, HD.out.1⟩
    refine wp_region_held_drew (S := fun V => (∀ j, V.cell? ⟨W.heap.size + 1, j, none⟩ = (#[.int .i64 (c.length : Int), .int .u64 (FW c 0 : Int), .int .u64 (FW c 1 : Int), .int .u64 (FW c 2 : Int), .int .u64 (FW c 3 : Int), .int .u64 (OW c 0 : Int), .int .u64 (OW c 1 : Int), .int .u64 (OW c 2 : Int), .int .u64 (OW c 3 : Int)] : Array Value)[j]?) ∧ (V.cell? ⟨g, o0, none⟩ = some (.int .i64 (d.length : Int)) ∧ V.cell? ⟨g, o0 + 1, none⟩ = some (.int .u64 (FW d 0 : Int)) ∧ V.cell? ⟨g, o0 + 2, none⟩ = some (.int .u64 (FW d 1 : Int)) ∧ V.cell? ⟨g, o0 + 3, none⟩ = some (.int .u64 (FW d 2 : Int)) ∧ V.cell? ⟨g, o0 + 4, none⟩ = some (.int .u64 (FW d 3 : Int)) ∧ V.cell? ⟨g, o0 + 5, none⟩ = some (.int .u64 (OW d 0 : Int)) ∧ V.cell? ⟨g, o0 + 6, none⟩ = some (.int .u64 (OW d 1 : Int)) ∧ V.cell? ⟨g, o0 + 7, none⟩ = some (.int .u64 (OW d 2 : Int)) ∧ V.cell? ⟨g, o0 + 8, none⟩ = some (.int .u64 (OW d 3 : Int)))) (by kernel_rfl) hs5 (fun _ => ?_)
    refine wpAnyH_take (i := 0) (v := .agg #[.int .i64 (c.length : Int), .int .u64 (FW c 0 : Int), .int .u64 (FW c 1 : Int), .int .u64 (FW c 2 : Int), .int .u64 (FW c 3 : Int), .int .u64 (OW c 0 : Int), .int .u64 (OW c 1 : Int), .int .u64 (OW c 2 : Int), .int .u64 (OW c 3 : Int)]) rfl (by kernel_rfl) (by kernel_rfl) (by kernel_rfl) (fun _ _ _ h => h) (Or.inl ⟨by rfl, ?_⟩) hs5 ?_
    · rintro w ⟨s1, s20, s21, s22, s23, s24, s25, s26, s27, s28⟩; go_simp
    refine wpAnyH_take (i := 1) (v := .slice (some ⟨g, o0, none⟩) N k) rfl (by kernel_rfl) (by kernel_rfl) (by kernel_rfl) (fun _ _ _ h => h) (Or.inl ⟨by rfl, ?_⟩) hs5 ?_
    · rintro w ⟨s1, s20, s21, s22, s23, s24, s25, s26, s27, s28⟩; go_simp
    refine wpAnyH_take (i := 2) (v := .pointer (some ⟨g, o0, none⟩)) rfl (by kernel_rfl) (by kernel_rfl) (by kernel_rfl) (fun _ _ _ h => h) (Or.inl ⟨by rfl, ?_⟩) hs5 ?_
    · rintro w ⟨s1, s20, s21, s22, s23, s24, s25, s26, s27, s28⟩; go_simp
    refine wpAnyH_take (i := 3) (v := .agg #[.int .i64 (d.length : Int), .int .u64 (FW d 0 : Int), .int .u64 (FW d 1 : Int), .int .u64 (FW d 2 : Int), .int .u64 (FW d 3 : Int), .int .u64 (OW d 0 : Int), .int .u64 (OW d 1 : Int), .int .u64 (OW d 2 : Int), .int .u64 (OW d 3 : Int)]) rfl (by kernel_rfl) (by kernel_rfl) (by kernel_rfl) (fun _ _ _ h => h) (Or.inl ⟨by rfl, ?_⟩) hs5 ?_
    · rintro w ⟨s1, s20, s21, s22, s23, s24, s25, s26, s27, s28⟩; go_simp
    refine wpAnyH_take (i := 6) (v := .int .i64 0) rfl (by kernel_rfl) (by kernel_rfl) (by kernel_rfl) (fun _ _ _ h => h) (Or.inl ⟨by rfl, ?_⟩) hs5 ?_
    · rintro w ⟨s1, s20, s21, s22, s23, s24, s25, s26, s27, s28⟩; go_simp
    refine wpAnyH_ready (rs := [4]) (by kernel_rfl) (by simp) ?_
    refine AllReadyH.cons rfl (fun KK hKK => ?_) AllReadyH.nil
    go_simp
    refine (HSP.out _).mono ?_
    rintro e W5 ⟨v5, rfl, ho5, hb5⟩
    obtain ⟨pv, cv, rfl⟩ := shapeQ1 ho5
    have hb5' : Below w3.heap.size w3 W5 := und (und hb5)
    have hs6 : (∀ j, W5.cell? ⟨W.heap.size + 1, j, none⟩ = (#[.int .i64 (c.length : Int), .int .u64 (FW c 0 : Int), .int .u64 (FW c 1 : Int), .int .u64 (FW c 2 : Int), .int .u64 (FW c 3 : Int), .int .u64 (OW c 0 : Int), .int .u64 (OW c 1 : Int), .int .u64 (OW c 2 : Int), .int .u64 (OW c 3 : Int)] : Array Value)[j]?) ∧ (W5.cell? ⟨g, o0, none⟩ = some (.int .i64 (d.length : Int)) ∧ W5.cell? ⟨g, o0 + 1, none⟩ = some (.int .u64 (FW d 0 : Int)) ∧ W5.cell? ⟨g, o0 + 2, none⟩ = some (.int .u64 (FW d 1 : Int)) ∧ W5.cell? ⟨g, o0 + 3, none⟩ = some (.int .u64 (FW d 2 : Int)) ∧ W5.cell? ⟨g, o0 + 4, none⟩ = some (.int .u64 (FW d 3 : Int)) ∧ W5.cell? ⟨g, o0 + 5, none⟩ = some (.int .u64 (OW d 0 : Int)) ∧ W5.cell? ⟨g, o0 + 6, none⟩ = some (.int .u64 (OW d 1 : Int)) ∧ W5.cell? ⟨g, o0 + 7, none⟩ = some (.int .u64 (OW d 2 : Int)) ∧ W5.cell? ⟨g, o0 + 8, none⟩ = some (.int .u64 (OW d 3 : Int))) := ⟨(cells_block (keepblk3 hb5' HH.out.2.2.2.2.1)).1, (CB.below HD.out.1 hb5')⟩
    go_simp
    refine hKK.out _ _ hs6 (fun _ => ?_)
    clear hKK KK
    refine wpAnyH_ready (rs := [5]) (by kernel_rfl) (by simp) ?_
    refine AllReadyH.cons rfl (fun KK hKK => ?_) AllReadyH.nil
    go_simp
    refine hKK.out _ _ hs6 (fun _ => ?_)
    clear hKK KK
    refine wpAnyH_done (by kernel_rfl) ?_ _
    have HW : Hid (YK (XB X bm) r W r W5 ∧ J o r W5 ∧ MET W5 bm K (cntD M N) ∧ W5.heap[W.heap.size]? = some (.cells #[.int .i64 room, .slice (some ⟨bm, 0, none⟩) K K, .func (.yield l) #[] #[]] 84 (0, 0)) ∧ RC W5 (XB X bm) r (some ⟨g, o0, none⟩) (d :: L) ∧ (∀ (i : Nat) (z : List UInt8), P[i]? = some z → ∃ gq, pv = some ⟨gq, 0, none⟩ ∧ CB W5 gq (i * 9) z ∧ ¬ XB X bm gq ∧ some gq ≠ r) ∧ some W.heap.size ≠ r ∧ ¬ XB X bm W.heap.size) := by
      have yk5 : YK (XB X bm) r W r W5 := HH.out.2.1.trans (YK.below hb5')
      have hNW := hJ.size _ _ _ HJ.out
      have hrl : ∀ q, r = some q → q < W.heap.size := fun q hq => hJ.row _ _ _ _ HJ.out hq
      have hXl : ∀ q, XB X bm q → q < W.heap.size := fun q hq => by
        rcases hq with hq | rfl
        · have := hJ.low _ hq; omega
        · exact HH.out.2.2.2.2.2.2.1
      refine ⟨yk5, hJ.below _ _ _ _ HH.out.2.2.1 hb5', keepblk3 hb5' HH.out.1, keepblk3 hb5' HH.out.2.2.2.1, HD.out.2.1.keep yk5, fun i z hz => ?_, fun e => ?_, fun hx => ?_⟩
      · have hi := (List.getElem?_eq_some_iff.1 hz).1
        have hsz : W.heap.size ≤ w3.heap.size := HH.out.2.1.1
        rcases own_shapeQ ho5 with ⟨e1, e2⟩ | ⟨gq, cq, e1, e2, e3, -⟩
        · rw [HP.out.2.1] at hi; omega
        · injection e1 with e1 _ _
          subst e1
          have e3' : w3.heap.size ≤ gq := e3
          refine ⟨gq, rfl, ?_, fun hx => ?_, fun hx => ?_⟩
          · obtain ⟨g2, o2, e4, h4⟩ := IRC_own ho5 HP.out.2.1 W5 (Below.refl _ _) i z hz
            injection e4 with e4
            injection e4 with e5 e6 _
            subst e5
            subst e6
            rw [Nat.zero_add] at h4
            exact h4
          · have := hXl _ hx; omega
          · have := hrl _ hx.symm; omega
      · have := hrl _ e.symm; omega
      · have := hXl _ hx; omega
    clear hs5 hs6 ho5 hb5 hb5'
    go_wp2_with fail
    go_loopw [39] (fun v39 wr => ∃ (i : Nat), v39 = .int .i64 (i : Int) ∧ i ≤ n5 ∧ Hid (∃ r1, some bm ≠ r1 ∧ J (o ++ exT splT (P.take i) L) r1 wr ∧ YK (XB X bm) r W5 r1 wr ∧ MET wr bm K (fun j => cntD M N j + lvl splT (P.take i) L j) ∧ dok splT room (cntD M N) (P.take i) L)) (fun v39 _ => n5 - (intOf v39).toNat)
    case atStart =>
      refine ⟨0, rfl, Nat.zero_le _, r, HD.out.2.2, ?_, YK.refl _ _ _, HW.out.2.2.1.cong (fun j => ?_), fun j hj => ?_⟩
      · rw [List.take_zero, exT_nil, List.append_nil]
        exact HW.out.2.1
      · rw [List.take_zero, lvl_nil]
        rfl
      · rw [List.take_zero, lvl_nil, Nat.add_zero]
        have h1 := HN.out.1
        unfold cntD
        rw [if_neg (by omega)]
        exact HMR.out.1 j (by omega)
    case round =>
      obtain ⟨i, rfl, hi, hrel⟩ := hrel
      obtain ⟨r1, hbr1, hrel⟩ := hrel.out
      have HR : Hid (J (o ++ exT splT (P.take i) L) r1 wr ∧ YK (XB X bm) r W5 r1 wr ∧ MET wr bm K (fun j => cntD M N j + lvl splT (P.take i) L j) ∧ dok splT room (cntD M N) (P.take i) L) := hrel
      clear hrel
      by_cases hlt : i < n5
      · have i1 : (i : Int) < (n5 : Int) := by omega
        have i0 : (0 : Int) ≤ (i : Int) := by omega
        obtain ⟨z, hz0⟩ : ∃ z, P[i]? = some z := ⟨_, List.getElem?_eq_getElem (by rw [HP.out.2.1]; exact hlt)⟩
        have hz : Hid (P[i]? = some z) := hz0
        obtain ⟨gq, rfl, hcq, hq1, hq2⟩ := HW.out.2.2.2.2.2.1 i z hz0
        obtain ⟨p0, p1, p2, p3, p4, p5, p6, p7, p8⟩ := hcq.same (HR.out.2.1.2 gq (World.block_lt_of_cell? W5 _ hcq.1) hq1 hq2).1
        have hb3 : wr.heap[W.heap.size]? = some (.cells #[.int .i64 room, .slice (some ⟨bm, 0, none⟩) K K, .func (.yield l) #[] #[]] 84 (0, 0)) := HR.out.2.1.blk HW.out.2.2.2.1 HW.out.2.2.2.2.2.2.2 HW.out.2.2.2.2.2.2.1
        have hb3r : some W.heap.size ≠ r1 := (HR.out.2.1.2 _ (lt_of_get3 HW.out.2.2.2.1) HW.out.2.2.2.2.2.2.2 HW.out.2.2.2.2.2.2.1).2
        obtain ⟨wa, hwa⟩ : ∃ wa, wr.alloc (.cells #[.int .i64 (z.length : Int), .int .u64 (FW z 0 : Int), .int .u64 (FW z 1 : Int), .int .u64 (FW z 2 : Int), .int .u64 (FW z 3 : Int), .int .u64 (OW z 0 : Int), .int .u64 (OW z 1 : Int), .int .u64 (OW z 2 : Int), .int .u64 (OW z 3 : Int)] 58 (0, 0)) = wa := ⟨_, rfl⟩
        have hBa : Below wr.heap.size wr wa := by rw [← hwa]; exact belA (Below.refl _ _) _
        have hga : wa.heap[wr.heap.size]? = some (.cells #[.int .i64 (z.length : Int), .int .u64 (FW z 0 : Int), .int .u64 (FW z 1 : Int), .int .u64 (FW z 2 : Int), .int .u64 (FW z 3 : Int), .int .u64 (OW z 0 : Int), .int .u64 (OW z 1 : Int), .int .u64 (OW z 2 : Int), .int .u64 (OW z 3 : Int)] 58 (0, 0)) := by rw [← hwa]; exact alloc_get _ _
        have hwr : some wr.heap.size ≠ r1 := fun e => by have := hJ.row _ _ _ _ HR.out.1 e.symm; omega
        have hwx : ¬ XB X bm wr.heap.size := fun e => by
          have := hJ.size _ _ _ HR.out.1
          have h2 := lt_of_get3 HR.out.2.2.1
          rcases e with e | e
          · have := hJ.low _ e; omega
          · omega
        have hgz := HP.out.2.2 z (List.mem_of_getElem? hz0)
        have HIH := HIH0.out z (fun j => cntD M N j + lvl splT (P.take i) L j) (o ++ exT splT (P.take i) L) r1 (if k = 1 then some ⟨g, o0, none⟩ else some ⟨g, o0 + 9, none⟩) (k - 1) wa.drew hgz.1 hgz.2 (hJ.below _ _ _ _ HR.out.1 hBa.drew) (keepblk3 (W := wr) (w' := wa.drew) hBa.drew HR.out.2.2.1) hbr1 (fun j hj => HR.out.2.2.2 j hj) (by rcases HMR.out.2 with h1 | h1; exact .inl h1; exact .inr (dok_piece splT hz0 ((dok_cnt HN.out.1).2 (by have := ((dok_down splT).1 h1).2; rw [HP.out.1] at this; exact this)))) (((HW.out.2.2.2.2.1.keep HR.out.2.1).keep (YK.below (W' := wa.drew) hBa.drew)).tail HN.out.2.2.1) (by have := HN.out.2.2.1; omega) (by have h1 := HOL.out; have h2 := HN.out.1; rw [List.length_append, lvl_zero]; unfold cntD; rw [if_neg (by omega)]; omega) (pre_piece HPA.out hz0)
        rw [← HN.out.2.2.2] at HIH
        have HIH : Hid (Calls Tryz.prog 35 #[.agg #[.int .i64 room, .slice (some ⟨bm, 0, none⟩) K K, .func (.yield l) #[] #[]], .agg #[.int .i64 (z.length : Int), .int .u64 (FW z 0 : Int), .int .u64 (FW z 1 : Int), .int .u64 (FW z 2 : Int), .int .u64 (FW z 3 : Int), .int .u64 (OW z 0 : Int), .int .u64 (OW z 1 : Int), .int .u64 (OW z 2 : Int), .int .u64 (OW z 3 : Int)], .slice (if k = 1 then some ⟨g, o0, none⟩ else some ⟨g, o0 + 9, none⟩) n1 (k - 1)] wa.drew (DP X J Jx bm K room (fun j => cntD M N j + lvl splT (P.take i) L j) z L (o ++ exT splT (P.take i) L) r1 wa.drew)) := HIH
        clear hz0 hcq hq1 hq2 hgz
        go_upto_region 8 with fail
        clear hwa p0 p1 p2 p3 p4 p5 p6 p7 p8
        have hs8 : (∀ j, wa.drew.cell? ⟨W.heap.size, j, none⟩ = (#[.int .i64 room, .slice (some ⟨bm, 0, none⟩) K K, .func (.yield l) #[] #[]] : Array Value)[j]?) ∧ (∀ j, wa.drew.cell? ⟨wr.heap.size, j, none⟩ = (#[.int .i64 (z.length : Int), .int .u64 (FW z 0 : Int), .int .u64 (FW z 1 : Int), .int .u64 (FW z 2 : Int), .int .u64 (FW z 3 : Int), .int .u64 (OW z 0 : Int), .int .u64 (OW z 1 : Int), .int .u64 (OW z 2 : Int), .int .u64 (OW z 3 : Int)] : Array Value)[j]?) := ⟨(cells_block (show wa.drew.heap[W.heap.size]? = _ from keepblk3 (W := wr) hBa.drew hb3)).1, (cells_block (show wa.drew.heap[wr.heap.size]? = _ from hga)).1⟩
        refine wp_region_held_drew (S := fun V => (∀ j, V.cell? ⟨W.heap.size, j, none⟩ = (#[.int .i64 room, .slice (some ⟨bm, 0, none⟩) K K, .func (.yield l) #[] #[]] : Array Value)[j]?) ∧ (∀ j, V.cell? ⟨wr.heap.size, j, none⟩ = (#[.int .i64 (z.length : Int), .int .u64 (FW z 0 : Int), .int .u64 (FW z 1 : Int), .int .u64 (FW z 2 : Int), .int .u64 (FW z 3 : Int), .int .u64 (OW z 0 : Int), .int .u64 (OW z 1 : Int), .int .u64 (OW z 2 : Int), .int .u64 (OW z 3 : Int)] : Array Value)[j]?)) (by kernel_rfl) hs8 (fun _ => ?_)
        refine wpAnyH_take (i := 0) (v := .agg #[.int .i64 room, .slice (some ⟨bm, 0, none⟩) K K, .func (.yield l) #[] #[]]) rfl (by kernel_rfl) (by kernel_rfl) (by kernel_rfl) (fun _ _ _ h => h) (Or.inl ⟨by rfl, ?_⟩) hs8 ?_
        · rintro w ⟨s1, s2⟩; go_simp
        refine wpAnyH_take (i := 1) (v := .agg #[.int .i64 (z.length : Int), .int .u64 (FW z 0 : Int), .int .u64 (FW z 1 : Int), .int .u64 (FW z 2 : Int), .int .u64 (FW z 3 : Int), .int .u64 (OW z 0 : Int), .int .u64 (OW z 1 : Int), .int .u64 (OW z 2 : Int), .int .u64 (OW z 3 : Int)]) rfl (by kernel_rfl) (by kernel_rfl) (by kernel_rfl) (fun _ _ _ h => h) (Or.inl ⟨by rfl, ?_⟩) hs8 ?_
        · rintro w ⟨s1, s2⟩; go_simp
        refine wpAnyH_take (i := 2) (v := .slice (some ⟨g, o0, none⟩) N k) rfl (by kernel_rfl) (by kernel_rfl) (by kernel_rfl) (fun _ _ _ h => h) (Or.inl ⟨by rfl, ?_⟩) hs8 ?_
        · rintro w ⟨s1, s2⟩; go_simp
        refine wpAnyH_take (i := 3) (v := .slice (if k = 1 then some ⟨g, o0, none⟩ else some ⟨g, o0 + 9, none⟩) n1 (k - 1)) rfl (by kernel_rfl) (by kernel_rfl) (by kernel_rfl) (fun _ _ _ h => h) (Or.inl ⟨by rfl, ?_⟩) hs8 ?_
        · rintro w ⟨s1, s2⟩; go_simp
        refine wpAnyH_ready (rs := [4]) (by kernel_rfl) (by simp) ?_
        refine AllReadyH.cons rfl (fun KK hKK => ?_) AllReadyH.nil
        go_simp
        refine HIH.out.mono ?_
        rintro e W9 (⟨ok, r9, rfl, hbr9, hy9, hd9⟩ | ⟨rfl, hnd, o9, r9, hj9⟩)
        · have hyr : YK (XB X bm) r1 wr r9 W9 := (YK.below (W' := wa.drew) hBa.drew).trans hy9
          have hs9 : (∀ j, W9.cell? ⟨W.heap.size, j, none⟩ = (#[.int .i64 room, .slice (some ⟨bm, 0, none⟩) K K, .func (.yield l) #[] #[]] : Array Value)[j]?) ∧ (∀ j, W9.cell? ⟨wr.heap.size, j, none⟩ = (#[.int .i64 (z.length : Int), .int .u64 (FW z 0 : Int), .int .u64 (FW z 1 : Int), .int .u64 (FW z 2 : Int), .int .u64 (FW z 3 : Int), .int .u64 (OW z 0 : Int), .int .u64 (OW z 1 : Int), .int .u64 (OW z 2 : Int), .int .u64 (OW z 3 : Int)] : Array Value)[j]?) := ⟨(cells_block (hyr.blk hb3 HW.out.2.2.2.2.2.2.2 hb3r)).1, (cells_block (hy9.blk (W := wa.drew) (by exact hga) hwx hwr)).1⟩
          go_simp
          refine hKK.out _ _ hs9 (fun _ => ?_)
          clear hKK KK
          refine wpAnyH_ready (rs := [5]) (by kernel_rfl) (by simp) ?_
          refine AllReadyH.cons rfl (fun KK hKK => ?_) AllReadyH.nil
          go_simp
          refine hKK.out _ _ hs9 (fun _ => ?_)
          clear hKK KK
          refine wpAnyH_done (by kernel_rfl) ?_ _
          clear hs8 hs9
          rcases hd9 with ⟨rfl, hdk, hj9, hm9⟩ | ⟨rfl, hx9⟩
          · have HZ : Hid (∃ r1, some bm ≠ r1 ∧ J (o ++ exT splT (P.take (i + 1)) L) r1 W9 ∧ YK (XB X bm) r W5 r1 W9 ∧ MET W9 bm K (fun j => cntD M N j + lvl splT (P.take (i + 1)) L j) ∧ dok splT room (cntD M N) (P.take (i + 1)) L) := by
              refine ⟨r9, hbr9, ?_, HR.out.2.1.trans hyr, hm9.cong (fun j => ?_), fun j hj => ?_⟩
              · rw [exT_succ splT hz.out, ← List.append_assoc]
                exact hj9
              · show cntD M N j + lvl splT (P.take i) L j + lvl splT [z] L j = _
                rw [lvl_succ splT hz.out, Nat.add_assoc]
              · have := hdk j hj
                rw [lvl_succ splT hz.out, ← Nat.add_assoc]
                exact this
            clear hdk hj9 hm9 hyr hy9
            simp only [Bool.not_true]
            go_wp2_with fail
            go_roundw
            case rel => exact ⟨i + 1, by go_num, by omega, HZ⟩
            case measure => simp [intOf]; omega
          · have HZ : Hid (DP X J Jx bm K room M c (d :: L) o r W (.returned (.bool false)) W9) := .inl ⟨false, r9, rfl, hbr9, (HW.out.1.trans HR.out.2.1).trans hyr, .inr ⟨rfl, hx9⟩⟩
            clear hyr hy9
            simp only [Bool.not_false]
            go_wp2_with fail
            all_goals
              go_ret
              exact HZ.out
        · refine ⟨rfl, .inr ⟨rfl, fun hd => hnd ?_, o9, r9, hj9⟩⟩
          have h1 := (dok_down splT).1 hd
          rw [HP.out.1] at h1
          exact dok_piece splT hz.out ((dok_cnt HN.out.1).2 h1.2)
      · have i1 : ¬ (i : Int) < (n5 : Int) := by omega
        obtain rfl : i = n5 := by omega
        have HZ : Hid (DP X J Jx bm K room M c (d :: L) o r W (.returned (.bool true)) wr) := by
          have et : P.take i = P := List.take_of_length_le (by rw [HP.out.2.1]; exact Nat.le_refl _)
          obtain ⟨q1, q2, q3, q4⟩ := HR.out
          rw [et] at q1 q3 q4
          refine .inl ⟨true, r1, rfl, hbr1, HW.out.1.trans q2, .inl ⟨rfl, ?_, ?_, ?_⟩⟩
          · refine (dok_down splT).2 ⟨?_, ?_⟩
            · rw [HN.out.2.1, HH.out.2.2.2.2.2.1]; exact hro
            · rw [HP.out.1]; exact (dok_cnt HN.out.1).1 q4
          · rw [exT_cons, HP.out.1]; exact q1
          · refine q3.cong (fun j => ?_)
            have := cnt_all M c d L j
            rw [HN.out.2.1, HP.out.1] at this
            exact this
        go_wp2_with fail
        go_ret
        exact HZ.out
  · refine (spend_over _ _ _ (by omega)).mono ?_
    rintro e w4 ⟨rfl, rfl⟩
    refine ⟨rfl, .inr ⟨rfl, fun hd => hro ?_, o, r, hJ.below _ _ _ _ HH.out.2.2.1 (Below.refl _ _).drew⟩⟩
    rw [← HH.out.2.2.2.2.2.1, ← HN.out.2.1]
    exact ((dok_down splT).1 hd).1
end Go.Proofs.YtecgjlpmmailjaaGreatDoor
