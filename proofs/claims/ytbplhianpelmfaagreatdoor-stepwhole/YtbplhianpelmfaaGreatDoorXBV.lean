import Derived.Test.YtbplhianpelmfaaGreatDoorXBT
namespace Go.Proofs.YtbplhianpelmfaaGreatDoor.Nt
open Go.RowKit Go.Shelf
set_option maxRecDepth 100000 in
set_option maxHeartbeats 16000000 in
theorem kints_ne (L1 L2 : List Int) (p1 p2 : Option Addr) (n1 n2 c1 c2 : Nat) (w : World) (h1 : L1.length = n1) (h2 : L2.length = n2) (hl1 : LI w p1 L1) (hl2 : LI w p2 L2) (hne : L1 ≠ L2) (hO : n1 ≤ 1000 ∧ n2 ≤ 1000) :
    Calls Tryz.prog 19 #[.slice p1 n1 c1, .slice p2 n2 c2] w fun e w' => e = .returned (.bool false) ∧ Below w.heap.size w w' := by
  have HN : Hid (L1.length = n1 ∧ L2.length = n2 ∧ L1 ≠ L2 ∧ (∀ U, Below w.heap.size w U → LI U p1 L1) ∧ ∀ U, Below w.heap.size w U → LI U p2 L2) := ⟨h1, h2, hne, fun U hU => hl1.below hU, fun U hU => hl2.below hU⟩
  obtain ⟨hO1, hO2⟩ := hO
  clear h1 h2 hl1 hl2 hne
  by_cases hnn : n1 = n2
  · subst hnn
    go_enter Tryz.func19, Tryz.ntmps19
    go_wp2_with fail
    go_loopw [5] (fun vk wr => ∃ k : Nat, vk = .int .i64 (k : Int) ∧ k ≤ n1 ∧ Hid (L1.take k = L2.take k ∧ Below w.heap.size w wr)) (fun vk _ => n1 - (intOf vk).toNat)
    case atStart => exact ⟨0, rfl, Nat.zero_le _, rfl, Below.refl _ _⟩
    case round =>
      obtain ⟨k, rfl, hk, HB⟩ := hrel
      by_cases hlt : k < n1
      · obtain ⟨x, hx⟩ : ∃ x, L1[k]? = some x := ⟨_, List.getElem?_eq_getElem (by have := HN.out.1; omega)⟩
        obtain ⟨y, hy⟩ : ∃ y, L2[k]? = some y := ⟨_, List.getElem?_eq_getElem (by have := HN.out.2.1; omega)⟩
        obtain ⟨g1, o1, rfl, a0⟩ := HN.out.2.2.2.1 wr HB.out.2 k x hx
        obtain ⟨g2, o2, rfl, b0⟩ := HN.out.2.2.2.2 wr HB.out.2 k y hy
        have j0 : (0 : Int) ≤ (k : Int) := by omega
        have j1 : (k : Int) < (n1 : Int) := by omega
        have HX : Hid (L1[k]? = some x ∧ L2[k]? = some y) := ⟨hx, hy⟩
        clear hx hy
        by_cases hxy : x = y
        · have i0 : (x != y) = false := by simpa using hxy
          subst hxy
          have HT : Hid (L1.take (k + 1) = L2.take (k + 1)) := by
            show _ = _
            rw [List.take_add_one, List.take_add_one, HB.out.1, HX.out.1, HX.out.2]
          go_wp2_with fail
          go_quiet (fail)
          go_wp2_with fail
          go_roundw
          case rel => exact ⟨k + 1, by go_num, by omega, HT.out, bel_drewZ nq HB.out.2⟩
          case measure => simp [intOf]; omega
        · have i0 : (x != y) = true := by simpa using hxy
          go_wp2_with fail
          go_quiet (fail)
          go_wp2_with fail
          go_ret
          exact ⟨rfl, bel_drewZ nq HB.out.2⟩
      · obtain rfl : k = n1 := by omega
        exfalso
        have h9 := HB.out.1
        rw [List.take_of_length_le (by rw [HN.out.1]; exact Nat.le_refl _), List.take_of_length_le (by rw [HN.out.2.1]; exact Nat.le_refl _)] at h9
        exact HN.out.2.2.1 h9
  · have i0 : ((n1 : Int) != (n2 : Int)) = true := by simp; omega
    clear hnn
    go_enter Tryz.func19, Tryz.ntmps19
    go_wp2_with fail
    go_ret
    exact ⟨rfl, Below.refl _ _⟩
theorem wiM_40 (k : Int) : 0 ≤ wiM k 40 ∧ wiM k 40 ≤ 40 ∧ (wiM k 40 = 0 → ¬ k > 0) := by
  unfold wiM
  split
  · omega
  · split <;> omega
/-- what the paths are like -/
theorem pth_last {n : NN} {s : Int × List UInt8} {hops : Int} {x : WY} (hx : x ∈ pthM n s hops) : ∃ (lp m1 : Nat), x.last = ((lp : Int), x.hd) ∧ lp < n.ports.length ∧ x.ps.length = m1 + 1 ∧ x.ps[m1]? = some (lp : Int) := by
  obtain ⟨hV, hS, -, -, hW, -⟩ := pth_mem hx
  have hst := hW.st
  obtain ⟨h1, -⟩ := pth_len hx
  obtain ⟨m1, hm⟩ : ∃ m1, x.ps.length = m1 + 1 := ⟨x.ps.length - 1, by omega⟩
  have h2 := last_get hm
  have e1 : x.last = (x.ps.getLastD 0, x.hd) := rfl
  have h3 := hst.1
  have h4 := hst.2.1
  rw [e1] at h3 h4
  simp only at h3 h4
  obtain ⟨lp, hlp⟩ : ∃ lp : Nat, x.ps.getLastD 0 = (lp : Int) := ⟨(x.ps.getLastD 0).toNat, by omega⟩
  rw [hlp] at h2 h4
  exact ⟨lp, m1, by rw [e1, hlp], by omega, hm, h2⟩
set_option maxRecDepth 100000 in
set_option maxHeartbeats 16000000 in
theorem stepWhole_walk (n : NN) (v : NV) (s9 : Int × List UInt8) (hops k cut : Int) (w : World) (hN : LN w n v) (hO : okN n) (hh : okS s9.2) (hT : TAB w) :
    Calls Tryz.prog 5 #[.agg (nnA n v), .agg #[.int .i64 s9.1, .string ⟨s9.2.toArray⟩], .int .i64 hops, .int .i64 k, .int .i64 cut] w fun e w' => e = .returned (.bool true) ∧ Below w.heap.size w w' := by
  have hsm := fun (U : World) (hU : Below w.heap.size w U) => some_any n v s9 hops (wiM k 40) U (hN.below hU) hO (hT.at hU) hh (by have := (wiM_40 k).2.1; omega)
  have hnx := fun (p : Int) (t : List UInt8) (U : World) (hU : Below w.heap.size w U) (ht : okS t) => snext_any n v p t U (hN.below hU) hO (hT.at hU) ht
  have hfo := fun (Q : List Int) (qp : Option Addr) (m c : Nat) (U : World) (hU : Below w.heap.size w U) (hm : Q.length = m) (hQ : LI U qp Q) (hc : m ≤ c) (hM : m ≤ 140737488351232) => sfollow_any n v s9.1 s9.2 Q qp m c U (hN.below hU) hO (hT.at hU) hh hm hQ hc hM
  have hkn := fun (U : World) (hU : Below w.heap.size w U) => known_any U (hT.at hU)
  have hlp := fun (U : World) (hU : Below w.heap.size w U) => (hN.below hU).1
  obtain ⟨p, h⟩ := s9
  simp only at hfo hh ⊢
  rw [show (asC (p, h)).toArray = #[.int .i64 p, .string ⟨h.toArray⟩] from rfl] at hfo
  obtain ⟨pp, cp, pt, ct, pg, cg⟩ := v
  simp only at hlp
  obtain ⟨np, hnp⟩ : ∃ np, n.ports.length = np := ⟨_, rfl⟩
  obtain ⟨nt, hnt⟩ : ∃ nt, n.tabs.length = nt := ⟨_, rfl⟩
  obtain ⟨ng, hng⟩ : ∃ ng, n.grds.length = ng := ⟨_, rfl⟩
  obtain ⟨bits, hbits⟩ : ∃ bits, n.bits = bits := ⟨_, rfl⟩
  have hE : nnA n ⟨pp, cp, pt, ct, pg, cg⟩ = #[.int .i64 bits, .slice pp np cp, .slice pt nt ct, .slice pg ng cg] := by unfold nnA; rw [hnp, hnt, hng, hbits]
  rw [hE] at hsm hfo hnx ⊢
  obtain ⟨B, hB⟩ : ∃ B, w.heap.size = B := ⟨_, rfl⟩
  obtain ⟨b2, hb2⟩ : ∃ b2, w.heap.size + 1 = b2 := ⟨_, rfl⟩
  obtain ⟨W1, hW1⟩ : ∃ W1, (w.alloc (.cells #[.int .i64 bits, .slice pp np cp, .slice pt nt ct, .slice pg ng cg] 26)).alloc (.cells #[.int .i64 p, .string ⟨h.toArray⟩] 28) = W1 := ⟨_, rfl⟩
  have hz2 : (w.alloc (.cells #[.int .i64 bits, .slice pp np cp, .slice pt nt ct, .slice pg ng cg] 26)).heap.size = w.heap.size + 1 := Array.size_push _
  have b1 : Below w.heap.size w W1 := by rw [← hW1]; exact belAZ (belAZ (Below.refl _ _) _) _
  have k1 : W1.heap[B]? = some (.cells #[.int .i64 bits, .slice pp np cp, .slice pt nt ct, .slice pg ng cg] 26 (0, 0)) := by rw [← hW1, ← hB]; exact keepZ (belAZ (Below.refl _ _) _) (alloc_getZ _ _)
  have k2 : W1.heap[b2]? = some (.cells #[.int .i64 p, .string ⟨h.toArray⟩] 28 (0, 0)) := by rw [← hW1, ← hb2, ← hz2]; exact alloc_getZ _ _
  have HC : Hid (∀ U, Below W1.heap.size W1 U → (U.cell? ⟨B, 0, none⟩ = some (.int .i64 bits) ∧ U.cell? ⟨B, 1, none⟩ = some (.slice pp np cp) ∧ U.cell? ⟨B, 2, none⟩ = some (.slice pt nt ct) ∧ U.cell? ⟨B, 3, none⟩ = some (.slice pg ng cg)) ∧ (U.cell? ⟨b2, 0, none⟩ = some (.int .i64 p) ∧ U.cell? ⟨b2, 1, none⟩ = some (.string ⟨h.toArray⟩))) := fun U hU => by
    have e1 := (cellsZ (keepZ hU k1)).1
    have e2 := (cellsZ (keepZ hU k2)).1
    exact ⟨⟨by rw [e1]; rfl, by rw [e1]; rfl, by rw [e1]; rfl, by rw [e1]; rfl⟩, ⟨by rw [e2]; rfl, by rw [e2]; rfl⟩⟩
  obtain ⟨A, hA⟩ : ∃ A, pthM n (p, h) hops = A := ⟨_, rfl⟩
  obtain ⟨K, hK⟩ : ∃ K, wiM k 40 = K := ⟨_, rfl⟩
  have HSM : Hid (∀ U, Below W1.heap.size W1 U → Calls Tryz.prog 16 #[.agg #[.int .i64 bits, .slice pp np cp, .slice pt nt ct, .slice pg ng cg], .agg #[.int .i64 p, .string ⟨h.toArray⟩], .int .i64 hops, .int .i64 K] U fun e w' => ∃ (q : Option Addr) (c : Nat) (V : List (WY × PV)), V.map Prod.fst = A.take K.toNat ∧ e = .returned (.slice q V.length c) ∧ RowL 3 paC w' q V ∧ (∀ x ∈ V, PL w' x) ∧ Below U.heap.size U w') := fun U hU => by
    have h9 := hsm U (bel0Z b1 hU)
    rw [hK] at h9
    unfold SMQ at h9
    rw [hA] at h9
    exact h9
  have HWI : Hid (∀ U, Calls Tryz.prog 17 #[.int .i64 k, .int .i64 40] U fun e w' => e = .returned (.int .i64 K) ∧ w' = U) := fun U => by
    have h9 := within_any k 40 U
    rw [hK] at h9
    exact h9
  have HKK : Hid (0 ≤ K ∧ K ≤ 40 ∧ (K = 0 → ¬ k > 0)) := by rw [← hK]; exact wiM_40 k
  have HAA : Hid (pthM n (p, h) hops = A ∧ n.ports.length = np ∧ n.bits = bits) := ⟨hA, hnp, hbits⟩
  have HFO : Hid (∀ (Q : List Int) (qp : Option Addr) (m c : Nat) (U : World), Below W1.heap.size W1 U → Q.length = m → LI U qp Q → m ≤ c → m ≤ 140737488351232 → Calls Tryz.prog 18 #[.agg #[.int .i64 bits, .slice pp np cp, .slice pt nt ct, .slice pg ng cg], .agg #[.int .i64 p, .string ⟨h.toArray⟩], .slice qp m c] U (FLQ (flwM n (p, h) Q) U)) := fun Q qp m c U hU h1 h2 h3 h4 => hfo Q qp m c U (bel0Z b1 hU) h1 h2 h3 h4
  have HNX : Hid (∀ (x : Int) (t : List UInt8) (U : World), Below W1.heap.size W1 U → okS t → Calls Tryz.prog 8 #[.agg #[.int .i64 bits, .slice pp np cp, .slice pt nt ct, .slice pg ng cg], .agg #[.int .i64 x, .string ⟨t.toArray⟩]] U (SNQ n (x, t) U)) := fun x t U hU ht => hnx x t U (bel0Z b1 hU) ht
  have HH := hideL hh
  have HKN : Hid (∀ U, Below W1.heap.size W1 U → Calls Tryz.prog 10 #[] U fun e w' => e = .returned (.bool true) ∧ Below U.heap.size U w') := fun U hU => hkn U (bel0Z b1 hU)
  have HLP : Hid (∀ U, Below W1.heap.size W1 U → LP U pp n.ports) := fun U hU => hlp U (bel0Z b1 hU)
  have HF : Hid (∀ U, Below W1.heap.size W1 U → Below w.heap.size w U) := fun U hU => bel0Z b1 hU
  have HB := hideL hB
  have HB2 := hideL hb2
  have HW1 := hideL hW1
  clear hN hO hT hh hsm hfo hnx hkn hlp hE hnp hnt hng hbits hB hb2 hz2 b1 k1 k2 hW1 hA hK
  go_enter Tryz.func5, Tryz.ntmps5
  go_upto_region 1 with fail
  rw [HW1.out, HB2.out, HB.out]
  have hs0 := HC.out W1.drew (Below.refl _ _).drew
  refine wp_region_held_drew (S := fun U => (U.cell? ⟨B, 0, none⟩ = some (.int .i64 bits) ∧ U.cell? ⟨B, 1, none⟩ = some (.slice pp np cp) ∧ U.cell? ⟨B, 2, none⟩ = some (.slice pt nt ct) ∧ U.cell? ⟨B, 3, none⟩ = some (.slice pg ng cg)) ∧ (U.cell? ⟨b2, 0, none⟩ = some (.int .i64 p) ∧ U.cell? ⟨b2, 1, none⟩ = some (.string ⟨h.toArray⟩))) (by kernel_rfl) hs0 (fun _ => ?_)
  refine wpAnyH_take (i := 0) (v := .agg #[.int .i64 bits, .slice pp np cp, .slice pt nt ct, .slice pg ng cg]) rfl (by kernel_rfl) (by kernel_rfl) (by kernel_rfl) (fun _ _ _ h => h) (Or.inl ⟨by rfl, ?_⟩) hs0 ?_
  · rintro w ⟨⟨q0, q1, q2, q3⟩, ⟨r0, r1⟩⟩; go_simp
  refine wpAnyH_take (i := 1) (v := .agg #[.int .i64 p, .string ⟨h.toArray⟩]) rfl (by kernel_rfl) (by kernel_rfl) (by kernel_rfl) (fun _ _ _ h => h) (Or.inl ⟨by rfl, ?_⟩) hs0 ?_
  · rintro w ⟨⟨q0, q1, q2, q3⟩, ⟨r0, r1⟩⟩; go_simp
  refine wpAnyH_take (i := 2) (v := .int .i64 hops) rfl (by kernel_rfl) (by kernel_rfl) (by kernel_rfl) (fun _ _ _ h => h) (Or.inl ⟨by rfl, ?_⟩) hs0 ?_
  · rintro w ⟨⟨q0, q1, q2, q3⟩, ⟨r0, r1⟩⟩; go_simp
  refine wpAnyH_take (i := 3) (v := .int .i64 k) rfl (by kernel_rfl) (by kernel_rfl) (by kernel_rfl) (fun _ _ _ h => h) (Or.inl ⟨by rfl, ?_⟩) hs0 ?_
  · rintro w ⟨⟨q0, q1, q2, q3⟩, ⟨r0, r1⟩⟩; go_simp
  refine wpAnyH_ready (rs := [4]) (by kernel_rfl) (by simp) ?_
  refine AllReadyH.cons rfl (fun KK hKK => ?_) AllReadyH.nil
  go_simp
  refine (HWI.out _).mono ?_
  rintro en D2 ⟨rfl, hw⟩
  obtain rfl := hw
  go_simp
  refine hKK.out _ _ hs0 (fun _ => ?_)
  clear hKK KK
  refine wpAnyH_ready (rs := [5]) (by kernel_rfl) (by simp) ?_
  refine AllReadyH.cons rfl (fun KK hKK => ?_) AllReadyH.nil
  go_simp
  refine (HSM.out _ (Below.refl _ _).drew).mono ?_
  rintro en W2 ⟨ql, cl, V, hVm, rfl, hrow, hpl, c2⟩
  replace c2 : Below W1.heap.size W1 W2 := bel0Z (Below.refl _ _).drew c2
  have hs1 := HC.out W2 c2
  go_simp
  refine hKK.out _ _ hs1 (fun _ => ?_)
  clear hKK KK hs0
  obtain ⟨N, hN9⟩ : ∃ N, V.length = N := ⟨_, rfl⟩
  refine wpAnyH_take (i := 6) (v := .slice ql V.length cl) rfl (by kernel_rfl) (by kernel_rfl) (by kernel_rfl) (fun _ _ _ h => h) (Or.inl ⟨by rfl, ?_⟩) hs1 ?_
  · rintro w ⟨⟨q0, q1, q2, q3⟩, ⟨r0, r1⟩⟩; go_simp
  refine wpAnyH_done (by kernel_rfl) ?_ _
  try simp only [List.getElem_toArray, List.getElem_cons_succ, List.getElem_cons_zero, Act.put, List.setIfInBounds_toArray, List.set_cons_zero, List.set_cons_succ]
  clear hs1
  have HROW : Hid (V.map Prod.fst = A.take K.toNat ∧ V.length = N ∧ (∀ U, Below W2.heap.size W2 U → RowL 3 paC U ql V ∧ (∀ x ∈ V, PL U x) ∧ Below W1.heap.size W1 U)) := ⟨hVm, hN9, fun U hU => ⟨hrow.below hU, fun x hx => (hpl x hx).below hU, bel0Z c2 hU⟩⟩
  have hN40 : N ≤ 40 := by
    have h8 := congrArg List.length hVm
    rw [List.length_map, List.length_take, hN9] at h8
    have h9 := HKK.out.2.1
    omega
  rw [hN9]
  clear hVm hN9 hrow hpl c2
  obtain ⟨⟨q0, q1, q2, q3⟩, ⟨r0, r1⟩⟩ := HC.out W2 (HROW.out.2.2 W2 (Below.refl _ _)).2.2
  go_wp2_with fail
  refine (HNX.out p h W2 (HROW.out.2.2 W2 (Below.refl _ _)).2.2 HH.out).mono ?_
  rintro e W3 ⟨q9, c9, rfl, -, b3⟩
  clear q0 q1 q2 q3 r0 r1
  have HB3 : Hid (Below W2.heap.size W2 W3 ∧ Below W1.heap.size W1 W3) := ⟨b3, bel0Z (HROW.out.2.2 W2 (Below.refl _ _)).2.2 b3⟩
  obtain ⟨R, hR⟩ : ∃ R, chkM n (p, h) = R := ⟨_, rfl⟩
  obtain ⟨M9, hM9⟩ : ∃ M9, (nxL n (p, h)).length = M9 := ⟨_, rfl⟩
  obtain ⟨E9, hE9⟩ : ∃ E9, nxE n (p, h) = E9 := ⟨_, rfl⟩
  rw [hR, hM9, hE9]
  clear b3 hM9 hE9
  go_wp2_with fail
  refine (num_any R W3).mono ?_
  rintro e W4 ⟨rfl, hw⟩
  obtain rfl : W3 = W4 := hw.symm
  clear hw
  by_cases hC : (NetP n ∧ StP n (p, h)) ∧ HOK hops
  · have hR0 : R = 0 := by rw [← hR]; exact chk_yes hC.1.1 hC.1.2
    subst hR0
    have j1 : ¬ hops < 0 := by have := hC.2.1; omega
    have j2 : ¬ hops > 64 := by have := hC.2.2; omega
    have hne : N = 0 → ¬ k > 0 := fun h0 => by
      have h8 := congrArg List.length HROW.out.1
      rw [List.length_map, List.length_take, HROW.out.2.1, h0] at h8
      have h9 : 1 ≤ A.length := by
        have := pth_some hC.1.1 hC.1.2 hC.2.1 hC.2.2
        rw [HAA.out.1] at this
        cases A with
        | nil => exact absurd rfl this
        | cons a b => simp
      have h1 := HKK.out.1
      have h2 : K = 0 := by omega
      have h3 := HKK.out.2.2 h2
      omega
    have HCC := hideL hC
    clear hR hC
    by_cases hN0 : N = 0
    · subst hN0
      have hk0 := hne rfl
      clear hne
      go_wp2_with fail
      go_loopw [15] (fun v15 wr => ∃ i : Nat, v15 = .int .i64 (i : Int) ∧ i ≤ 0 ∧ Hid (Below W2.heap.size W2 wr)) (fun v15 _ => 0)
      case atStart => exact ⟨0, rfl, Nat.zero_le _, HB3.out.1⟩
      case round =>
        obtain ⟨i, rfl, hi, HBR⟩ := hrel
        obtain rfl : i = 0 := by omega
        have hB9 := (HROW.out.2.2 wr HBR.out).2.2
        have hKK := hideL (HKN.out wr hB9)
        have HB9 := hideL hB9
        clear hB9
        go_wp2_with fail
        refine (hKK.out).mono ?_
        rintro e W9 ⟨rfl, b9⟩
        have HFF := hideL (HF.out W9 (bel0Z HB9.out b9))
        clear b9
        go_wp2_with fail
        go_ret
        exact ⟨rfl, HFF.out⟩
    · have i0 : ((N : Int) == 0) = false := by simp; omega
      clear hne hN0
      go_wp2_with fail
      go_loopw [15] (fun v15 wr => ∃ i : Nat, v15 = .int .i64 (i : Int) ∧ i ≤ N ∧ Hid (Below W2.heap.size W2 wr)) (fun v15 _ => N - (intOf v15).toNat)
      case atStart => exact ⟨0, rfl, Nat.zero_le _, HB3.out.1⟩
      case round =>
        obtain ⟨i, rfl, hi, HBR⟩ := hrel
        by_cases hlt : i < N
        · obtain ⟨⟨x, ⟨u1, e1, u2, e2⟩⟩, hx⟩ : ∃ x, V[i]? = some x := ⟨_, List.getElem?_eq_getElem (by have := HROW.out.2.1; omega)⟩
          have hxA : A[i]? = some x := by
            have h8 : (V.map Prod.fst)[i]? = some x := by rw [List.getElem?_map, hx]; rfl
            rw [HROW.out.1, List.getElem?_take] at h8
            split at h8
            · exact h8
            · cases h8
          have hxm : x ∈ pthM n (p, h) hops := by rw [HAA.out.1]; exact List.mem_of_getElem? hxA
          obtain ⟨hrow, hpl, hb1⟩ := HROW.out.2.2 wr HBR.out
          have hplx := hpl _ (List.mem_of_getElem? hx)
          obtain ⟨n1, hn1⟩ : ∃ n1, x.ps.length = n1 := ⟨_, rfl⟩
          obtain ⟨n2, hn2⟩ : ∃ n2, x.es.length = n2 := ⟨_, rfl⟩
          obtain ⟨t, ht⟩ : ∃ t, x.hd = t := ⟨_, rfl⟩
          obtain ⟨y1, y2, y3, y4⟩ := pth_len hxm
          obtain ⟨lp, m1, hl1, hl2, hl3, hl4⟩ := pth_last hxm
          rw [hn1] at y1 y2 hl3
          rw [hn2] at y3 y4
          rw [ht] at hl1
          obtain ⟨gl, ol, e9, hcx⟩ := hrow i _ hx
          subst e9
          obtain ⟨gp, op, e8, hcl⟩ := hplx.1.2.1 m1 _ hl4
          simp only at e8
          subst e8
          have hpc : (paC (x, (⟨some ⟨gp, op, none⟩, e1, u2, e2⟩ : PV))) = [.slice (some ⟨gp, op, none⟩) n1 e1, .slice u2 n2 e2, .string ⟨t.toArray⟩] := by
            show [Value.slice (some ⟨gp, op, none⟩) x.ps.length e1, .slice u2 x.es.length e2, .string ⟨x.hd.toArray⟩] = _
            rw [hn1, hn2, ht]
          have w0 : wr.cell? ⟨gl, ol + i * 3, none⟩ = some (.slice (some ⟨gp, op, none⟩) n1 e1) := by have := hcx 0 (.slice (some ⟨gp, op, none⟩) n1 e1) (by rw [hpc]; rfl); rwa [Nat.add_zero] at this
          have w1 : wr.cell? ⟨gl, ol + i * 3 + 1, none⟩ = some (.slice u2 n2 e2) := hcx 1 _ (by rw [hpc]; rfl)
          have w2 : wr.cell? ⟨gl, ol + i * 3 + 2, none⟩ = some (.string ⟨t.toArray⟩) := hcx 2 _ (by rw [hpc]; rfl)
          obtain ⟨hV, hS9, -, -, hW9, -⟩ := pth_mem hxm
          have hst := hW9.st
          rw [hl1] at hst
          obtain ⟨hpt, -⟩ := hV.port hst.1 hst.2.1
          simp only [Int.toNat_natCast] at hpt
          obtain ⟨inn, hinn⟩ : ∃ b, (portAt n (lp : Int)).inn = b := ⟨_, rfl⟩
          obtain ⟨gq, oq, e7, -, -, hci, -⟩ := HLP.out wr hb1 lp _ hpt
          subst e7
          rw [hinn] at hci
          have hok : okS t := by
            have h1 := hst.2.2.1
            have h2 := hV.bits.2
            unfold okS
            simp only at h1
            omega
          obtain ⟨b16, hb16⟩ : ∃ b, wr.heap.size = b := ⟨_, rfl⟩
          obtain ⟨W5, hW5⟩ : ∃ W5, wr.alloc (.cells #[.slice (some ⟨gp, op, none⟩) n1 e1, .slice u2 n2 e2, .string ⟨t.toArray⟩] 52) = W5 := ⟨_, rfl⟩
          have b5 : Below wr.heap.size wr W5 := by rw [← hW5]; exact belAZ (Below.refl _ _) _
          have k5 : W5.heap[b16]? = some (.cells #[.slice (some ⟨gp, op, none⟩) n1 e1, .slice u2 n2 e2, .string ⟨t.toArray⟩] 52 (0, 0)) := by rw [← hW5, ← hb16]; exact alloc_getZ _ _
          have HD : Hid (∀ U, Below W5.heap.size W5 U → ((U.cell? ⟨b16, 0, none⟩ = some (.slice (some ⟨gp, op, none⟩) n1 e1) ∧ U.cell? ⟨b16, 1, none⟩ = some (.slice u2 n2 e2) ∧ U.cell? ⟨b16, 2, none⟩ = some (.string ⟨t.toArray⟩)) ∧ ((U.cell? ⟨B, 0, none⟩ = some (.int .i64 bits) ∧ U.cell? ⟨B, 1, none⟩ = some (.slice (some ⟨gq, oq, none⟩) np cp) ∧ U.cell? ⟨B, 2, none⟩ = some (.slice pt nt ct) ∧ U.cell? ⟨B, 3, none⟩ = some (.slice pg ng cg)) ∧ (U.cell? ⟨b2, 0, none⟩ = some (.int .i64 p) ∧ U.cell? ⟨b2, 1, none⟩ = some (.string ⟨h.toArray⟩)))) ∧ LI U (some ⟨gp, op, none⟩) x.ps ∧ Below W2.heap.size W2 U ∧ Below W1.heap.size W1 U ∧ U.cell? ⟨gp, op + m1, none⟩ = some (.int .i64 (lp : Int)) ∧ U.cell? ⟨gq, oq + lp * 4 + 2, none⟩ = some (.bool inn)) := fun U hU => by
            have ex := (cellsZ (keepZ hU k5)).1
            have hbU := bel0Z HBR.out (bel0Z b5 hU)
            exact ⟨⟨⟨by rw [ex]; rfl, by rw [ex]; rfl, by rw [ex]; rfl⟩, HC.out U (HROW.out.2.2 U hbU).2.2⟩, hplx.1.2.1.below (bel0Z b5 hU), hbU, (HROW.out.2.2 U hbU).2.2, keepC (bel0Z b5 hU) hcl, keepC (bel0Z b5 hU) hci⟩
          have hmo := pth_more hxm
          rw [hl1] at hmo
          obtain ⟨M, hM⟩ : ∃ M, (nxL n ((lp : Int), t)).length = M := ⟨_, rfl⟩
          have HM : Hid (M = 0 ∨ (M ≠ 0 ∧ inn = true ∧ (n2 : Int) = hops)) := by
            by_cases hm0 : M = 0
            · exact .inl hm0
            · rcases hmo.2 with h3 | h3
              · exfalso
                refine hm0 ?_
                rw [← hM]
                unfold nxL
                rw [if_pos hmo.1, h3]
                rfl
              · exact .inr ⟨hm0, by rw [← hinn]; exact h3.1, by rw [← hn2]; exact h3.2⟩
          have HNB : Hid (∀ U, Below W5.heap.size W5 U → Calls Tryz.prog 8 #[.agg #[.int .i64 bits, .slice (some ⟨gq, oq, none⟩) np cp, .slice pt nt ct, .slice pg ng cg], .agg #[.int .i64 (lp : Int), .string ⟨t.toArray⟩]] U fun e w' => ∃ (q : Option Addr) (c : Nat) (E : Int), e = .returned (.tuple #[.int .i64 E, .slice q M c, .int .i64 0]) ∧ Below U.heap.size U w') := fun U hU => by
            refine (HNX.out (lp : Int) t U (HD.out U hU).2.2.2.1 hok).mono ?_
            rintro e w' ⟨q, c, he, -, hb⟩
            rw [hM, hmo.1] at he
            exact ⟨q, c, _, he, hb⟩
          have HFA : Hid (∀ U, Below W5.heap.size W5 U → Calls Tryz.prog 18 #[.agg #[.int .i64 bits, .slice (some ⟨gq, oq, none⟩) np cp, .slice pt nt ct, .slice pg ng cg], .agg #[.int .i64 p, .string ⟨h.toArray⟩], .slice (some ⟨gp, op, none⟩) n1 e1] U fun e w' => e = .returned (.tuple #[.string ⟨t.toArray⟩, .int .i64 (n2 : Int), .int .i64 0]) ∧ Below U.heap.size U w') := fun U hU => by
            have h9 := HFO.out x.ps (some ⟨gp, op, none⟩) n1 e1 U (HD.out U hU).2.2.2.1 hn1 (HD.out U hU).2.1 (by have := hplx.2.2.1; rw [hn1] at this; exact this) (by omega)
            rw [pth_flw hxm, ht, hn2] at h9
            exact h9
          obtain ⟨r, hr⟩ : ∃ r : Nat, wiM cut (m1 : Int) = (r : Int) ∧ r ≤ m1 := by
            unfold wiM
            split
            · exact ⟨0, rfl, by omega⟩
            · split
              · exact ⟨m1, rfl, by omega⟩
              · exact ⟨cut.toNat, by omega, by omega⟩
          have HWC : Hid (∀ U, Calls Tryz.prog 17 #[.int .i64 cut, .int .i64 (m1 : Int)] U fun e w' => e = .returned (.int .i64 (r : Int)) ∧ w' = U) := fun U => by
            have h9 := within_any cut (m1 : Int) U
            rw [hr.1] at h9
            exact h9
          obtain ⟨r9, hr9⟩ : ∃ r9, r + 1 = r9 := ⟨_, rfl⟩
          obtain ⟨h1, k1, hpr, hk1⟩ := pth_pre hxm (k := r9) (by omega)
          rw [hn2] at hk1
          have HFB : Hid (∀ U, Below W5.heap.size W5 U → Calls Tryz.prog 18 #[.agg #[.int .i64 bits, .slice (some ⟨gq, oq, none⟩) np cp, .slice pt nt ct, .slice pg ng cg], .agg #[.int .i64 p, .string ⟨h.toArray⟩], .slice (some ⟨gp, op, none⟩) r9 e1] U fun e w' => e = .returned (.tuple #[.string ⟨h1.toArray⟩, .int .i64 (k1 : Int), .int .i64 0]) ∧ Below U.heap.size U w') := fun U hU => by
            have h9 := HFO.out (x.ps.take r9) (some ⟨gp, op, none⟩) r9 e1 U (HD.out U hU).2.2.2.1 (by rw [List.length_take, hn1]; have := hr.2; omega) ((HD.out U hU).2.1.take _) (by have h6 := hplx.2.2.1; rw [hn1] at h6; have h7 : n1 ≤ e1 := h6; have := hr.2; omega) (by omega)
            rw [hpr] at h9
            exact h9
          have HXX : Hid (A[i]? = some x ∧ x.ps.length = n1) := ⟨hxA, hn1⟩
          have hcap : (n1 : Int) ≤ (e1 : Int) := by have := hplx.2.2.1; rw [hn1] at this; have h0 : n1 ≤ e1 := this; omega
          have hlpn : (lp : Int) < (np : Int) := by have := HAA.out.2.1; omega
          have hrm := hr.2
          have g0 : (0 : Int) ≤ (i : Int) := by omega
          have g1 : (i : Int) < (N : Int) := by omega
          have i1 : ((n1 : Int) == 0) = false := by simp; omega
          have i2 : ¬ (n2 : Int) > hops := by omega
          have i3 : ¬ (k1 : Int) > (n2 : Int) := by omega
          have i4 : (n1 : Int) - 1 = (m1 : Int) := by omega
          have i5 : ¬ (lp : Int) < 0 := by omega
          have i6 : ¬ (lp : Int) ≥ (np : Int) := by omega
          have i7 : (r9 : Int) ≤ (e1 : Int) := by omega
          have i8 : (1 : Int) + (r : Int) = (r9 : Int) := by omega
          have hW5' := hideL hW5
          have hb16' := hideL hb16
          have HB5 := hideL b5
          have hn131 : n1 ≤ 131 := by omega
          have hr131 : r9 ≤ 131 := by omega
          have hn264 : n2 ≤ 64 := by omega
          obtain ⟨⟨⟨x0, x1, x2⟩, ⟨⟨q0, q1, q2, q3⟩, ⟨r0, r1⟩⟩⟩, -, -, -, -, -⟩ := HD.out W5 (Below.refl _ _)
          clear hx hxA hxm hrow hpl hb1 hplx hn1 hn2 ht y1 y2 y3 y4 hl1 hl2 hl3 hl4 hcx hcl hpc hV hS9 hW9 hst hpt hinn hci hok hW5 hb16 b5 k5 hmo hM hr hr9 hpr hk1 j1 j2
          go_upto_region 11 with fail
          rw [hW5'.out, hb16'.out]
          clear w0 w1 w2
          go_wp2_with fail
          refine (HFA.out W5 (Below.refl _ _)).mono ?_
          rintro e W6 ⟨rfl, b6⟩
          clear x0 x1 x2 q0 q1 q2 q3 r0 r1
          obtain ⟨⟨⟨x0, x1, x2⟩, ⟨⟨q0, q1, q2, q3⟩, ⟨r0, r1⟩⟩⟩, -, -, -, -, -⟩ := HD.out W6 b6
          have HB6 := hideL b6
          clear b6
          go_wp2_with fail
          refine (num_any 0 W6).mono ?_
          rintro e W7 ⟨rfl, hw⟩
          obtain rfl : W6 = W7 := hw.symm
          clear hw
          go_upto_region 16 with fail
          clear x0 x1 x2 q0 q1 q2 q3 r0 r1
          have hs0 := (HD.out W6.drew (bel0Z HB6.out (Below.refl _ _).drew)).1
          refine wp_region_held_drew (S := fun U => (U.cell? ⟨b16, 0, none⟩ = some (.slice (some ⟨gp, op, none⟩) n1 e1) ∧ U.cell? ⟨b16, 1, none⟩ = some (.slice u2 n2 e2) ∧ U.cell? ⟨b16, 2, none⟩ = some (.string ⟨t.toArray⟩)) ∧ ((U.cell? ⟨B, 0, none⟩ = some (.int .i64 bits) ∧ U.cell? ⟨B, 1, none⟩ = some (.slice (some ⟨gq, oq, none⟩) np cp) ∧ U.cell? ⟨B, 2, none⟩ = some (.slice pt nt ct) ∧ U.cell? ⟨B, 3, none⟩ = some (.slice pg ng cg)) ∧ (U.cell? ⟨b2, 0, none⟩ = some (.int .i64 p) ∧ U.cell? ⟨b2, 1, none⟩ = some (.string ⟨h.toArray⟩)))) (by kernel_rfl) hs0 (fun _ => ?_)
          refine wpAnyH_take (i := 0) (v := .agg #[.int .i64 bits, .slice (some ⟨gq, oq, none⟩) np cp, .slice pt nt ct, .slice pg ng cg]) rfl (by kernel_rfl) (by kernel_rfl) (by kernel_rfl) (fun _ _ _ h => h) (Or.inl ⟨by rfl, ?_⟩) hs0 ?_
          · rintro w ⟨⟨x0, x1, x2⟩, ⟨⟨q0, q1, q2, q3⟩, ⟨r0, r1⟩⟩⟩; go_simp
          refine wpAnyH_take (i := 1) (v := .agg #[.int .i64 p, .string ⟨h.toArray⟩]) rfl (by kernel_rfl) (by kernel_rfl) (by kernel_rfl) (fun _ _ _ h => h) (Or.inl ⟨by rfl, ?_⟩) hs0 ?_
          · rintro w ⟨⟨x0, x1, x2⟩, ⟨⟨q0, q1, q2, q3⟩, ⟨r0, r1⟩⟩⟩; go_simp
          refine wpAnyH_take (i := 2) (v := .pointer (some ⟨b16, 0, none⟩)) rfl (by kernel_rfl) (by kernel_rfl) (by kernel_rfl) (fun _ _ _ h => h) (Or.inl ⟨by rfl, ?_⟩) hs0 ?_
          · rintro w ⟨⟨x0, x1, x2⟩, ⟨⟨q0, q1, q2, q3⟩, ⟨r0, r1⟩⟩⟩; go_simp
          refine wpAnyH_take (i := 3) (v := .slice (some ⟨gp, op, none⟩) n1 e1) rfl (by kernel_rfl) (by kernel_rfl) (by kernel_rfl) (fun _ _ _ h => h) (Or.inl ⟨by rfl, ?_⟩) hs0 ?_
          · rintro w ⟨⟨x0, x1, x2⟩, ⟨⟨q0, q1, q2, q3⟩, ⟨r0, r1⟩⟩⟩; go_simp
          refine wpAnyH_take (i := 4) (v := .int .i64 cut) rfl (by kernel_rfl) (by kernel_rfl) (by kernel_rfl) (fun _ _ _ h => h) (Or.inl ⟨by rfl, ?_⟩) hs0 ?_
          · rintro w ⟨⟨x0, x1, x2⟩, ⟨⟨q0, q1, q2, q3⟩, ⟨r0, r1⟩⟩⟩; go_simp
          refine wpAnyH_take (i := 5) (v := .pointer (some ⟨b16, 0, none⟩)) rfl (by kernel_rfl) (by kernel_rfl) (by kernel_rfl) (fun _ _ _ h => h) (Or.inl ⟨by rfl, ?_⟩) hs0 ?_
          · rintro w ⟨⟨x0, x1, x2⟩, ⟨⟨q0, q1, q2, q3⟩, ⟨r0, r1⟩⟩⟩; go_simp
          refine wpAnyH_take (i := 6) (v := .slice (some ⟨gp, op, none⟩) n1 e1) rfl (by kernel_rfl) (by kernel_rfl) (by kernel_rfl) (fun _ _ _ h => h) (Or.inl ⟨by rfl, ?_⟩) hs0 ?_
          · rintro w ⟨⟨x0, x1, x2⟩, ⟨⟨q0, q1, q2, q3⟩, ⟨r0, r1⟩⟩⟩; go_simp
          refine wpAnyH_take (i := 7) (v := .int .i64 (n1 : Int)) rfl (by kernel_rfl) (by kernel_rfl) (by kernel_rfl) (fun _ _ _ h => h) (Or.inl ⟨by rfl, ?_⟩) hs0 ?_
          · rintro w ⟨⟨x0, x1, x2⟩, ⟨⟨q0, q1, q2, q3⟩, ⟨r0, r1⟩⟩⟩; go_simp
          refine wpAnyH_take (i := 8) (v := .int .i64 (m1 : Int)) rfl (by kernel_rfl) (by kernel_rfl) (by kernel_rfl) (fun _ _ _ h => h) (Or.inl ⟨by rfl, ?_⟩) hs0 ?_
          · rintro w ⟨⟨x0, x1, x2⟩, ⟨⟨q0, q1, q2, q3⟩, ⟨r0, r1⟩⟩⟩; go_simp; try (rw [IntKind.wrap_i64]; omega)
          refine wpAnyH_ready (rs := [9]) (by kernel_rfl) (by simp) ?_
          refine AllReadyH.cons rfl (fun KK hKK => ?_) AllReadyH.nil
          go_simp
          refine (HWC.out _).mono ?_
          rintro en D2 ⟨rfl, hw⟩
          obtain rfl := hw
          go_simp
          refine hKK.out _ _ hs0 (fun _ => ?_)
          clear hKK KK
          refine wpAnyH_take (i := 10) (v := .int .i64 (r9 : Int)) rfl (by kernel_rfl) (by kernel_rfl) (by kernel_rfl) (fun _ _ _ h => h) (Or.inl ⟨by rfl, ?_⟩) hs0 ?_
          · rintro w ⟨⟨x0, x1, x2⟩, ⟨⟨q0, q1, q2, q3⟩, ⟨r0, r1⟩⟩⟩; go_simp; try (rw [IntKind.wrap_i64]; omega)
          refine wpAnyH_take (i := 11) (v := .slice (some ⟨gp, op, none⟩) r9 e1) rfl (by kernel_rfl) (by kernel_rfl) (by kernel_rfl) (fun _ _ _ h => h) (Or.inl ⟨by rfl, ?_⟩) hs0 ?_
          · rintro w ⟨⟨x0, x1, x2⟩, ⟨⟨q0, q1, q2, q3⟩, ⟨r0, r1⟩⟩⟩; go_simp
          refine wpAnyH_ready (rs := [12]) (by kernel_rfl) (by simp) ?_
          refine AllReadyH.cons rfl (fun KK hKK => ?_) AllReadyH.nil
          go_simp
          refine (HFB.out _ (bel0Z HB6.out (Below.refl _ _).drew)).mono ?_
          rintro en W8 ⟨rfl, b8⟩
          have c8 : Below W5.heap.size W5 W8 := bel0Z (bel0Z HB6.out (Below.refl _ _).drew) b8
          have hs1 := (HD.out W8 c8).1
          clear b8
          go_simp
          refine hKK.out _ _ hs1 (fun _ => ?_)
          clear hKK KK hs0
          refine wpAnyH_take (i := 13) (v := .tuple #[.string ⟨h1.toArray⟩, .int .i64 (k1 : Int), .int .i64 0]) rfl (by kernel_rfl) (by kernel_rfl) (by kernel_rfl) (fun _ _ _ h => h) (Or.inl ⟨by rfl, ?_⟩) hs1 ?_
          · rintro w ⟨⟨x0, x1, x2⟩, ⟨⟨q0, q1, q2, q3⟩, ⟨r0, r1⟩⟩⟩; go_simp
          refine wpAnyH_take (i := 14) (v := .string ⟨h1.toArray⟩) rfl (by kernel_rfl) (by kernel_rfl) (by kernel_rfl) (fun _ _ _ h => h) (Or.inl ⟨by rfl, ?_⟩) hs1 ?_
          · rintro w ⟨⟨x0, x1, x2⟩, ⟨⟨q0, q1, q2, q3⟩, ⟨r0, r1⟩⟩⟩; go_simp
          refine wpAnyH_take (i := 15) (v := .int .i64 (k1 : Int)) rfl (by kernel_rfl) (by kernel_rfl) (by kernel_rfl) (fun _ _ _ h => h) (Or.inl ⟨by rfl, ?_⟩) hs1 ?_
          · rintro w ⟨⟨x0, x1, x2⟩, ⟨⟨q0, q1, q2, q3⟩, ⟨r0, r1⟩⟩⟩; go_simp
          refine wpAnyH_take (i := 16) (v := .int .i64 0) rfl (by kernel_rfl) (by kernel_rfl) (by kernel_rfl) (fun _ _ _ h => h) (Or.inl ⟨by rfl, ?_⟩) hs1 ?_
          · rintro w ⟨⟨x0, x1, x2⟩, ⟨⟨q0, q1, q2, q3⟩, ⟨r0, r1⟩⟩⟩; go_simp
          refine wpAnyH_take (i := 17) (v := .int .i64 (k1 : Int)) rfl (by kernel_rfl) (by kernel_rfl) (by kernel_rfl) (fun _ _ _ h => h) (Or.inl ⟨by rfl, ?_⟩) hs1 ?_
          · rintro w ⟨⟨x0, x1, x2⟩, ⟨⟨q0, q1, q2, q3⟩, ⟨r0, r1⟩⟩⟩; go_simp
          refine wpAnyH_take (i := 18) (v := .int .i64 0) rfl (by kernel_rfl) (by kernel_rfl) (by kernel_rfl) (fun _ _ _ h => h) (Or.inl ⟨by rfl, ?_⟩) hs1 ?_
          · rintro w ⟨⟨x0, x1, x2⟩, ⟨⟨q0, q1, q2, q3⟩, ⟨r0, r1⟩⟩⟩; go_simp
          refine wpAnyH_done (by kernel_rfl) ?_ _
          try simp only [List.getElem_toArray, List.getElem_cons_succ, List.getElem_cons_zero, Act.put, List.setIfInBounds_toArray, List.set_cons_zero, List.set_cons_succ]
          clear hs1
          obtain ⟨⟨⟨x0, x1, x2⟩, ⟨⟨q0, q1, q2, q3⟩, ⟨r0, r1⟩⟩⟩, -, -, -, v0, v1⟩ := HD.out W8 c8
          have HC8 := hideL c8
          have z0 : (0 : Int) ≤ (m1 : Int) := by omega
          have z1 : (m1 : Int) < (n1 : Int) := by omega
          clear c8 v1
          go_wp2_with fail
          refine (num_any 0 W8).mono ?_
          rintro e W9 ⟨rfl, hw⟩
          obtain rfl : W8 = W9 := hw.symm
          clear hw
          go_wp2_with fail
          refine (HNB.out W8 HC8.out).mono ?_
          rintro e WA ⟨qm, cm, Em, rfl, bA⟩
          clear x0 x1 x2 q0 q1 q2 q3 r0 r1
          clear v0
          have HCA := hideL (bel0Z HC8.out bA)
          clear bA
          obtain ⟨⟨⟨x0, x1, x2⟩, ⟨⟨q0, q1, q2, q3⟩, ⟨r0, r1⟩⟩⟩, -, -, -, -, v1⟩ := HD.out WA HCA.out
          have z2 : (0 : Int) ≤ (lp : Int) := by omega
          go_upto_region 23 with fail
          go_cut [185] from 162 to 184 (fun v185 wx => v185 = .bool false ∧ wx = WA)
          case first =>
            rcases HM.out with rfl | ⟨hm0, rfl, hhp⟩
            · go_wp2_with fail
              refine (num_any 0 WA).mono ?_
              rintro e WB ⟨rfl, hw⟩
              obtain rfl : WA = WB := hw.symm
              clear hw
              go_wp2_with fail
              go_meet
              exact ⟨rfl, rfl⟩
            · have i9 : ((M : Int) != 0) = true := by simp; omega
              have i10 : ((n2 : Int) == hops) = true := by simpa using hhp
              clear hm0 hhp
              go_wp2_with fail
              refine (num_any 0 WA).mono ?_
              rintro e WB ⟨rfl, hw⟩
              obtain rfl : WA = WB := hw.symm
              clear hw
              go_wp2_with fail
              go_meet
              exact ⟨rfl, rfl⟩
          case rest =>
            obtain ⟨rfl, rfl⟩ := hcut
            clear x0 x1 x2 q0 q1 q2 q3 r0 r1
            clear v1
            go_wp2_with fail
            go_loopw [24] (fun v24 wj => ∃ j : Nat, v24 = .int .i64 (j : Int) ∧ j ≤ i ∧ Hid (Below W5.heap.size W5 wj)) (fun v24 _ => i - (intOf v24).toNat)
            case atStart => exact ⟨0, rfl, Nat.zero_le _, HCA.out⟩
            case round =>
              obtain ⟨wj, rfl⟩ : ∃ x, x = wr := ⟨wr, rfl⟩
              obtain ⟨j, rfl, hj, HBJ⟩ := hrel
              by_cases hjt : j < i
              · obtain ⟨⟨y, ⟨s1, f1, s2, f2⟩⟩, hy⟩ : ∃ x, V[j]? = some x := ⟨_, List.getElem?_eq_getElem (by have := HROW.out.2.1; omega)⟩
                have hyA : A[j]? = some y := by
                  have h8 : (V.map Prod.fst)[j]? = some y := by rw [List.getElem?_map, hy]; rfl
                  rw [HROW.out.1, List.getElem?_take] at h8
                  split at h8
                  · exact h8
                  · cases h8
                have hne : y.ps ≠ x.ps := by
                  have h1 := pth_nd n (p, h) hops
                  rw [HAA.out.1, List.pairwise_iff_getElem] at h1
                  obtain ⟨g1, g2⟩ := List.getElem?_eq_some_iff.1 hyA
                  obtain ⟨g3, g4⟩ := List.getElem?_eq_some_iff.1 HXX.out.1
                  have h2 := h1 j i g1 g3 hjt
                  rw [g2, g4] at h2
                  exact h2
                have hym : y ∈ pthM n (p, h) hops := by rw [HAA.out.1]; exact List.mem_of_getElem? hyA
                have hyl := (pth_len hym).2.1
                obtain ⟨ny, hny⟩ : ∃ ny, y.ps.length = ny := ⟨_, rfl⟩
                have hbJ := (HD.out wj HBJ.out).2.2.1
                obtain ⟨hrow, hpl, hb1⟩ := HROW.out.2.2 wj hbJ
                obtain ⟨gl2, ol2, e9, hcx⟩ := hrow j _ hy
                simp only [Option.some.injEq, Addr.mk.injEq] at e9
                obtain ⟨rfl, rfl, -⟩ := e9
                have w0 : wj.cell? ⟨gl, ol + j * 3, none⟩ = some (.slice s1 ny f1) := by
                  have := hcx 0 _ rfl
                  rw [Nat.add_zero, hny] at this
                  exact this
                have hly := (hpl _ (List.mem_of_getElem? hy)).1.2.1
                have HIN : Hid (∀ U, Below wj.heap.size wj U → Calls Tryz.prog 19 #[.slice s1 ny f1, .slice (some ⟨gp, op, none⟩) n1 e1] U fun e w' => e = .returned (.bool false) ∧ Below U.heap.size U w') := fun U hU => kints_ne y.ps x.ps _ _ ny n1 f1 e1 U hny HXX.out.2 (hly.below hU) (HD.out U (bel0Z HBJ.out hU)).2.1 hne ⟨by omega, by omega⟩
                have HSS : Hid (∀ U, Below wj.heap.size wj U → U.cell? ⟨gl, ol + j * 3, none⟩ = some (.slice s1 ny f1) ∧ U.cell? ⟨b16, 0, none⟩ = some (.slice (some ⟨gp, op, none⟩) n1 e1)) := fun U hU => ⟨keepC hU w0, (HD.out U (bel0Z HBJ.out hU)).1.1.1⟩
                have j3 : (0 : Int) ≤ (j : Int) := by omega
                have j4 : (j : Int) < (i : Int) := by omega
                have j5 : (j : Int) < (N : Int) := by omega
                clear hy hyA hne hym hyl hny hbJ hrow hpl hb1 hcx w0 hly
                go_upto_region 28 with fail
                have hs0 := HSS.out wj.drew (Below.refl _ _).drew
                refine wp_region_held_drew (S := fun U => U.cell? ⟨gl, ol + j * 3, none⟩ = some (.slice s1 ny f1) ∧ U.cell? ⟨b16, 0, none⟩ = some (.slice (some ⟨gp, op, none⟩) n1 e1)) (by kernel_rfl) hs0 (fun _ => ?_)
                refine wpAnyH_take (i := 0) (v := .slice (some ⟨gl, ol, none⟩) N cl) rfl (by kernel_rfl) (by kernel_rfl) (by kernel_rfl) (fun _ _ _ h => h) (Or.inl ⟨by rfl, ?_⟩) hs0 ?_
                · rintro w ⟨s0, s1⟩; go_simp
                refine wpAnyH_take (i := 1) (v := .int .i64 (j : Int)) rfl (by kernel_rfl) (by kernel_rfl) (by kernel_rfl) (fun _ _ _ h => h) (Or.inl ⟨by rfl, ?_⟩) hs0 ?_
                · rintro w ⟨s0, s1⟩; go_simp
                refine wpAnyH_take (i := 2) (v := .pointer (some ⟨gl, ol + j * 3, none⟩)) rfl (by kernel_rfl) (by kernel_rfl) (by kernel_rfl) (fun _ _ _ h => h) (Or.inl ⟨by rfl, ?_⟩) hs0 ?_
                · rintro w ⟨s0, s1⟩; go_simp
                refine wpAnyH_take (i := 3) (v := .pointer (some ⟨gl, ol + j * 3, none⟩)) rfl (by kernel_rfl) (by kernel_rfl) (by kernel_rfl) (fun _ _ _ h => h) (Or.inl ⟨by rfl, ?_⟩) hs0 ?_
                · rintro w ⟨s0, s1⟩; go_simp
                refine wpAnyH_take (i := 4) (v := .slice s1 ny f1) rfl (by kernel_rfl) (by kernel_rfl) (by kernel_rfl) (fun _ _ _ h => h) (Or.inl ⟨by rfl, ?_⟩) hs0 ?_
                · rintro w ⟨s0, s1⟩; go_simp
                refine wpAnyH_take (i := 5) (v := .pointer (some ⟨b16, 0, none⟩)) rfl (by kernel_rfl) (by kernel_rfl) (by kernel_rfl) (fun _ _ _ h => h) (Or.inl ⟨by rfl, ?_⟩) hs0 ?_
                · rintro w ⟨s0, s1⟩; go_simp
                refine wpAnyH_take (i := 6) (v := .slice (some ⟨gp, op, none⟩) n1 e1) rfl (by kernel_rfl) (by kernel_rfl) (by kernel_rfl) (fun _ _ _ h => h) (Or.inl ⟨by rfl, ?_⟩) hs0 ?_
                · rintro w ⟨s0, s1⟩; go_simp
                refine wpAnyH_ready (rs := [7]) (by kernel_rfl) (by simp) ?_
                refine AllReadyH.cons rfl (fun KK hKK => ?_) AllReadyH.nil
                go_simp
                refine (HIN.out _ (Below.refl _ _).drew).mono ?_
                rintro en WC ⟨rfl, bC⟩
                have cC : Below wj.heap.size wj WC := bel0Z (Below.refl _ _).drew bC
                have hs1 := HSS.out WC cC
                clear bC
                go_simp
                refine hKK.out _ _ hs1 (fun _ => ?_)
                clear hKK KK hs0
                refine wpAnyH_done (by kernel_rfl) ?_ _
                try simp only [List.getElem_toArray, List.getElem_cons_succ, List.getElem_cons_zero, Act.put, List.setIfInBounds_toArray, List.set_cons_zero, List.set_cons_succ]
                have HBC := hideL (bel0Z HBJ.out cC)
                clear hs1 cC
                go_wp2_with fail
                go_roundw
                case rel => exact ⟨j + 1, by go_num, by omega, HBC⟩
                case measure => simp [intOf]; omega
              · obtain rfl : j = i := by omega
                have j4 : ¬ (j : Int) < (j : Int) := by omega
                have HBZ := hideL (HD.out wj HBJ.out).2.2.1
                go_wp2_with fail
                go_roundw
                case rel => exact ⟨j + 1, by go_num, by omega, HBZ⟩
                case measure => simp [intOf]; omega
        · obtain rfl : i = N := by omega
          have j3 : ¬ (i : Int) < (i : Int) := by omega
          have hB9 := (HROW.out.2.2 wr HBR.out).2.2
          have hKK := hideL (HKN.out wr hB9)
          have HB9 := hideL hB9
          clear hB9
          go_wp2_with fail
          refine (hKK.out).mono ?_
          rintro e W9 ⟨rfl, b9⟩
          have HFF := hideL (HF.out W9 (bel0Z HB9.out b9))
          clear b9
          go_wp2_with fail
          go_ret
          exact ⟨rfl, HFF.out⟩
  · have hN0 : N = 0 := by
      have h8 := congrArg List.length HROW.out.1
      rw [← HAA.out.1, pth_no hC, List.take_nil, List.length_map, HROW.out.2.1] at h8
      exact h8
    subst hN0
    have hKK := hideL (HKN.out W3 HB3.out.2)
    have hor : R ≠ 0 ∨ (R = 0 ∧ hops < 0) ∨ (R = 0 ∧ ¬ hops < 0 ∧ hops > 64) := by
      by_cases h0 : R = 0
      · have h1 : NetP n ∧ StP n (p, h) := by
          refine Classical.byContradiction fun h2 => ?_
          exact chk_no h2 (by rw [hR]; exact h0)
        have h2 : ¬ HOK hops := fun h3 => hC ⟨h1, h3⟩
        unfold HOK at h2
        by_cases h4 : hops < 0
        · exact .inr (.inl ⟨h0, h4⟩)
        · exact .inr (.inr ⟨h0, h4, by omega⟩)
      · exact .inl h0
    clear hR hC
    rcases hor with h0 | ⟨rfl, h1⟩ | ⟨rfl, h1, h2⟩
    · have i0 : (R != 0) = true := by simpa using h0
      clear h0
      go_wp2_with fail
      refine (hKK.out).mono ?_
      rintro e W9 ⟨rfl, b9⟩
      have HFF := hideL (HF.out W9 (bel0Z HB3.out.2 b9))
      clear b9
      go_wp2_with fail
      go_ret
      exact ⟨rfl, HFF.out⟩
    · go_wp2_with fail
      refine (hKK.out).mono ?_
      rintro e W9 ⟨rfl, b9⟩
      have HFF := hideL (HF.out W9 (bel0Z HB3.out.2 b9))
      clear b9
      go_wp2_with fail
      go_ret
      exact ⟨rfl, HFF.out⟩
    · go_wp2_with fail
      refine (hKK.out).mono ?_
      rintro e W9 ⟨rfl, b9⟩
      have HFF := hideL (HF.out W9 (bel0Z HB3.out.2 b9))
      clear b9
      go_wp2_with fail
      go_ret
      exact ⟨rfl, HFF.out⟩
end Go.Proofs.YtbplhianpelmfaaGreatDoor.Nt
