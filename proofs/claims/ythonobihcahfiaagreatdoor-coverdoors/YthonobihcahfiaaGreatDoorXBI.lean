import Derived.Test.YthonobihcahfiaaGreatDoorXBH
namespace Go.Proofs.YthonobihcahfiaaGreatDoor.Nt
open Go.RowKit Go.Shelf
theorem info_intN : (Tryz.prog.info? 3).map (fun i => (i.zero, i.size, i.bytes)) = some (some (.int .i64 0), 1, 8) := by kernel_rfl
theorem pushI {W : World} {B : Nat} {p : Option Addr} {n n9 c : Nat} {L : List Int} (h : W.ownsRow B 3 1 (.slice p n c) n (inZ L)) (hB : B ≤ W.heap.size) (x : Int) (hn : n + 1 = n9) (hO : n9 * 8 ≤ 140737488355328) :
    ∃ q c9 W9, (Builtin.append_ #[34, 34] 34 #[.slice p n c, .slice (some ⟨W.heap.size, 0, none⟩) 1 1]).run Tryz.prog (W.alloc (.cells #[.int .i64 x] 3 (0, 0))) = .ok (.slice q n9 c9) W9 ∧ W9.ownsRow B 3 1 (.slice q n9 c9) n9 (inZ (L ++ [x])) ∧ Below B W W9 ∧ (∀ b o, W.heap[b]? = some o → (Value.slice p n c).ownBlock ≠ some b → W9.heap[b]? = some o) := by
  subst hn
  obtain ⟨i0, hi, hz0, hz1, hz2⟩ := info_parts info_intN
  obtain ⟨q, c9, W9, hr, o9, b9, kp, -⟩ := pushR (W := W) (TS := 34) (cs := #[.int .i64 x]) Tryz.underlying34 hi hz0 hz1 hz2 rfl (by decide) h hB rfl (fun u hu => by
    have hu : u = .int .i64 x := by simpa using hu
    rw [hu]
    rfl) hO (by omega)
  refine ⟨q, c9, W9, hr, ?_, b9, kp⟩
  have e : inZ (L ++ [x]) = inZ L ++ [.int .i64 x] := by simp [inZ]
  rw [e]
  simpa using o9
theorem own_li {W : World} {B n c : Nat} {p : Option Addr} {L : List Int} (h : W.ownsRow B 3 1 (.slice p n c) n (inZ L)) (hn : L.length = n) : LI W p L := fun k x hx => by
  have hk := (List.getElem?_eq_some_iff.1 hx).1
  obtain ⟨g, rfl⟩ := own_someZ h (by omega)
  exact ⟨g, 0, rfl, by rw [Nat.zero_add]; exact own_atZ h (by simp [inZ, hx])⟩
def isD (n : NN) (j : Nat) : Bool := match n.ports[j]? with
  | some x => x.inn && !(n.ports.any (fun y => decide (y.lk = (j : Int))))
  | none => false
def dL (n : NN) (k : Nat) : List Int := ((List.range k).filter (isD n)).map (fun (j : Nat) => (j : Int))
theorem dL_yes {n : NN} {k : Nat} (h : isD n k = true) : dL n (k + 1) = dL n k ++ [(k : Int)] := by simp [dL, List.range_succ, List.filter_append, h]
theorem dL_no {n : NN} {k : Nat} (h : isD n k = false) : dL n (k + 1) = dL n k := by simp [dL, List.range_succ, List.filter_append, h]
theorem dL_len (n : NN) (k : Nat) : (dL n k).length ≤ k := by
  unfold dL
  rw [List.length_map]
  exact Nat.le_trans (List.length_filter_le _ _) (by rw [List.length_range]; exact Nat.le_refl _)
def cnL (n : NN) (k j : Nat) : Nat := ((n.ports.take k).filter (fun y => decide (y.lk = (j : Int)))).length
theorem cnL_le (n : NN) (k j : Nat) : cnL n k j ≤ k := Nat.le_trans (List.length_filter_le _ _) (List.length_take_le _ _)
theorem cnL_yes {n : NN} {k j : Nat} {x : NP} (hx : n.ports[k]? = some x) (h : x.lk = (j : Int)) : cnL n (k + 1) j = cnL n k j + 1 := by
  simp [cnL, List.take_add_one, hx, List.filter_append, h]
theorem cnL_no {n : NN} {k j : Nat} {x : NP} (hx : n.ports[k]? = some x) (h : x.lk ≠ (j : Int)) : cnL n (k + 1) j = cnL n k j := by
  simp [cnL, List.take_add_one, hx, List.filter_append, h]
theorem cnL_zero {n : NN} {k j : Nat} (hk : n.ports.length = k) : cnL n k j = 0 ↔ n.ports.any (fun y => decide (y.lk = (j : Int))) = false := by
  unfold cnL
  rw [List.take_of_length_le (by omega), List.length_eq_zero_iff, List.filter_eq_nil_iff]
  simp
theorem isD_of {n : NN} {k j : Nat} {x : NP} (hk : n.ports.length = k) (hx : n.ports[j]? = some x) : isD n j = (x.inn && decide (cnL n k j = 0)) := by
  unfold isD
  rw [hx]
  simp only
  congr 1
  by_cases h : cnL n k j = 0
  · rw [(cnL_zero hk).1 h]; simp [h]
  · have h9 : n.ports.any (fun y => decide (y.lk = (j : Int))) = true := by
      cases hh : n.ports.any (fun y => decide (y.lk = (j : Int))) with
      | true => rfl
      | false => exact absurd ((cnL_zero hk).2 hh) h
    rw [h9]; simp [h]
noncomputable def dAll (n : NN) : List Int := if pb (NetP n) = true then dL n n.ports.length else []
def DRQ (n : NN) (w : World) (e : Ending) (w' : World) : Prop := ∃ p c, e = .returned (.tuple #[.slice p (dAll n).length c, .int .i64 (if pb (NetP n) = true then 0 else 90)]) ∧ w'.ownsRow w.heap.size 3 1 (.slice p (dAll n).length c) (dAll n).length (inZ (dAll n)) ∧ Below w.heap.size w w'
theorem drq_no {n : NN} {w w' : World} (h : pb (NetP n) = false) (hb : Below w.heap.size w w') : DRQ n w (.returned (.tuple #[.slice none 0 0, .int .i64 90])) w' := by
  have e : dAll n = [] := by unfold dAll; rw [h]; rfl
  refine ⟨none, 0, ?_, ?_, hb⟩
  · rw [e, h]; rfl
  · rw [e]; exact World.ownsRow_nil _ _ _ _
theorem drq_yes {n : NN} {w w' : World} {p : Option Addr} {c m : Nat} (h : pb (NetP n) = true) (hm : (dL n n.ports.length).length = m) (ho : w'.ownsRow w.heap.size 3 1 (.slice p m c) m (inZ (dL n n.ports.length))) (hb : Below w.heap.size w w') : DRQ n w (.returned (.tuple #[.slice p m c, .int .i64 0])) w' := by
  have e : dAll n = dL n n.ports.length := by unfold dAll; rw [h]; rfl
  refine ⟨p, c, ?_, ?_, hb⟩
  · rw [e, h, hm]; rfl
  · rw [e, hm]; exact ho
def LKC (w wr : World) (B gl np : Nat) (N : Array Value) (n : NN) (k : Nat) : Prop := wr.heap[gl]? = some (.cells (vA np (fun j => .int .i64 (cnL n k j : Int))) 3 (0, 0)) ∧ wr.heap[B]? = some (.cells N 26 (0, 0)) ∧ Below B w wr ∧ B < gl
theorem LKC.same {w wr W : World} {B gl np k : Nat} {N : Array Value} {n : NN} {x : NP} (h : LKC w wr B gl np N n k) (hb : Below wr.heap.size wr W) (hx : n.ports[k]? = some x) (hlk : x.lk < 0) : LKC w W B gl np N n (k + 1) := by
  obtain ⟨h1, h2, h3, h4⟩ := h
  have e : vA np (fun j => (Value.int .i64 (cnL n (k + 1) j : Int))) = vA np (fun j => .int .i64 (cnL n k j : Int)) := vA_congr (fun j _ => by rw [cnL_no hx (by omega)])
  exact ⟨by rw [e]; exact keepZ hb h1, keepZ hb h2, h3.trans (hb.mono (by have := lt_getZ h2; omega)), h4⟩
theorem LKC.step {w wr W : World} {B gl np k t : Nat} {N : Array Value} {n : NN} {x : NP} (h : LKC w wr B gl np N n k) (hb : Below wr.heap.size wr W) (hx : n.ports[k]? = some x) (hlk : x.lk = (t : Int)) (v : Int) (hv : (cnL n k t : Int) + 1 = v) : LKC w (W.setCell ⟨gl, t, none⟩ (.int .i64 v)) B gl np N n (k + 1) := by
  obtain ⟨h1, h2, h3, h4⟩ := h
  have e : (vA np (fun j => (Value.int .i64 (cnL n k j : Int)))).setIfInBounds t (.int .i64 v) = vA np (fun j => .int .i64 (cnL n (k + 1) j : Int)) := by
    rw [vA_set]
    refine vA_congr (fun j _ => ?_)
    by_cases hj : j = t
    · subst hj
      rw [if_pos rfl, cnL_yes hx hlk, ← hv]
      rfl
    · rw [if_neg hj, cnL_no hx (by omega)]
  refine ⟨?_, ?_, (h3.trans (hb.mono (by have := lt_getZ h2; omega))).setCell (by show B ≤ gl; omega) _, h4⟩
  · rw [← e]; exact set_getZ _ (keepZ hb h1)
  · rw [far1 _ _ _ _ _ (by omega)]; exact keepZ hb h2
set_option maxRecDepth 100000 in
set_option maxHeartbeats 16000000 in
theorem xdoors_any (n : NN) (v : NV) (w : World) (hN : LN w n v) (hO : okN n) (hT : TAB w) :
    Calls Tryz.prog 9 #[.agg (nnA n v)] w (DRQ n w) := by
  have hval := fun U (hU : Below w.heap.size w U) => xvalid_any n v U (hN.below hU) hO (hT.at hU)
  obtain ⟨pp, cp, pt, ct, pg, cg⟩ := v
  obtain ⟨np, hnp⟩ : ∃ np, n.ports.length = np := ⟨_, rfl⟩
  obtain ⟨nt, hnt⟩ : ∃ nt, n.tabs.length = nt := ⟨_, rfl⟩
  obtain ⟨ng, hng⟩ : ∃ ng, n.grds.length = ng := ⟨_, rfl⟩
  obtain ⟨bits, hbits⟩ : ∃ bits, n.bits = bits := ⟨_, rfl⟩
  have hE : nnA n ⟨pp, cp, pt, ct, pg, cg⟩ = #[.int .i64 bits, .slice pp np cp, .slice pt nt ct, .slice pg ng cg] := by unfold nnA; rw [hnp, hnt, hng, hbits]
  rw [hE] at hval ⊢
  have hnp8 : np * 40 ≤ 140737488351232 := by have := hO.1; omega
  have hmk := make_rints np (by omega)
  obtain ⟨B, hB⟩ : ∃ B, w.heap.size = B := ⟨_, rfl⟩
  obtain ⟨W1, hW1⟩ : ∃ W1, w.alloc (.cells #[.int .i64 bits, .slice pp np cp, .slice pt nt ct, .slice pg ng cg] 26) = W1 := ⟨_, rfl⟩
  have b1 : Below w.heap.size w W1 := by rw [← hW1]; exact belAZ (Below.refl _ _) _
  have k1 : W1.heap[B]? = some (.cells #[.int .i64 bits, .slice pp np cp, .slice pt nt ct, .slice pg ng cg] 26 (0, 0)) := by rw [← hW1, ← hB]; exact alloc_getZ _ _
  have HC : Hid (∀ U : World, U.heap[B]? = some (.cells #[.int .i64 bits, .slice pp np cp, .slice pt nt ct, .slice pg ng cg] 26 (0, 0)) → U.cell? ⟨B, 0, none⟩ = some (.int .i64 bits) ∧ U.cell? ⟨B, 1, none⟩ = some (.slice pp np cp) ∧ U.cell? ⟨B, 2, none⟩ = some (.slice pt nt ct) ∧ U.cell? ⟨B, 3, none⟩ = some (.slice pg ng cg)) := fun U hU => by
    have e1 := (cellsZ hU).1
    exact ⟨by rw [e1]; rfl, by rw [e1]; rfl, by rw [e1]; rfl, by rw [e1]; rfl⟩
  have HV : Hid (∀ U, Below W1.heap.size W1 U → Calls Tryz.prog 5 #[.agg #[.int .i64 bits, .slice pp np cp, .slice pt nt ct, .slice pg ng cg]] U fun e w' => e = .returned (.int .i64 (if pb (NetP n) = true then 0 else 90)) ∧ Below U.heap.size U w') := fun U hU => hval U (bel0Z b1 hU)
  have HN : Hid (n.ports.length = np ∧ LN w n ⟨pp, cp, pt, ct, pg, cg⟩) := ⟨hnp, hN⟩
  have HK1 := hideL k1
  have HB1 := hideL hB
  have HBW : Hid (∀ U, Below W1.heap.size W1 U → Below B w U) := fun U hU => by rw [← hB]; exact bel0Z b1 hU
  have HLT : Hid (∀ U, Below B w U → Below w.heap.size w U) := fun U hU => by rw [hB]; exact hU
  have HW := hideL hW1
  clear hval hnp hnt hng hbits hE hB hW1 b1 k1 hN hO hT
  obtain ⟨q0, q1, q2, q3⟩ := HC.out W1 HK1.out
  go_enter Tryz.func9, Tryz.ntmps9
  go_upto_region 1 with fail
  rw [HW.out, HB1.out]
  cases hpb : pb (NetP n) with
  | false =>
    have h9 : (if pb (NetP n) = true then (0 : Int) else 90) = 90 := by rw [hpb]; rfl
    have HVV := HV.out W1 (Below.refl _ _)
    rw [h9] at HVV
    have HVV := hideL HVV
    have HPB := hideL hpb
    clear h9 hpb
    go_wp2_with fail
    refine (HVV.out).mono ?_
    rintro e W2 ⟨rfl, c2⟩
    have HFF := hideL (HLT.out W2 (HBW.out W2 c2))
    clear c2 q0 q1 q2 q3
    go_wp2_with fail
    refine bodyPost_ret (results_tmp2 rfl _ _ _) rfl ?_
    exact drq_no HPB.out HFF.out
  | true =>
    have h9 : (if pb (NetP n) = true then (0 : Int) else 90) = 0 := by rw [hpb]; rfl
    have HVV := HV.out W1 (Below.refl _ _)
    rw [h9] at HVV
    have HVV := hideL HVV
    have HPB := hideL hpb
    have HPP := hideL (pb_iff.1 hpb)
    clear h9 hpb
    go_wp2_with fail
    refine (HVV.out).mono ?_
    rintro e W2 ⟨rfl, c2⟩
    have hk2 := keepZ c2 HK1.out
    have hb2 := HBW.out W2 c2
    clear c2 q0 q1 q2 q3
    obtain ⟨q0, q1, q2, q3⟩ := HC.out W2 hk2
    obtain ⟨gl, hgl⟩ : ∃ gl, W2.heap.size = gl := ⟨_, rfl⟩
    obtain ⟨W3, hW3⟩ : ∃ W3, W2.alloc (.cells (vA np (fun _ => (.int .i64 0))) 3) = W3 := ⟨_, rfl⟩
    have H3 : Hid (LKC w W3 B gl np #[.int .i64 bits, .slice pp np cp, .slice pt nt ct, .slice pg ng cg] n 0) := by
      have hbl := lt_getZ hk2
      refine ⟨?_, ?_, ?_, by omega⟩
      · rw [← hW3, ← hgl, vA_congr (g := fun _ => (.int .i64 0)) (fun j _ => by simp)]; exact alloc_getZ _ _
      · rw [← hW3]; exact keepZ (belAZ (Below.refl _ _) _) hk2
      · rw [← hW3]; exact hb2.trans ((belAZ (Below.refl _ _) _).mono (by omega))
    have HW3 := hideL hW3
    have HGL := hideL hgl
    clear hk2 hb2 hW3 hgl
    go_upto_region 5 with fail
    rw [HW3.out, HGL.out]
    clear q0 q1 q2 q3
    obtain ⟨q0, q1, q2, q3⟩ := HC.out W3 H3.out.2.1
    go_wp2_with fail
    clear q0 q1 q2 q3
    go_loopw [22] (fun vk wr => ∃ k : Nat, vk = .int .i64 (k : Int) ∧ k ≤ np ∧ Hid (LKC w wr B gl np #[.int .i64 bits, .slice pp np cp, .slice pt nt ct, .slice pg ng cg] n k)) (fun vk _ => np - (intOf vk).toNat)
    case atStart => exact ⟨0, rfl, Nat.zero_le _, H3⟩
    case round =>
      clear H3
      obtain ⟨k, rfl, hk, HS⟩ := hrel
      obtain ⟨q0, q1, q2, q3⟩ := HC.out wr HS.out.2.1
      by_cases hlt : k < np
      · obtain ⟨x, hx⟩ : ∃ x, n.ports[k]? = some x := ⟨_, List.getElem?_eq_getElem (by have := HN.out.1; omega)⟩
        obtain ⟨k9, hk9⟩ : ∃ k9, k + 1 = k9 := ⟨_, rfl⟩
        obtain ⟨g, o, e9, c0, c1, c2, c3⟩ := (HN.out.2.below (HLT.out wr HS.out.2.2.1)).1 k x hx
        simp only at e9
        subst e9
        have HK9 := hideL hk9
        have j0 : (0 : Int) ≤ (k : Int) := by omega
        have j1 : (k : Int) < (np : Int) := by omega
        obtain ⟨W4, hW4⟩ : ∃ W4, wr.alloc (.cells #[.string ⟨x.nm.toArray⟩, .int .i64 x.bx, .bool x.inn, .int .i64 x.lk] 38) = W4 := ⟨_, rfl⟩
        have b4 : Below wr.heap.size wr W4 := by rw [← hW4]; exact belAZ (Below.refl _ _) _
        obtain ⟨r, hr⟩ : ∃ r, wr.heap.size = r := ⟨_, rfl⟩
        have s4 : W4.heap[r]? = some (.cells #[.string ⟨x.nm.toArray⟩, .int .i64 x.bx, .bool x.inn, .int .i64 x.lk] 38 (0, 0)) := by rw [← hW4, ← hr]; exact alloc_getZ _ _
        have l3 : W4.cell? ⟨r, 3, none⟩ = some (.int .i64 x.lk) := by rw [(cellsZ s4).1]; rfl
        have HW4 := hideL hW4
        have HR := hideL hr
        have hPP := HPP.out.2.2.2.1.1 x (List.mem_of_getElem? hx)
        have hcase := hPP.2.2.2
        rcases hcase with hm1 | ⟨-, hp1, hp2, -⟩
        · have hlk : x.lk < 0 := by omega
          have HS9 := hideL (HS.out.same b4 hx hlk)
          rw [hk9] at HS9
          rw [hm1] at l3
          clear hx hk9 hW4 hr b4 s4 hPP hlk hm1
          go_upto_region 8 with fail
          rw [HW4.out, HR.out]
          clear c0 c1 c2 c3 q0 q1 q2 q3
          go_wp2_with fail
          go_roundw
          case rel => exact ⟨k9, by rw [← HK9.out]; go_num, by have := HK9.out; omega, HS9⟩
          case measure => have := HK9.out; simp [intOf]; omega
        · obtain ⟨t, ht⟩ : ∃ t : Nat, x.lk = (t : Int) := ⟨x.lk.toNat, by omega⟩
          have ht9 : t < np := by have := HN.out.1; omega
          obtain ⟨a, ha⟩ : ∃ a, cnL n k t = a := ⟨_, rfl⟩
          have hale : a ≤ np := by have := cnL_le n k t; omega
          obtain ⟨a9, ha9⟩ : ∃ a9 : Nat, a + 1 = a9 := ⟨_, rfl⟩
          have HS9 := hideL (HS.out.step b4 hx ht (a9 : Int) (by omega))
          rw [hk9] at HS9
          rw [ht] at l3
          have hgc := cellsZ (keepZ b4 HS.out.1)
          have l4 : W4.cell? ⟨gl, t, none⟩ = some (.int .i64 (a : Int)) := by rw [hgc.1, vA_get ht9, ha]
          have f4 := hgc.2 t
          have i0 : (0 : Int) ≤ (t : Int) := by omega
          have i1 : (t : Int) < (np : Int) := by omega
          have i2 : (a : Int) + 1 = (a9 : Int) := by omega
          have i3 : IntKind.i64.wrap (a9 : Int) = (a9 : Int) := by rw [IntKind.wrap_i64]; omega
          clear hx hk9 hW4 hr b4 s4 hPP hgc ha ha9 ht hp1 hp2
          go_upto_region 8 with fail
          rw [HW4.out, HR.out]
          clear c0 c1 c2 c3 q0 q1 q2 q3
          go_wp2_with fail
          go_roundw
          case rel => exact ⟨k9, by rw [← HK9.out]; go_num, by have := HK9.out; omega, HS9⟩
          case measure => have := HK9.out; simp [intOf]; omega
      · obtain rfl : k = np := by omega
        have j1 : ¬ (k : Int) < (k : Int) := by omega
        obtain ⟨w0, rfl⟩ : ∃ w0, w0 = wr := ⟨wr, rfl⟩
        obtain ⟨B0, hB0⟩ : ∃ B0, w0.heap.size = B0 := ⟨_, rfl⟩
        have HB0 : Hid (w0.heap.size = B0 ∧ gl < B0 ∧ B < B0) := ⟨hB0, by rw [← hB0]; exact lt_getZ HS.out.1, by rw [← hB0]; exact lt_getZ HS.out.2.1⟩
        have HU : Hid (∀ U, Below B0 w0 U → U.heap[gl]? = some (.cells (vA k (fun j => .int .i64 (cnL n k j : Int))) 3 (0, 0)) ∧ U.heap[B]? = some (.cells #[.int .i64 bits, .slice pp k cp, .slice pt nt ct, .slice pg ng cg] 26 (0, 0)) ∧ Below B w U) := fun U hU => by
          obtain ⟨h1, h2, h3, -⟩ := HS.out
          have hh := HB0.out
          exact ⟨(hU.block gl hh.2.1).trans h1, (hU.block B hh.2.2).trans h2, h3.trans (hU.mono (by omega))⟩
        clear hB0
        go_wp2_with fail
        clear q0 q1 q2 q3
        go_loopw [8, 40] (fun v8 vk wr => ∃ (i m c : Nat) (p : Option Addr), v8 = .slice p m c ∧ vk = .int .i64 (i : Int) ∧ i ≤ k ∧ Hid ((dL n i).length = m ∧ wr.ownsRow B0 3 1 (.slice p m c) m (inZ (dL n i)) ∧ Below B0 w0 wr)) (fun _ vk _ => k - (intOf vk).toNat)
        case atStart => exact ⟨0, 0, 0, none, rfl, rfl, Nat.zero_le _, rfl, World.ownsRow_nil _ _ _ _, Below.refl _ _⟩
        case round =>
          obtain ⟨i, m, c, p, rfl, rfl, hi, HD⟩ := hrel
          obtain ⟨u1, u2, u3⟩ := HU.out wr HD.out.2.2
          obtain ⟨q0, q1, q2, q3⟩ := HC.out wr u2
          by_cases hlt : i < k
          · obtain ⟨x, hx⟩ : ∃ x, n.ports[i]? = some x := ⟨_, List.getElem?_eq_getElem (by have := HN.out.1; omega)⟩
            obtain ⟨i9, hi9⟩ : ∃ i9, i + 1 = i9 := ⟨_, rfl⟩
            obtain ⟨g, o, e9, c0, c1, c2, c3⟩ := (HN.out.2.below (HLT.out wr u3)).1 i x hx
            simp only at e9
            subst e9
            have HI9 := hideL hi9
            have j4 : (0 : Int) ≤ (i : Int) := by omega
            have j5 : (i : Int) < (k : Int) := by omega
            have l4 : wr.cell? ⟨gl, i, none⟩ = some (.int .i64 (cnL n k i : Int)) := by rw [(cellsZ u1).1, vA_get hlt]
            have hD := isD_of HN.out.1 hx
            by_cases hin : x.inn = true
            · rw [hin] at c2 hD
              by_cases hz : cnL n k i = 0
              · rw [hz] at l4
                rw [show decide (cnL n k i = 0) = true by rw [hz]; rfl] at hD
                have hd9 := dL_yes hD
                obtain ⟨q9, c9, W9, hr9, o9, b9, -⟩ := pushI HD.out.2.1 (by have := HD.out.2.2.size; have := HB0.out.1; omega) (i : Int) rfl (by have := HN.out.1; have := dL_len n i; have := HD.out.1; omega)
                obtain ⟨m9, hm9⟩ : ∃ m9, m + 1 = m9 := ⟨_, rfl⟩
                rw [hm9] at hr9 o9
                have HD9 : Hid ((dL n i9).length = m9 ∧ W9.ownsRow B0 3 1 (.slice q9 m9 c9) m9 (inZ (dL n i9)) ∧ Below B0 w0 W9) := by
                  rw [← hi9, hd9]
                  exact ⟨by rw [List.length_append, List.length_singleton, HD.out.1, hm9], o9, HD.out.2.2.trans b9⟩
                clear hx hi9 hD hd9 u1 u2 u3 hin hz o9 b9 hm9 HD
                go_wp2_with (at_builtin; refine wpList_runZ rfl _ _ _ rfl rfl rfl hr9 ?_)
                clear q0 q1 q2 q3 c0 c1 c2 c3 l4 hr9
                go_wp2_with fail
                go_roundw
                case rel => exact ⟨i9, m9, c9, q9, rfl, by rw [← HI9.out]; go_num, by have := HI9.out; omega, HD9⟩
                case measure => have := HI9.out; simp [intOf]; omega
              · have hz9 : ((cnL n k i : Int) == 0) = false := by simpa using hz
                obtain ⟨a, ha⟩ : ∃ a, cnL n k i = a := ⟨_, rfl⟩
                rw [ha] at l4 hz9
                rw [show decide (cnL n k i = 0) = false by simpa using hz] at hD
                have hd9 := dL_no hD
                have HD9 : Hid ((dL n i9).length = m ∧ wr.ownsRow B0 3 1 (.slice p m c) m (inZ (dL n i9)) ∧ Below B0 w0 wr) := by
                  rw [← hi9, hd9]
                  exact HD
                clear hx hi9 hD hd9 u1 u2 u3 hin hz ha HD
                go_wp2_with fail
                go_roundw
                case rel => exact ⟨i9, m, c, p, rfl, by rw [← HI9.out]; go_num, by have := HI9.out; omega, HD9⟩
                case measure => have := HI9.out; simp [intOf]; omega
            · have hin : x.inn = false := by simpa using hin
              rw [hin] at c2 hD
              have hd9 := dL_no hD
              have HD9 : Hid ((dL n i9).length = m ∧ wr.ownsRow B0 3 1 (.slice p m c) m (inZ (dL n i9)) ∧ Below B0 w0 wr) := by
                rw [← hi9, hd9]
                exact HD
              clear hx hi9 hD hd9 u1 u2 u3 hin HD l4
              go_wp2_with fail
              go_roundw
              case rel => exact ⟨i9, m, c, p, rfl, by rw [← HI9.out]; go_num, by have := HI9.out; omega, HD9⟩
              case measure => have := HI9.out; simp [intOf]; omega
          · obtain rfl : i = k := by omega
            have j5 : ¬ (i : Int) < (i : Int) := by omega
            have HF : Hid ((dL n n.ports.length).length = m ∧ wr.ownsRow w.heap.size 3 1 (.slice p m c) m (inZ (dL n n.ports.length)) ∧ Below w.heap.size w wr) := by
              rw [HN.out.1]
              have hh := HB0.out
              have hw := (HLT.out wr u3)
              refine ⟨HD.out.1, own_baseZ HD.out.2.1 ?_, hw⟩
              have h9 := (HLT.out w0 (HU.out w0 (Below.refl _ _)).2.2).size
              omega
            clear u1 u2 u3 HD
            go_wp2_with fail
            refine bodyPost_ret (results_tmp2 rfl _ _ _) rfl ?_
            exact drq_yes HPB.out HF.out.1 HF.out.2.1 HF.out.2.2
end Go.Proofs.YthonobihcahfiaaGreatDoor.Nt
namespace Go.Proofs.YthonobihcahfiaaGreatDoor.Nt
open Go.RowKit Go.Shelf
def tq (n : NN) (k j : Nat) : Bool := (n.ports.take k).any (fun y => decide (y.lk = (j : Int)))
theorem tq_yes {n : NN} {k j : Nat} {x : NP} (hx : n.ports[k]? = some x) (h : x.lk = (j : Int)) : tq n (k + 1) j = true := by
  simp [tq, List.take_add_one, hx, h]
theorem tq_no {n : NN} {k j : Nat} {x : NP} (hx : n.ports[k]? = some x) (h : x.lk ≠ (j : Int)) : tq n (k + 1) j = tq n k j := by
  simp [tq, List.take_add_one, hx, h]
theorem isD_tq {n : NN} {k j : Nat} {x : NP} (hk : n.ports.length = k) (hx : n.ports[j]? = some x) : isD n j = (x.inn && !(tq n k j)) := by
  unfold isD tq
  rw [hx, List.take_of_length_le (by omega)]
set_option maxRecDepth 100000 in
set_option maxHeartbeats 16000000 in
theorem ydoors_any (n : NN) (v : NV) (w : World) (hN : LN w n v) (hO : okN n) :
    Calls Tryz.prog 10 #[.agg (nnA n v)] w (DRQ n w) := by
  have hval := fun U (hU : Below w.heap.size w U) => yvalid_any n v U (hN.below hU) hO
  obtain ⟨pp, cp, pt, ct, pg, cg⟩ := v
  obtain ⟨np, hnp⟩ : ∃ np, n.ports.length = np := ⟨_, rfl⟩
  obtain ⟨nt, hnt⟩ : ∃ nt, n.tabs.length = nt := ⟨_, rfl⟩
  obtain ⟨ng, hng⟩ : ∃ ng, n.grds.length = ng := ⟨_, rfl⟩
  obtain ⟨bits, hbits⟩ : ∃ bits, n.bits = bits := ⟨_, rfl⟩
  have hE : nnA n ⟨pp, cp, pt, ct, pg, cg⟩ = #[.int .i64 bits, .slice pp np cp, .slice pt nt ct, .slice pg ng cg] := by unfold nnA; rw [hnp, hnt, hng, hbits]
  rw [hE] at hval ⊢
  have hnp8 : np * 40 ≤ 140737488351232 := by have := hO.1; omega
  have hnp7 : np ≤ 140737488351232 := by omega
  obtain ⟨B, hB⟩ : ∃ B, w.heap.size = B := ⟨_, rfl⟩
  obtain ⟨W1, hW1⟩ : ∃ W1, w.alloc (.cells #[.int .i64 bits, .slice pp np cp, .slice pt nt ct, .slice pg ng cg] 26) = W1 := ⟨_, rfl⟩
  have b1 : Below w.heap.size w W1 := by rw [← hW1]; exact belAZ (Below.refl _ _) _
  have k1 : W1.heap[B]? = some (.cells #[.int .i64 bits, .slice pp np cp, .slice pt nt ct, .slice pg ng cg] 26 (0, 0)) := by rw [← hW1, ← hB]; exact alloc_getZ _ _
  have HC : Hid (∀ U : World, U.heap[B]? = some (.cells #[.int .i64 bits, .slice pp np cp, .slice pt nt ct, .slice pg ng cg] 26 (0, 0)) → U.cell? ⟨B, 0, none⟩ = some (.int .i64 bits) ∧ U.cell? ⟨B, 1, none⟩ = some (.slice pp np cp) ∧ U.cell? ⟨B, 2, none⟩ = some (.slice pt nt ct) ∧ U.cell? ⟨B, 3, none⟩ = some (.slice pg ng cg)) := fun U hU => by
    have e1 := (cellsZ hU).1
    exact ⟨by rw [e1]; rfl, by rw [e1]; rfl, by rw [e1]; rfl, by rw [e1]; rfl⟩
  have HV : Hid (∀ U, Below W1.heap.size W1 U → Calls Tryz.prog 7 #[.agg #[.int .i64 bits, .slice pp np cp, .slice pt nt ct, .slice pg ng cg]] U fun e w' => e = .returned (.int .i64 (if pb (NetP n) = true then 0 else 90)) ∧ Below U.heap.size U w') := fun U hU => hval U (bel0Z b1 hU)
  have HN : Hid (n.ports.length = np ∧ LN w n ⟨pp, cp, pt, ct, pg, cg⟩ ∧ np * 40 ≤ 140737488351232) := ⟨hnp, hN, hnp8⟩
  have HU : Hid (∀ U, Below W1.heap.size W1 U → U.heap[B]? = some (.cells #[.int .i64 bits, .slice pp np cp, .slice pt nt ct, .slice pg ng cg] 26 (0, 0)) ∧ Below w.heap.size w U) := fun U hU => ⟨keepZ hU k1, bel0Z b1 hU⟩
  have HB1 := hideL hB
  have HBW := hideL b1.size
  have HW := hideL hW1
  clear hval hnp hnt hng hbits hE hB hW1 b1 k1 hN hO hnp8
  obtain ⟨q0, q1, q2, q3⟩ := HC.out W1 (HU.out W1 (Below.refl _ _)).1
  go_enter Tryz.func10, Tryz.ntmps10
  go_upto_region 1 with fail
  rw [HW.out, HB1.out]
  cases hpb : pb (NetP n) with
  | false =>
    have h9 : (if pb (NetP n) = true then (0 : Int) else 90) = 90 := by rw [hpb]; rfl
    have HVV := HV.out W1 (Below.refl _ _)
    rw [h9] at HVV
    have HVV := hideL HVV
    have HPB := hideL hpb
    clear h9 hpb
    go_wp2_with fail
    refine (HVV.out).mono ?_
    rintro e W2 ⟨rfl, c2⟩
    have HFF := hideL (HU.out W2 c2).2
    clear c2 q0 q1 q2 q3
    go_wp2_with fail
    refine bodyPost_ret (results_tmp2 rfl _ _ _) rfl ?_
    exact drq_no HPB.out HFF.out
  | true =>
    have h9 : (if pb (NetP n) = true then (0 : Int) else 90) = 0 := by rw [hpb]; rfl
    have HVV := HV.out W1 (Below.refl _ _)
    rw [h9] at HVV
    have HVV := hideL HVV
    have HPB := hideL hpb
    clear h9 hpb
    go_wp2_with fail
    refine (HVV.out).mono ?_
    rintro e W2 ⟨rfl, c2⟩
    have H2 := hideL c2
    clear c2 q0 q1 q2 q3
    go_wp2_with fail
    go_loopw [5, 6] (fun v5 vk wr => ∃ (i m c : Nat) (p : Option Addr), v5 = .slice p m c ∧ vk = .int .i64 (i : Int) ∧ i ≤ np ∧ Hid ((dL n i).length = m ∧ wr.ownsRow W1.heap.size 3 1 (.slice p m c) m (inZ (dL n i)) ∧ Below W1.heap.size W1 wr)) (fun _ vk _ => np - (intOf vk).toNat)
    case atStart => exact ⟨0, 0, 0, none, rfl, rfl, Nat.zero_le _, rfl, World.ownsRow_nil _ _ _ _, H2⟩
    case round =>
      clear H2
      obtain ⟨i, m, c, p, rfl, rfl, hi, HD⟩ := hrel
      obtain ⟨u1, u2⟩ := HU.out wr HD.out.2.2
      obtain ⟨q0, q1, q2, q3⟩ := HC.out wr u1
      by_cases hlt : i < np
      · obtain ⟨x, hx⟩ : ∃ x, n.ports[i]? = some x := ⟨_, List.getElem?_eq_getElem (by have := HN.out.1; omega)⟩
        obtain ⟨i9, hi9⟩ : ∃ i9, i + 1 = i9 := ⟨_, rfl⟩
        have HI9 := hideL hi9
        have HX := hideL hx
        have j4 : (0 : Int) ≤ (i : Int) := by omega
        have j5 : (i : Int) < (np : Int) := by omega
        have HR : Hid (∀ U, U = wr → LP U pp n.ports) := fun U hU => by rw [hU]; exact (HN.out.2.1.below u2).1
        obtain ⟨w0, rfl⟩ : ∃ w0, w0 = wr := ⟨wr, rfl⟩
        clear hi9 hx u1 u2
        go_wp2_with fail
        clear q0 q1 q2 q3
        go_loopw [7, 8] (fun v7 vj wr => ∃ j : Nat, v7 = .bool (tq n j i) ∧ vj = .int .i64 (j : Int) ∧ j ≤ np ∧ Hid (wr = w0)) (fun _ vj _ => np - (intOf vj).toNat)
        case atStart => exact ⟨0, by simp [tq], rfl, Nat.zero_le _, rfl⟩
        case round =>
          obtain ⟨j, rfl, rfl, hj, HWR⟩ := hrel
          have h0 := HWR.out
          subst h0
          obtain ⟨u1, u2⟩ := HU.out wr HD.out.2.2
          obtain ⟨q0, q1, q2, q3⟩ := HC.out wr u1
          have hlp := HR.out wr rfl
          by_cases hlt2 : j < np
          · obtain ⟨y, hy⟩ : ∃ y, n.ports[j]? = some y := ⟨_, List.getElem?_eq_getElem (by have := HN.out.1; omega)⟩
            obtain ⟨g, o, e9, c0, c1, c2, c3⟩ := hlp j y hy
            subst e9
            have j6 : (0 : Int) ≤ (j : Int) := by omega
            have j7 : (j : Int) < (np : Int) := by omega
            by_cases hl : y.lk = (i : Int)
            · have ht := tq_yes hy hl
              have HT := hideL ht
              rw [hl] at c3
              clear hy hlp u1 u2 hl ht
              go_wp2_with fail
              go_roundw
              case rel => exact ⟨j + 1, by rw [HT.out], by go_num, by omega, by trivial⟩
              case measure => simp [intOf]; omega
            · have ht := tq_no hy hl
              have HT := hideL ht
              obtain ⟨lk, hlk⟩ : ∃ lk, y.lk = lk := ⟨_, rfl⟩
              rw [hlk] at c3 hl
              have hl9 : (lk == (i : Int)) = false := by simpa using hl
              clear hy hlp u1 u2 ht hl hlk
              go_wp2_with fail
              go_roundw
              case rel => exact ⟨j + 1, by rw [HT.out], by go_num, by omega, by trivial⟩
              case measure => simp [intOf]; omega
          · obtain rfl : j = np := by omega
            have j7 : ¬ (j : Int) < (j : Int) := by omega
            obtain ⟨g, o, e9, c0, c1, c2, c3⟩ := hlp i x HX.out
            subst e9
            have hD := isD_tq HN.out.1 HX.out
            obtain ⟨b, hb⟩ : ∃ b, tq n j i = b := ⟨_, rfl⟩
            rw [hb] at hD
            rw [hb]
            have hb8 := HN.out.2.2
            by_cases hin : x.inn = true
            · rw [hin] at c2 hD
              cases b with
              | false =>
                have hd9 := dL_yes hD
                obtain ⟨q9, c9, W9, hr9, o9, b9, -⟩ := pushI HD.out.2.1 HD.out.2.2.size (i : Int) rfl (by have := dL_len n i; have := HD.out.1; omega)
                obtain ⟨m9, hm9⟩ : ∃ m9, m + 1 = m9 := ⟨_, rfl⟩
                rw [hm9] at hr9 o9
                have HD9 : Hid ((dL n i9).length = m9 ∧ W9.ownsRow W1.heap.size 3 1 (.slice q9 m9 c9) m9 (inZ (dL n i9)) ∧ Below W1.heap.size W1 W9) := by
                  rw [← HI9.out, hd9]
                  exact ⟨by rw [List.length_append, List.length_singleton, HD.out.1, hm9], o9, HD.out.2.2.trans b9⟩
                clear hD hd9 u1 u2 hin o9 b9 hm9 HD hb hlp HR hb8 HWR
                go_wp2_with (at_builtin; refine wpList_runZ rfl _ _ _ rfl rfl rfl hr9 ?_)
                clear q0 q1 q2 q3 c0 c1 c2 c3 hr9
                go_wp2_with fail
                go_roundw
                case rel => exact ⟨i9, m9, c9, q9, rfl, by rw [← HI9.out]; go_num, by have := HI9.out; omega, HD9⟩
                case measure => have := HI9.out; simp [intOf]; omega
              | true =>
                have hd9 := dL_no hD
                have HD9 : Hid ((dL n i9).length = m ∧ wr.ownsRow W1.heap.size 3 1 (.slice p m c) m (inZ (dL n i9)) ∧ Below W1.heap.size W1 wr) := by
                  rw [← HI9.out, hd9]
                  exact HD
                clear hD hd9 u1 u2 hin HD hb hlp HR hb8 HWR
                go_wp2_with fail
                go_roundw
                case rel => exact ⟨i9, m, c, p, rfl, by rw [← HI9.out]; go_num, by have := HI9.out; omega, HD9⟩
                case measure => have := HI9.out; simp [intOf]; omega
            · have hin : x.inn = false := by simpa using hin
              rw [hin] at c2 hD
              have hd9 := dL_no hD
              have HD9 : Hid ((dL n i9).length = m ∧ wr.ownsRow W1.heap.size 3 1 (.slice p m c) m (inZ (dL n i9)) ∧ Below W1.heap.size W1 wr) := by
                rw [← HI9.out, hd9]
                exact HD
              clear hD hd9 u1 u2 hin HD hb hlp HR hb8 HWR
              go_wp2_with fail
              go_roundw
              case rel => exact ⟨i9, m, c, p, rfl, by rw [← HI9.out]; go_num, by have := HI9.out; omega, HD9⟩
              case measure => have := HI9.out; simp [intOf]; omega
      · obtain rfl : i = np := by omega
        have j5 : ¬ (i : Int) < (i : Int) := by omega
        have HF : Hid ((dL n n.ports.length).length = m ∧ wr.ownsRow w.heap.size 3 1 (.slice p m c) m (inZ (dL n n.ports.length)) ∧ Below w.heap.size w wr) := by
          rw [HN.out.1]
          exact ⟨HD.out.1, own_baseZ HD.out.2.1 HBW.out, u2⟩
        clear u1 u2 HD
        go_wp2_with fail
        refine bodyPost_ret (results_tmp2 rfl _ _ _) rfl ?_
        exact drq_yes HPB.out HF.out.1 HF.out.2.1 HF.out.2.2
set_option maxRecDepth 100000 in
set_option maxHeartbeats 16000000 in
theorem eqi_any (L : List Int) (p1 p2 : Option Addr) (n c1 c2 : Nat) (w : World) (hn : L.length = n) (h1 : LI w p1 L) (h2 : LI w p2 L) (hO : n ≤ 140737488351232) :
    Calls Tryz.prog 11 #[.slice p1 n c1, .slice p2 n c2] w fun e w' => e = .returned (.bool true) ∧ Below w.heap.size w w' := by
  have HN : Hid (L.length = n ∧ (∀ U, Below w.heap.size w U → LI U p1 L) ∧ ∀ U, Below w.heap.size w U → LI U p2 L) := ⟨hn, fun U hU => h1.below hU, fun U hU => h2.below hU⟩
  clear hn h1 h2
  go_enter Tryz.func11, Tryz.ntmps11
  go_wp2_with fail
  go_loopw [5] (fun vk wr => ∃ k : Nat, vk = .int .i64 (k : Int) ∧ k ≤ n ∧ Hid (Below w.heap.size w wr)) (fun vk _ => n - (intOf vk).toNat)
  case atStart => exact ⟨0, rfl, Nat.zero_le _, Below.refl _ _⟩
  case round =>
    obtain ⟨k, rfl, hk, HB⟩ := hrel
    by_cases hlt : k < n
    · obtain ⟨x, hx⟩ : ∃ x, L[k]? = some x := ⟨_, List.getElem?_eq_getElem (by have := HN.out.1; omega)⟩
      obtain ⟨g1, o1, rfl, a0⟩ := HN.out.2.1 wr HB.out k x hx
      obtain ⟨g2, o2, rfl, b0⟩ := HN.out.2.2 wr HB.out k x hx
      have j0 : (0 : Int) ≤ (k : Int) := by omega
      have j1 : (k : Int) < (n : Int) := by omega
      clear hx
      go_wp2_with fail
      go_quiet (fail)
      go_wp2_with fail
      go_roundw
      case rel => exact ⟨k + 1, by go_num, by omega, bel_drewZ nq HB.out⟩
      case measure => simp [intOf]; omega
    · obtain rfl : k = n := by omega
      have j1 : ¬ (k : Int) < (k : Int) := by omega
      go_wp2_with fail
      go_ret
      exact ⟨rfl, HB.out⟩
end Go.Proofs.YthonobihcahfiaaGreatDoor.Nt
