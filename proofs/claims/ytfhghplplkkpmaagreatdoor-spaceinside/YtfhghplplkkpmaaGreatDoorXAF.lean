import Derived.Test.YtfhghplplkkpmaaGreatDoorXAE
namespace Go.Proofs.YtfhghplplkkpmaaGreatDoor
open Go.RowKit
/-- outside's closure: n.Within(both) -/
def WO (W : World) (bx : Nat) (x : List UInt8) : Prop := W.heap[bx]? = some (.cells #[.int .i64 (x.length : Int), .int .u64 (FW x 0 : Int), .int .u64 (FW x 1 : Int), .int .u64 (FW x 2 : Int), .int .u64 (FW x 3 : Int), .int .u64 (OW x 0 : Int), .int .u64 (OW x 1 : Int), .int .u64 (OW x 2 : Int), .int .u64 (OW x 3 : Int)] 40 (0, 0))
theorem WO.below {W X : World} {bx : Nat} {x : List UInt8} (h : WO W bx x) (hb : Below W.heap.size W X) : WO X bx x := keepblk3 hb h
set_option maxRecDepth 100000 in
set_option maxHeartbeats 1000000 in
theorem out1_any (x y : List UInt8) (bx : Nat) (w : World) (gx : good x = true) (gy : good y = true) (h : WO w bx x) : Calls Tryz.prog 87 #[cubeV y, .pointer (some ⟨bx, 0, none⟩)] w fun e w' => e = .returned (.bool (wiB y x)) ∧ Below w.heap.size w w' := by
  have hx := h
  clear h
  have x0 : CB (w.alloc (Obj.cells #[.int .i64 (y.length : Int), .int .u64 (FW y 0 : Int), .int .u64 (FW y 1 : Int), .int .u64 (FW y 2 : Int), .int .u64 (FW y 3 : Int), .int .u64 (OW y 0 : Int), .int .u64 (OW y 1 : Int), .int .u64 (OW y 2 : Int), .int .u64 (OW y 3 : Int)] 40)) bx 0 x := CB_of (allocblk3 hx _)
  have y0 : CB (w.alloc (Obj.cells #[.int .i64 (y.length : Int), .int .u64 (FW y 0 : Int), .int .u64 (FW y 1 : Int), .int .u64 (FW y 2 : Int), .int .u64 (FW y 3 : Int), .int .u64 (OW y 0 : Int), .int .u64 (OW y 1 : Int), .int .u64 (OW y 2 : Int), .int .u64 (OW y 3 : Int)] 40)) w.heap.size 0 y := CB_of (alloc_get _ _)
  obtain ⟨V, hV⟩ : ∃ V : World, w.alloc (Obj.cells #[.int .i64 (y.length : Int), .int .u64 (FW y 0 : Int), .int .u64 (FW y 1 : Int), .int .u64 (FW y 2 : Int), .int .u64 (FW y 3 : Int), .int .u64 (OW y 0 : Int), .int .u64 (OW y 1 : Int), .int .u64 (OW y 2 : Int), .int .u64 (OW y 3 : Int)] 40) = V := ⟨_, rfl⟩
  have vB : Below w.heap.size w V := by rw [← hV]; exact belA (Below.refl _ _) _
  rw [hV] at x0 y0
  obtain ⟨a0, a1, a2, a3, a4, a5, a6, a7, a8⟩ := x0
  obtain ⟨d0, d1, d2, d3, d4, d5, d6, d7, d8⟩ := y0
  clear hx
  unfold cubeV cv
  go_enter Tryz.func87, Tryz.ntmps87
  go_wp2_with fail
  refine (within_any y x _ gy gx).mono ?_
  rintro e W1 ⟨rfl, hb1⟩
  go_wp2_with fail
  go_ret
  exact ⟨rfl, bel0 vB hb1⟩
set_option maxRecDepth 100000 in
set_option maxHeartbeats 2000000 in
theorem idxo_any (L : List (List UInt8)) (n : Nat) (o : Option Addr) (c : Nat) (b2 : Nat) (p : List UInt8 → Bool) (w : World) (hn : L.length = n) (hL : n ≤ 281474976710656) (hr : IRC w o L) (hp : ∀ W, Below w.heap.size w W → ∀ t ∈ L, Calls Tryz.prog 87 #[cubeV t, .pointer (some ⟨b2, 0, none⟩)] W fun e w' => e = .returned (.bool (p t)) ∧ Below W.heap.size W w') :
    Calls Tryz.prog 102 #[.slice o n c, .func (.func 87) #[] #[.pointer (some ⟨b2, 0, none⟩)]] w fun e w' => e = .returned (.int .i64 (ixP p 0 L)) ∧ Below w.heap.size w w' := by
  have HR : Hid (IRC w o L) := hr
  have HPP : Hid (∀ W, Below w.heap.size w W → ∀ t ∈ L, Calls Tryz.prog 87 #[cubeV t, .pointer (some ⟨b2, 0, none⟩)] W fun e w' => e = .returned (.bool (p t)) ∧ Below W.heap.size W w') := hp
  have HN : Hid (L.length = n) := hn
  obtain ⟨q, hq⟩ : ∃ q, ixP p 0 L = q := ⟨_, rfl⟩
  rw [hq]
  have HQ : Hid (ixP p 0 (L.drop 0) = q) := hq
  clear hr hp hq hn
  go_enter Tryz.func102, Tryz.ntmps102
  go_wp2_with fail
  go_loopw [8] (fun vk wr => ∃ k : Nat, vk = .int .i64 k ∧ k ≤ n ∧ Hid (ixP p k (L.drop k) = q) ∧ Below w.heap.size w wr) (fun vk _ => n - (intOf vk).toNat)
  case atStart => exact ⟨0, rfl, Nat.zero_le _, HQ, Below.refl _ _⟩
  case round =>
    clear HQ
    obtain ⟨k, rfl, hk, hidx, hB⟩ := hrel
    by_cases hlt : k < n
    · have j1 : (k : Int) < (n : Int) := by omega
      have j0 : (0 : Int) ≤ (k : Int) := by omega
      obtain ⟨t, ht⟩ : ∃ t, L[k]? = some t := ⟨_, List.getElem?_eq_getElem (by rw [HN.out]; exact hlt)⟩
      obtain ⟨g, o0, rfl, p0, p1, p2, p3, p4, p5, p6, p7, p8⟩ := HR.out wr hB k t ht
      have hx2 := hidx.out
      rw [ixP_step ht] at hx2
      have H1 := HPP.out wr hB t (List.mem_of_getElem? ht)
      have HH : Hid (Calls Tryz.prog 87 #[cubeV t, .pointer (some ⟨b2, 0, none⟩)] wr fun e w' => e = .returned (.bool (p t)) ∧ Below wr.heap.size wr w') := H1
      clear ht hidx H1
      cases hy : p t with
      | true =>
        rw [hy, if_pos rfl] at hx2
        have HX2 : Hid ((k : Int) = q) := hx2
        have HY : Hid (p t = true) := hy
        clear hx2 hy
        go_wp2_with fail
        refine HH.out.mono ?_
        rintro e W1 ⟨rfl, hb1⟩
        rw [HY.out]
        go_wp2_with fail
        go_ret
        exact ⟨by rw [← HX2.out]; rfl, bel0 hB hb1⟩
      | false =>
        rw [hy, if_neg (by simp)] at hx2
        have HX : Hid (ixP p (k + 1) (L.drop (k + 1)) = q) := hx2
        have HY : Hid (p t = false) := hy
        clear hx2 hy
        go_wp2_with fail
        refine HH.out.mono ?_
        rintro e W1 ⟨rfl, hb1⟩
        rw [HY.out]
        go_wp2_with fail
        go_roundw
        case rel => exact ⟨k + 1, by go_num, by omega, HX, bel0 hB hb1⟩
        case measure => simp [intOf]; omega
    · have j1 : ¬ (k : Int) < (n : Int) := by omega
      have HX2 : Hid (-1 = q) := by
        unfold Hid
        rw [← hidx.out, List.drop_eq_nil_of_le (by rw [HN.out]; omega)]
        rfl
      clear hidx
      go_wp2_with fail
      go_ret
      exact ⟨by rw [← HX2.out]; rfl, hB⟩
set_option maxRecDepth 100000 in
set_option maxHeartbeats 4000000 in
theorem delo_any (L : List (List UInt8)) (n c g B : Nat) (x : List UInt8) (bx : Nat) (w : World) (hn : L.length = n) (hc : n ≤ 281474976710656) (h : w.ownsRow B 40 9 (.slice (some ⟨g, 0, none⟩) n c) n (ces L)) (gL : ∀ t ∈ L, good t = true) (gx : good x = true) (hq : WO w bx x) (h2 : bx ≠ g) (q : List UInt8 → Bool) (hqd : q = fun t => !wiB t x) :
    Calls Tryz.prog 84 #[.slice (some ⟨g, 0, none⟩) n c, .func (.func 87) #[] #[.pointer (some ⟨bx, 0, none⟩)]] w fun e w' => ∃ m, e = .returned (.slice (some ⟨g, 0, none⟩) m c) ∧ (L.filter q).length = m ∧ w'.ownsRow B 40 9 (.slice (some ⟨g, 0, none⟩) m c) m (ces (L.filter q)) ∧ w.grownBy w' (some g) := by
  have hnc : n ≤ c := by
    rcases h.2 with ⟨h', _⟩ | ⟨g', cap', cur, h', _, _, h9, _⟩
    · cases h'
    · injection h' with _ _ a3
      omega
  have H1 := idxo_any L n (some ⟨g, 0, none⟩) c bx (fun t => wiB t x) w hn (by omega) (IRC_own h hn) (fun W hW t ht => out1_any x t bx W gx (gL t ht) (hq.below hW))
  obtain ⟨i0, hi0⟩ : ∃ i, ixP (fun t => wiB t x) 0 L = i := ⟨_, rfl⟩
  have HIX := ixP_at (fun t => wiB t x) L 0
  rw [hi0] at H1 HIX
  have HN : Hid (L.length = n) := hn
  have HO : Hid (w.ownsRow B 40 9 (.slice (some ⟨g, 0, none⟩) n c) n (ces L)) := h
  have HG : Hid (∀ t ∈ L, good t = true) := gL
  have HQ : Hid (WO w bx x ∧ bx ≠ g) := ⟨hq, h2⟩
  have HD : Hid (q = fun t => !wiB t x) := hqd
  have HX : Hid (good x = true) := gx
  have HI : Hid ((i0 = -1 ∧ ∀ t ∈ L, wiB t x = false) ∨ ∃ A t R, L = A ++ t :: R ∧ (∀ x_1 ∈ A, wiB x_1 x = false) ∧ wiB t x = true ∧ i0 = ((0 + A.length : Nat) : Int)) := HIX
  clear hn h gL hq h2 hqd gx HIX hi0
  go_enter Tryz.func84, Tryz.ntmps84
  go_wp2_with fail
  refine H1.mono ?_
  rintro e W0 ⟨rfl, hb0⟩
  clear H1
  rcases HI.out with ⟨rfl, hno⟩ | ⟨A, t0, R, hLA, hA, ht0, rfl⟩
  · have HF : Hid (L.filter q = L) := by
      unfold Hid
      rw [HD.out]
      exact List.filter_eq_self.2 (fun t ht => by simp [hno t ht])
    clear hno HI
    go_wp2_with fail
    go_ret
    refine ⟨n, rfl, ?_, ?_, below_grown hb0 _⟩
    · rw [HF.out, HN.out]
    · rw [HF.out]
      exact (HO.out.kept (below_grown hb0 none) (.inr (by intro e; cases e)))
  · obtain ⟨i, hi⟩ : ∃ i, A.length = i := ⟨_, rfl⟩
    have HS : Hid (∃ K : List (List UInt8), K.take i = (L.take (i + 1)).filter q ∧ ((L.take (i + 1)).filter q).length = i ∧ K.drop (i + 1) = L.drop (i + 1) ∧ K.length = L.length ∧ W0.ownsRow B 40 9 (.slice (some ⟨g, 0, none⟩) n c) n (ces K)) := by
      have e : (L.take (i + 1)).filter q = A := by
        rw [hLA, ← hi, List.take_append, List.take_of_length_le (by omega), Nat.add_sub_cancel_left, List.filter_append, HD.out]
        simp only [List.take_succ_cons, List.take_zero]
        rw [List.filter_eq_self.2 (fun t ht => by simp [hA t ht])]
        simp [ht0]
      refine ⟨L, ?_, by rw [e, hi], rfl, rfl, HO.out.kept (below_grown hb0 none) (.inr (by intro e; cases e))⟩
      rw [e, hLA, ← hi, List.take_left']
      rfl
    have hin : i + 1 ≤ n := by
      rw [← HN.out, hLA, List.length_append, List.length_cons, hi]
      omega
    rw [Nat.zero_add, hi]
    have k0 : ((i : Int) == -1) = false := beq_false_of_ne (by omega)
    clear hLA hA ht0 hi HI
    go_wp2_with fail
    go_loopw [5, 6] (fun v5 v6 wr => ∃ i j : Nat, v5 = .int .i64 (i : Int) ∧ v6 = .int .i64 (j : Int) ∧ i < j ∧ j ≤ n ∧ w.grownBy wr (some g) ∧ ∃ K : List (List UInt8), K.take i = (L.take j).filter q ∧ ((L.take j).filter q).length = i ∧ K.drop j = L.drop j ∧ K.length = L.length ∧ wr.ownsRow B 40 9 (.slice (some ⟨g, 0, none⟩) n c) n (ces K)) (fun _ v6 _ => n - (intOf v6).toNat)
    case atStart => exact ⟨i, i + 1, rfl, by go_num, by omega, hin, below_grown hb0 _, HS.out⟩
    case round =>
      clear HS hb0
      obtain ⟨i, j, rfl, rfl, hij, hjn, hg, K, e1, e2, e3, e4, oK⟩ := hrel
      by_cases hlt : j < n
      · have j1 : (j : Int) < (n : Int) := by omega
        have j0 : (0 : Int) ≤ (j : Int) := by omega
        have i0 : (0 : Int) ≤ (i : Int) := by omega
        have i1 : (i : Int) < (n : Int) := by omega
        obtain ⟨t, ht⟩ : ∃ t, L[j]? = some t := ⟨_, List.getElem?_eq_getElem (by rw [HN.out]; exact hlt)⟩
        have hKt : K[j]? = some t := by
          have := congrArg (fun l => l[0]?) e3
          simpa [ht] using this
        have hjK : j < K.length := by rw [e4, HN.out]; exact hlt
        have ce : CB wr g (j * 9) t := ce_at (by rw [e4, HN.out]; exact oK) hjK (List.getElem?_eq_some_iff.1 hKt).2
        have HST : Hid (K.take i = (L.take j).filter q ∧ ((L.take j).filter q).length = i ∧ K.drop j = L.drop j ∧ K.length = L.length ∧ L[j]? = some t) := ⟨e1, e2, e3, e4, ht⟩
        have HOK : Hid (wr.ownsRow B 40 9 (.slice (some ⟨g, 0, none⟩) n c) n (ces K)) := oK
        have HGR : Hid (w.grownBy wr (some g)) := hg
        have hwq : WO wr bx x := (hg.block bx (lt_of_get3 HQ.out.1) (by intro e; injection e with e; exact HQ.out.2 e)).trans HQ.out.1
        have HW : Hid (WO wr bx x) := hwq
        obtain ⟨p0, p1, p2, p3, p4, p5, p6, p7, p8⟩ := ce
        clear e1 e2 e3 e4 oK hg ht hKt hwq
        have hgd := HG.out t (List.mem_of_getElem? HST.out.2.2.2.2)
        have HCL : Hid (∀ W, Below wr.heap.size wr W → Calls Tryz.prog 87 #[.agg #[.int .i64 (t.length : Int), .int .u64 (FW t 0 : Int), .int .u64 (FW t 1 : Int), .int .u64 (FW t 2 : Int), .int .u64 (FW t 3 : Int), .int .u64 (OW t 0 : Int), .int .u64 (OW t 1 : Int), .int .u64 (OW t 2 : Int), .int .u64 (OW t 3 : Int)], .pointer (some ⟨bx, 0, none⟩)] W fun e w' => e = .returned (.bool (wiB t x)) ∧ Below W.heap.size W w') := fun W hW => out1_any x t bx W HX.out hgd (HW.out.below hW)
        have hal : Below wr.heap.size wr (wr.alloc (.cells #[.int .i64 (t.length : Int), .int .u64 (FW t 0 : Int), .int .u64 (FW t 1 : Int), .int .u64 (FW t 2 : Int), .int .u64 (FW t 3 : Int), .int .u64 (OW t 0 : Int), .int .u64 (OW t 1 : Int), .int .u64 (OW t 2 : Int), .int .u64 (OW t 3 : Int)] 40 (0, 0))) := belA (Below.refl _ _) _
        have hcb : CB (wr.alloc (.cells #[.int .i64 (t.length : Int), .int .u64 (FW t 0 : Int), .int .u64 (FW t 1 : Int), .int .u64 (FW t 2 : Int), .int .u64 (FW t 3 : Int), .int .u64 (OW t 0 : Int), .int .u64 (OW t 1 : Int), .int .u64 (OW t 2 : Int), .int .u64 (OW t 3 : Int)] 40 (0, 0))) wr.heap.size 0 t := CB_of (alloc_get _ _)
        go_wp2_with fail
        refine (HCL.out _ hal).mono ?_
        rintro e W1 ⟨rfl, hb1⟩
        have hB1 := bel0 hal hb1
        have oK1 : W1.ownsRow B 40 9 (.slice (some ⟨g, 0, none⟩) n c) n (ces K) := HOK.out.kept (below_grown hB1 none) (.inr (by intro e; cases e))
        have HG1 : Hid (w.grownBy W1 (some g)) := grown_trans HGR.out (below_grown hB1 _)
        cases hw : wiB t x with
        | true =>
          have HF : Hid (K.take i = (L.take (j + 1)).filter q ∧ ((L.take (j + 1)).filter q).length = i ∧ K.drop (j + 1) = L.drop (j + 1)) := del_no HST.out.1 HST.out.2.1 HST.out.2.2.1 HST.out.2.2.2.2 (by rw [HD.out]; simp [hw])
          have HO1 : Hid (W1.ownsRow B 40 9 (.slice (some ⟨g, 0, none⟩) n c) n (ces K)) := oK1
          clear oK1 hw
          go_wp2_with fail
          go_roundw
          case rel => exact ⟨i, j + 1, rfl, by go_num, by omega, by omega, HG1.out, K, HF.out.1, HF.out.2.1, HF.out.2.2, HST.out.2.2.2.1, HO1.out⟩
          case measure => simp [intOf]; omega
        | false =>
          have hiK : i < K.length := by rw [HST.out.2.2.2.1, HN.out]; omega
          have HF : Hid ((K.set i t).take (i + 1) = (L.take (j + 1)).filter q ∧ ((L.take (j + 1)).filter q).length = i + 1 ∧ (K.set i t).drop (j + 1) = L.drop (j + 1) ∧ (K.set i t).length = L.length) := del_yes HST.out.1 HST.out.2.1 HST.out.2.2.1 HST.out.2.2.2.1 hij HST.out.2.2.2.2 (by rw [HD.out]; simp [hw])
          have hp := put9k_own t oK1 hiK
          have HP : Hid ((put9k W1 g i t).ownsRow B 40 9 (.slice (some ⟨g, 0, none⟩) n c) n (ces (K.set i t)) ∧ w.grownBy (put9k W1 g i t) (some g)) := ⟨hp.1, grown_trans HG1.out hp.2⟩
          obtain ⟨c0, c1, c2, c3, c4, c5, c6, c7, c8⟩ := ce_at (L := K) (by rw [HST.out.2.2.2.1, HN.out]; exact oK1) hiK rfl
          have fz := oK1.frozenAt
          obtain ⟨d0, d1, d2, d3, d4, d5, d6, d7, d8⟩ := hcb.below hb1
          clear oK1 hw hp
          go_wp2_with fail
          go_roundw
          case rel => exact ⟨i + 1, j + 1, by go_num, by go_num, by omega, by omega, HP.out.2, K.set i t, HF.out.1, HF.out.2.1, HF.out.2.2.1, HF.out.2.2.2, HP.out.1⟩
          case measure => simp [intOf]; omega
      · obtain rfl : j = n := by omega
        have j1 : ¬ (j : Int) < (j : Int) := by omega
        have i0 : (0 : Int) ≤ (i : Int) := by omega
        have i1 : (i : Int) ≤ (j : Int) := by omega
        have i2 : ¬ c = i := by omega
        have i3 : (j : Int) ≤ (c : Int) := by omega
        have i4 : (i : Int) ≤ (c : Int) := by omega
        obtain ⟨Z, hZ⟩ : ∃ Z : List Value, ∀ ty, (Builtin.clear_ #[53] ty #[.slice (some ⟨g, i * 9, none⟩) (j - i) (c - i)]).run Tryz.prog wr = .ok (.tuple #[]) (wr.setCells g (i * 9) Z) := by
          have hce : ∀ m, m < (j - i) * 9 → (wr.cell? ⟨g, i * 9 + m, none⟩).isSome = true := fun m hm => by
            rw [oK.cellAt (i * 9 + m) (by omega)]
            have hl := oK.1
            rw [List.getElem?_eq_getElem (by omega)]
            rfl
          obtain ⟨Z, hZ⟩ := clear9 wr 0 g (i * 9) (j - i) (c - i) (by omega) hce (fun m _ => oK.frozenAt _)
          exact ⟨Z, fun _ => hZ⟩
        obtain ⟨ys, oy, ey, gy⟩ := setCells_own Z (i * 9) oK
        have HE : Hid (((L.filter q).length = i) ∧ (wr.setCells g (i * 9) Z).ownsRow B 40 9 (.slice (some ⟨g, 0, none⟩) i c) i (ces (L.filter q)) ∧ w.grownBy (wr.setCells g (i * 9) Z) (some g)) := by
          have eL : L.take j = L := List.take_of_length_le (by rw [HN.out]; exact Nat.le_refl _)
          rw [eL] at e1 e2
          refine ⟨e2, ?_, grown_trans hg gy⟩
          have := own_cut (i := i) (by omega) oy
          rw [ey, ces_take, e1] at this
          exact this
        clear oK oy ey gy e1 e2 e3 e4 hg
        go_wp2_with fail
        go_ret
        exact ⟨i, rfl, HE.out.1, HE.out.2.1, HE.out.2.2⟩
set_option maxRecDepth 100000 in
theorem delo_nil (bx : Nat) (w : World) : Calls Tryz.prog 84 #[.slice none 0 0, .func (.func 87) #[] #[.pointer (some ⟨bx, 0, none⟩)]] w fun e w' => e = .returned (.slice none 0 0) ∧ Below w.heap.size w w' := by
  have H1 := idxo_any [] 0 none 0 bx (fun _ => true) w rfl (by omega) (fun W hW k t ht => by simp at ht) (fun W hW t ht => by cases ht)
  have e : ixP (fun _ => true) 0 [] = -1 := rfl
  rw [e] at H1
  go_enter Tryz.func84, Tryz.ntmps84
  go_wp2_with fail
  refine H1.mono ?_
  rintro e W0 ⟨rfl, hb0⟩
  clear H1
  go_wp2_with fail
  go_ret
  exact ⟨rfl, hb0⟩
theorem delo_all (L : List (List UInt8)) (n : Nat) (v : Value) (B : Nat) (x : List UInt8) (bx : Nat) (w : World) (hn : L.length = n) (hN : n ≤ 281474976710656) (h : w.ownsRow B 40 9 v n (ces L)) (gL : ∀ t ∈ L, good t = true) (gx : good x = true) (hq : WO w bx x) (hne : v.ownBlock ≠ some bx) (q : List UInt8 → Bool) (hqd : q = fun t => !wiB t x) :
    Calls Tryz.prog 84 #[v, .func (.func 87) #[] #[.pointer (some ⟨bx, 0, none⟩)]] w fun e w' => ∃ v', e = .returned v' ∧ w'.ownsRow B 40 9 v' (L.filter q).length (ces (L.filter q)) ∧ w.grownBy w' v.ownBlock := by
  rcases own_shapeQ h with ⟨rfl, rfl⟩ | ⟨g, c, rfl, -, -, cur, hg⟩
  · obtain rfl := List.length_eq_zero_iff.1 hn
    refine (delo_nil bx w).mono ?_
    rintro e w' ⟨rfl, hb⟩
    exact ⟨_, rfl, World.ownsRow_nil _ _ _ _, below_grown hb _⟩
  · refine (delo_any L n c g B x bx w hn hN h gL gx hq (fun e => hne (by rw [e]; rfl)) q hqd).mono ?_
    rintro e w' ⟨m, rfl, rfl, ho, hgr⟩
    exact ⟨_, rfl, ho, hgr⟩
end Go.Proofs.YtfhghplplkkpmaaGreatDoor
namespace Go.Proofs.YtfhghplplkkpmaaGreatDoor
open Go.RowKit
theorem ces_oneY (L : List (List UInt8)) : ∀ u ∈ ces L, u.oneCell' = true := fun u hu => by
  unfold ces at hu
  obtain ⟨t, _, ht⟩ := List.mem_flatMap.1 hu
  simp [ce9] at ht
  rcases ht with rfl | rfl | rfl | rfl | rfl | rfl | rfl | rfl | rfl <;> rfl
set_option maxRecDepth 100000 in
theorem eq_yes (c : Nat) (w : World) : (binOp BinOp.eql 53 (.slice none 0 c) (.slice none 0 0)).run Tryz.prog w = .ok (.bool true) w := by
  first | rfl | kernel_rfl
set_option maxRecDepth 100000 in
theorem eq_noA (ad : Addr) (n c : Nat) (w : World) : (binOp BinOp.eql 53 (.slice (some ad) n c) (.slice none 0 0)).run Tryz.prog w = .ok (.bool false) w := by
  first | rfl | kernel_rfl
theorem ces_news {W : World} {g o : Nat} {L : List (List UInt8)} (h : IRC W (some ⟨g, o, none⟩) L) : ∀ j u, (ces L)[j]? = some u → W.cell? ((⟨g, o, none⟩ : Addr).add j) = some u := fun j u hu => by
  have hj := (List.getElem?_eq_some_iff.1 hu).1
  rw [cesO_len] at hj
  have hk : j / 9 < L.length := by omega
  obtain ⟨g', o', e, c0, c1, c2, c3, c4, c5, c6, c7, c8⟩ := h W (Below.refl _ _) (j / 9) L[j / 9] (List.getElem?_eq_getElem hk)
  injection e with e
  injection e with e1 e2 _
  subst e1 e2
  have ea : (⟨g, o, none⟩ : Addr).add j = ⟨g, o + j, none⟩ := by simp [Addr.add]
  have hs : ces L = ces (L.take (j / 9)) ++ (ce9 L[j / 9] ++ ces (L.drop (j / 9 + 1))) := by
    have e3 : L = L.take (j / 9) ++ (L[j / 9] :: L.drop (j / 9 + 1)) := by rw [← List.drop_eq_getElem_cons hk, List.take_append_drop]
    have e4 : ∀ A C : List (List UInt8), ces (A ++ C) = ces A ++ ces C := fun A C => by unfold ces; rw [List.flatMap_append]
    conv => lhs; rw [e3]
    rw [e4]
    rfl
  have hl : (ces (L.take (j / 9))).length = j / 9 * 9 := by rw [cesO_len, List.length_take, Nat.min_eq_left (by omega)]
  rw [hs, List.getElem?_append_right (by omega), hl, List.getElem?_append_left (by simp [ce9]; omega)] at hu
  rw [ea]
  have hd : j = j / 9 * 9 + j % 9 := by omega
  have hm : j % 9 < 9 := Nat.mod_lt _ (by decide)
  have hsub : j - j / 9 * 9 = j % 9 := by omega
  rw [hsub] at hu
  have hoj : o + j = o + j / 9 * 9 + j % 9 := by omega
  rw [hoj]
  generalize j % 9 = r at *
  match r, hm, hu with
  | 0, _, hu => simp [ce9] at hu; rw [← hu]; exact c0
  | 1, _, hu => simp [ce9] at hu; rw [← hu]; exact c1
  | 2, _, hu => simp [ce9] at hu; rw [← hu]; exact c2
  | 3, _, hu => simp [ce9] at hu; rw [← hu]; exact c3
  | 4, _, hu => simp [ce9] at hu; rw [← hu]; exact c4
  | 5, _, hu => simp [ce9] at hu; rw [← hu]; exact c5
  | 6, _, hu => simp [ce9] at hu; rw [← hu]; exact c6
  | 7, _, hu => simp [ce9] at hu; rw [← hu]; exact c7
  | 8, _, hu => simp [ce9] at hu; rw [← hu]; exact c8
theorem ces_newsA {W : World} {ad : Addr} {L : List (List UInt8)} (h : IRC W (some ad) L) : ∀ j u, (ces L)[j]? = some u → W.cell? (ad.add j) = some u := by
  cases L with
  | nil => intro j u hu; simp [ces] at hu
  | cons t l =>
    obtain ⟨g, o, e, -⟩ := h W (Below.refl _ _) 0 t rfl
    obtain rfl := Option.some.inj e
    exact ces_news h
set_option maxRecDepth 100000 in
set_option maxHeartbeats 2000000 in
theorem clone_any (L : List (List UInt8)) (p : Option Addr) (n c : Nat) (w : World) (hn : L.length = n) (hN : n ≤ 1000000) (h : IRC w p L) :
    Calls Tryz.prog 86 #[.slice p n c] w fun e w' => ∃ v, e = .returned v ∧ w'.ownsRow w.heap.size 40 9 v n (ces L) ∧ Below w.heap.size w w' := by
  obtain ⟨i0, hi, hz0, hz1, hz2⟩ := info_parts info_cubeQ
  cases p with
  | none =>
    have hz : L = [] := by
      cases hc : L with
      | nil => rfl
      | cons t l =>
        obtain ⟨g, o0, e, -⟩ := h w (Below.refl _ _) 0 t (by rw [hc]; rfl)
        cases e
    subst hz
    obtain rfl : n = 0 := hn.symm
    have hq := eq_yes c w
    clear h hn
    go_enter Tryz.func86, Tryz.ntmps86
    go_wp2_with fail
    go_ret
    exact ⟨_, rfl, World.ownsRow_nil _ _ _ _, Below.refl _ _⟩
  | some ad =>
    have HE : Hid ((w.alloc (.cells #[] 40 (0, 0))).ownsRow w.heap.size 40 9 (.slice (some ⟨w.heap.size, 0, none⟩) 0 0) 0 []) := ⟨rfl, .inr ⟨w.heap.size, 0, #[], rfl, Nat.le_refl _, alloc_get _ _, Nat.le_refl _, Nat.zero_le _, rfl, rfl⟩⟩
    have HNW : Hid (∀ j u, (ces L)[j]? = some u → (w.alloc (.cells #[] 40 (0, 0))).cell? (ad.add j) = some u) := ces_newsA (h.later (belA (Below.refl _ _) _))
    have HL : Hid ((ces L).length = n * 9) := by unfold Hid; rw [cesO_len, hn]
    have hq := eq_noA ad n c w
    clear h hn
    go_enter Tryz.func86, Tryz.ntmps86
    go_wp2_with (at_builtin; refine wpList_append_own _ rfl _ _ 53 rfl w.heap.size 40 i0 _ 9 72 Tryz.underlying53 hi hz0 hz1 hz2 rfl (by decide) _ _ _ rfl HE.out ad n c (ces L) rfl HL.out HNW.out (ces_oneY L) (by unfold maxLen; omega) (by omega) (by simp) ?_)
    intro v8 w8 o8 g8 _
    have HB8 : Hid (w8.ownsRow w.heap.size 40 9 v8 n (ces L) ∧ Below w.heap.size w w8) := by
      refine ⟨?_, (belA (Below.refl _ _) _).grown g8 (belA (Below.refl _ _) _).size (fun b e => (HE.out.lt b e).1)⟩
      simpa using o8
    clear o8 g8
    go_wp2_with fail
    go_ret
    exact ⟨_, rfl, HB8.out⟩
end Go.Proofs.YtfhghplplkkpmaaGreatDoor
