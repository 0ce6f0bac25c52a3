import Derived.Test.YtccbfaembcefjaaGreatDoorXAF
import Derived.Test.YtccbfaembcefjaaGreatDoorXBE
import Derived.Defers
import Derived.Recover
import Derived.Laws.Pointers
import Derived.Test.YtccbfaembcefjaaGreatDoorChecked
import Derived.Laws.AppendOwnNone
import Derived.Test.YtccbfaembcefjaaGreatDoorXBG
namespace Go.Proofs.YtccbfaembcefjaaGreatDoor
open Go.RowKit
/-- outside's closure: n.Within(both) -/
def WO (W : World) (bx : Nat) (x : List UInt8) : Prop := W.heap[bx]? = some (.cells #[.int .i64 (x.length : Int), .int .u64 (FW x 0 : Int), .int .u64 (FW x 1 : Int), .int .u64 (FW x 2 : Int), .int .u64 (FW x 3 : Int), .int .u64 (OW x 0 : Int), .int .u64 (OW x 1 : Int), .int .u64 (OW x 2 : Int), .int .u64 (OW x 3 : Int)] 50 (0, 0))
theorem WO.below {W X : World} {bx : Nat} {x : List UInt8} (h : WO W bx x) (hb : Below W.heap.size W X) : WO X bx x := keepblk3 hb h
set_option maxRecDepth 100000 in
set_option maxHeartbeats 1000000 in
theorem out1_any (x y : List UInt8) (bx : Nat) (w : World) (gx : good x = true) (gy : good y = true) (h : WO w bx x) : Calls Tryz.prog 125 #[cubeV y, .pointer (some ⟨bx, 0, none⟩)] w fun e w' => e = .returned (.bool (wiB y x)) ∧ Below w.heap.size w w' := by
  have hx := h
  clear h
  have x0 : CB (w.alloc (Obj.cells #[.int .i64 (y.length : Int), .int .u64 (FW y 0 : Int), .int .u64 (FW y 1 : Int), .int .u64 (FW y 2 : Int), .int .u64 (FW y 3 : Int), .int .u64 (OW y 0 : Int), .int .u64 (OW y 1 : Int), .int .u64 (OW y 2 : Int), .int .u64 (OW y 3 : Int)] 50)) bx 0 x := CB_of (allocblk3 hx _)
  have y0 : CB (w.alloc (Obj.cells #[.int .i64 (y.length : Int), .int .u64 (FW y 0 : Int), .int .u64 (FW y 1 : Int), .int .u64 (FW y 2 : Int), .int .u64 (FW y 3 : Int), .int .u64 (OW y 0 : Int), .int .u64 (OW y 1 : Int), .int .u64 (OW y 2 : Int), .int .u64 (OW y 3 : Int)] 50)) w.heap.size 0 y := CB_of (alloc_get _ _)
  obtain ⟨V, hV⟩ : ∃ V : World, w.alloc (Obj.cells #[.int .i64 (y.length : Int), .int .u64 (FW y 0 : Int), .int .u64 (FW y 1 : Int), .int .u64 (FW y 2 : Int), .int .u64 (FW y 3 : Int), .int .u64 (OW y 0 : Int), .int .u64 (OW y 1 : Int), .int .u64 (OW y 2 : Int), .int .u64 (OW y 3 : Int)] 50) = V := ⟨_, rfl⟩
  have vB : Below w.heap.size w V := by rw [← hV]; exact belA (Below.refl _ _) _
  rw [hV] at x0 y0
  obtain ⟨a0, a1, a2, a3, a4, a5, a6, a7, a8⟩ := x0
  obtain ⟨d0, d1, d2, d3, d4, d5, d6, d7, d8⟩ := y0
  clear hx
  unfold cubeV cv
  go_enter Tryz.func125, Tryz.ntmps125
  go_wp2_with fail
  refine (within_any y x _ gy gx).mono ?_
  rintro e W1 ⟨rfl, hb1⟩
  go_wp2_with fail
  go_ret
  exact ⟨rfl, bel0 vB hb1⟩
set_option maxRecDepth 100000 in
set_option maxHeartbeats 2000000 in
theorem idxo_any (L : List (List UInt8)) (n : Nat) (o : Option Addr) (c : Nat) (b2 : Nat) (p : List UInt8 → Bool) (w : World) (hn : L.length = n) (hL : n ≤ 281474976710656) (hr : IRC w o L) (hp : ∀ W, Below w.heap.size w W → ∀ t ∈ L, Calls Tryz.prog 125 #[cubeV t, .pointer (some ⟨b2, 0, none⟩)] W fun e w' => e = .returned (.bool (p t)) ∧ Below W.heap.size W w') :
    Calls Tryz.prog 129 #[.slice o n c, .func (.func 125) #[] #[.pointer (some ⟨b2, 0, none⟩)]] w fun e w' => e = .returned (.int .i64 (ixP p 0 L)) ∧ Below w.heap.size w w' := by
  have HR : Hid (IRC w o L) := hr
  have HPP : Hid (∀ W, Below w.heap.size w W → ∀ t ∈ L, Calls Tryz.prog 125 #[cubeV t, .pointer (some ⟨b2, 0, none⟩)] W fun e w' => e = .returned (.bool (p t)) ∧ Below W.heap.size W w') := hp
  have HN : Hid (L.length = n) := hn
  obtain ⟨q, hq⟩ : ∃ q, ixP p 0 L = q := ⟨_, rfl⟩
  rw [hq]
  have HQ : Hid (ixP p 0 (L.drop 0) = q) := hq
  clear hr hp hq hn
  go_enter Tryz.func129, Tryz.ntmps129
  go_wp2_with fail
  go_loopw [8] (fun vk wr => ∃ k : Nat, vk = .int .i64 k ∧ k ≤ n ∧ Hid (ixP p k (L.drop k) = q) ∧ Below w.heap.size w wr) (fun vk _ => n - (intOf vk).toNat)
  case atStart => exact ⟨0, rfl, Nat.zero_le _, HQ, Below.refl _ _⟩
  case round =>
    clear HQ
    obtain ⟨k, rfl, hk, hidx, hB⟩ := hrel
    by_cases hlt : k < n
    · have j1 : (k : Int) < (n : Int) := by omega
      have j0 : (0 : Int) ≤ (k : Int) := by omega
      obtain ⟨t, ht⟩ : ∃ t, L[k]? = some t := ⟨_, List.getElem?_eq_getElem (by rw [HN.out]; exact hlt)⟩
      obtain ⟨g, o0, rfl, p0, p1, p2, p3, p4, p5, p6, p7, p8⟩ := HR.out wr hB k t ht
      have hx2 := hidx.out
      rw [ixP_step ht] at hx2
      have H1 := HPP.out wr hB t (List.mem_of_getElem? ht)
      have HH : Hid (Calls Tryz.prog 125 #[cubeV t, .pointer (some ⟨b2, 0, none⟩)] wr fun e w' => e = .returned (.bool (p t)) ∧ Below wr.heap.size wr w') := H1
      clear ht hidx H1
      cases hy : p t with
      | true =>
        rw [hy, if_pos rfl] at hx2
        have HX2 : Hid ((k : Int) = q) := hx2
        have HY : Hid (p t = true) := hy
        clear hx2 hy
        go_wp2_with fail
        refine HH.out.mono ?_
        rintro e W1 ⟨rfl, hb1⟩
        rw [HY.out]
        go_wp2_with fail
        go_ret
        exact ⟨by rw [← HX2.out]; rfl, bel0 hB hb1⟩
      | false =>
        rw [hy, if_neg (by simp)] at hx2
        have HX : Hid (ixP p (k + 1) (L.drop (k + 1)) = q) := hx2
        have HY : Hid (p t = false) := hy
        clear hx2 hy
        go_wp2_with fail
        refine HH.out.mono ?_
        rintro e W1 ⟨rfl, hb1⟩
        rw [HY.out]
        go_wp2_with fail
        go_roundw
        case rel => exact ⟨k + 1, by go_num, by omega, HX, bel0 hB hb1⟩
        case measure => simp [intOf]; omega
    · have j1 : ¬ (k : Int) < (n : Int) := by omega
      have HX2 : Hid (-1 = q) := by
        unfold Hid
        rw [← hidx.out, List.drop_eq_nil_of_le (by rw [HN.out]; omega)]
        rfl
      clear hidx
      go_wp2_with fail
      go_ret
      exact ⟨by rw [← HX2.out]; rfl, hB⟩
set_option maxRecDepth 100000 in
set_option maxHeartbeats 4000000 in
theorem delo_any (L : List (List UInt8)) (n c g B : Nat) (x : List UInt8) (bx : Nat) (w : World) (hn : L.length = n) (hc : n ≤ 281474976710656) (h : w.ownsRow B 50 9 (.slice (some ⟨g, 0, none⟩) n c) n (ces L)) (gL : ∀ t ∈ L, good t = true) (gx : good x = true) (hq : WO w bx x) (h2 : bx ≠ g) (q : List UInt8 → Bool) (hqd : q = fun t => !wiB t x) :
    Calls Tryz.prog 114 #[.slice (some ⟨g, 0, none⟩) n c, .func (.func 125) #[] #[.pointer (some ⟨bx, 0, none⟩)]] w fun e w' => ∃ m, e = .returned (.slice (some ⟨g, 0, none⟩) m c) ∧ (L.filter q).length = m ∧ w'.ownsRow B 50 9 (.slice (some ⟨g, 0, none⟩) m c) m (ces (L.filter q)) ∧ w.grownBy w' (some g) := by
  have hnc : n ≤ c := by
    rcases h.2 with ⟨h', _⟩ | ⟨g', cap', cur, h', _, _, h9, _⟩
    · cases h'
    · injection h' with _ _ a3
      omega
  have H1 := idxo_any L n (some ⟨g, 0, none⟩) c bx (fun t => wiB t x) w hn (by omega) (IRC_own h hn) (fun W hW t ht => out1_any x t bx W gx (gL t ht) (hq.below hW))
  obtain ⟨i0, hi0⟩ : ∃ i, ixP (fun t => wiB t x) 0 L = i := ⟨_, rfl⟩
  have HIX := ixP_at (fun t => wiB t x) L 0
  rw [hi0] at H1 HIX
  have HN : Hid (L.length = n) := hn
  have HO : Hid (w.ownsRow B 50 9 (.slice (some ⟨g, 0, none⟩) n c) n (ces L)) := h
  have HG : Hid (∀ t ∈ L, good t = true) := gL
  have HQ : Hid (WO w bx x ∧ bx ≠ g) := ⟨hq, h2⟩
  have HD : Hid (q = fun t => !wiB t x) := hqd
  have HX : Hid (good x = true) := gx
  have HI : Hid ((i0 = -1 ∧ ∀ t ∈ L, wiB t x = false) ∨ ∃ A t R, L = A ++ t :: R ∧ (∀ x_1 ∈ A, wiB x_1 x = false) ∧ wiB t x = true ∧ i0 = ((0 + A.length : Nat) : Int)) := HIX
  clear hn h gL hq h2 hqd gx HIX hi0
  go_enter Tryz.func114, Tryz.ntmps114
  go_wp2_with fail
  refine H1.mono ?_
  rintro e W0 ⟨rfl, hb0⟩
  clear H1
  rcases HI.out with ⟨rfl, hno⟩ | ⟨A, t0, R, hLA, hA, ht0, rfl⟩
  · have HF : Hid (L.filter q = L) := by
      unfold Hid
      rw [HD.out]
      exact List.filter_eq_self.2 (fun t ht => by simp [hno t ht])
    clear hno HI
    go_wp2_with fail
    go_ret
    refine ⟨n, rfl, ?_, ?_, below_grown hb0 _⟩
    · rw [HF.out, HN.out]
    · rw [HF.out]
      exact (HO.out.kept (below_grown hb0 none) (.inr (by intro e; cases e)))
  · obtain ⟨i, hi⟩ : ∃ i, A.length = i := ⟨_, rfl⟩
    have HS : Hid (∃ K : List (List UInt8), K.take i = (L.take (i + 1)).filter q ∧ ((L.take (i + 1)).filter q).length = i ∧ K.drop (i + 1) = L.drop (i + 1) ∧ K.length = L.length ∧ W0.ownsRow B 50 9 (.slice (some ⟨g, 0, none⟩) n c) n (ces K)) := by
      have e : (L.take (i + 1)).filter q = A := by
        rw [hLA, ← hi, List.take_append, List.take_of_length_le (by omega), Nat.add_sub_cancel_left, List.filter_append, HD.out]
        simp only [List.take_succ_cons, List.take_zero]
        rw [List.filter_eq_self.2 (fun t ht => by simp [hA t ht])]
        simp [ht0]
      refine ⟨L, ?_, by rw [e, hi], rfl, rfl, HO.out.kept (below_grown hb0 none) (.inr (by intro e; cases e))⟩
      rw [e, hLA, ← hi, List.take_left']
      rfl
    have hin : i + 1 ≤ n := by
      rw [← HN.out, hLA, List.length_append, List.length_cons, hi]
      omega
    rw [Nat.zero_add, hi]
    have k0 : ((i : Int) == -1) = false := beq_false_of_ne (by omega)
    clear hLA hA ht0 hi HI
    go_wp2_with fail
    go_loopw [5, 6] (fun v5 v6 wr => ∃ i j : Nat, v5 = .int .i64 (i : Int) ∧ v6 = .int .i64 (j : Int) ∧ i < j ∧ j ≤ n ∧ w.grownBy wr (some g) ∧ ∃ K : List (List UInt8), K.take i = (L.take j).filter q ∧ ((L.take j).filter q).length = i ∧ K.drop j = L.drop j ∧ K.length = L.length ∧ wr.ownsRow B 50 9 (.slice (some ⟨g, 0, none⟩) n c) n (ces K)) (fun _ v6 _ => n - (intOf v6).toNat)
    case atStart => exact ⟨i, i + 1, rfl, by go_num, by omega, hin, below_grown hb0 _, HS.out⟩
    case round =>
      clear HS hb0
      obtain ⟨i, j, rfl, rfl, hij, hjn, hg, K, e1, e2, e3, e4, oK⟩ := hrel
      by_cases hlt : j < n
      · have j1 : (j : Int) < (n : Int) := by omega
        have j0 : (0 : Int) ≤ (j : Int) := by omega
        have i0 : (0 : Int) ≤ (i : Int) := by omega
        have i1 : (i : Int) < (n : Int) := by omega
        obtain ⟨t, ht⟩ : ∃ t, L[j]? = some t := ⟨_, List.getElem?_eq_getElem (by rw [HN.out]; exact hlt)⟩
        have hKt : K[j]? = some t := by
          have := congrArg (fun l => l[0]?) e3
          simpa [ht] using this
        have hjK : j < K.length := by rw [e4, HN.out]; exact hlt
        have ce : CB wr g (j * 9) t := ce_at (by rw [e4, HN.out]; exact oK) hjK (List.getElem?_eq_some_iff.1 hKt).2
        have HST : Hid (K.take i = (L.take j).filter q ∧ ((L.take j).filter q).length = i ∧ K.drop j = L.drop j ∧ K.length = L.length ∧ L[j]? = some t) := ⟨e1, e2, e3, e4, ht⟩
        have HOK : Hid (wr.ownsRow B 50 9 (.slice (some ⟨g, 0, none⟩) n c) n (ces K)) := oK
        have HGR : Hid (w.grownBy wr (some g)) := hg
        have hwq : WO wr bx x := (hg.block bx (lt_of_get3 HQ.out.1) (by intro e; injection e with e; exact HQ.out.2 e)).trans HQ.out.1
        have HW : Hid (WO wr bx x) := hwq
        obtain ⟨p0, p1, p2, p3, p4, p5, p6, p7, p8⟩ := ce
        clear e1 e2 e3 e4 oK hg ht hKt hwq
        have hgd := HG.out t (List.mem_of_getElem? HST.out.2.2.2.2)
        have HCL : Hid (∀ W, Below wr.heap.size wr W → Calls Tryz.prog 125 #[.agg #[.int .i64 (t.length : Int), .int .u64 (FW t 0 : Int), .int .u64 (FW t 1 : Int), .int .u64 (FW t 2 : Int), .int .u64 (FW t 3 : Int), .int .u64 (OW t 0 : Int), .int .u64 (OW t 1 : Int), .int .u64 (OW t 2 : Int), .int .u64 (OW t 3 : Int)], .pointer (some ⟨bx, 0, none⟩)] W fun e w' => e = .returned (.bool (wiB t x)) ∧ Below W.heap.size W w') := fun W hW => out1_any x t bx W HX.out hgd (HW.out.below hW)
        have hal : Below wr.heap.size wr (wr.alloc (.cells #[.int .i64 (t.length : Int), .int .u64 (FW t 0 : Int), .int .u64 (FW t 1 : Int), .int .u64 (FW t 2 : Int), .int .u64 (FW t 3 : Int), .int .u64 (OW t 0 : Int), .int .u64 (OW t 1 : Int), .int .u64 (OW t 2 : Int), .int .u64 (OW t 3 : Int)] 50 (0, 0))) := belA (Below.refl _ _) _
        have hcb : CB (wr.alloc (.cells #[.int .i64 (t.length : Int), .int .u64 (FW t 0 : Int), .int .u64 (FW t 1 : Int), .int .u64 (FW t 2 : Int), .int .u64 (FW t 3 : Int), .int .u64 (OW t 0 : Int), .int .u64 (OW t 1 : Int), .int .u64 (OW t 2 : Int), .int .u64 (OW t 3 : Int)] 50 (0, 0))) wr.heap.size 0 t := CB_of (alloc_get _ _)
        go_wp2_with fail
        refine (HCL.out _ hal).mono ?_
        rintro e W1 ⟨rfl, hb1⟩
        have hB1 := bel0 hal hb1
        have oK1 : W1.ownsRow B 50 9 (.slice (some ⟨g, 0, none⟩) n c) n (ces K) := HOK.out.kept (below_grown hB1 none) (.inr (by intro e; cases e))
        have HG1 : Hid (w.grownBy W1 (some g)) := grown_trans HGR.out (below_grown hB1 _)
        cases hw : wiB t x with
        | true =>
          have HF : Hid (K.take i = (L.take (j + 1)).filter q ∧ ((L.take (j + 1)).filter q).length = i ∧ K.drop (j + 1) = L.drop (j + 1)) := del_no HST.out.1 HST.out.2.1 HST.out.2.2.1 HST.out.2.2.2.2 (by rw [HD.out]; simp [hw])
          have HO1 : Hid (W1.ownsRow B 50 9 (.slice (some ⟨g, 0, none⟩) n c) n (ces K)) := oK1
          clear oK1 hw
          go_wp2_with fail
          go_roundw
          case rel => exact ⟨i, j + 1, rfl, by go_num, by omega, by omega, HG1.out, K, HF.out.1, HF.out.2.1, HF.out.2.2, HST.out.2.2.2.1, HO1.out⟩
          case measure => simp [intOf]; omega
        | false =>
          have hiK : i < K.length := by rw [HST.out.2.2.2.1, HN.out]; omega
          have HF : Hid ((K.set i t).take (i + 1) = (L.take (j + 1)).filter q ∧ ((L.take (j + 1)).filter q).length = i + 1 ∧ (K.set i t).drop (j + 1) = L.drop (j + 1) ∧ (K.set i t).length = L.length) := del_yes HST.out.1 HST.out.2.1 HST.out.2.2.1 HST.out.2.2.2.1 hij HST.out.2.2.2.2 (by rw [HD.out]; simp [hw])
          have hp := put9k_own t oK1 hiK
          have HP : Hid ((put9k W1 g i t).ownsRow B 50 9 (.slice (some ⟨g, 0, none⟩) n c) n (ces (K.set i t)) ∧ w.grownBy (put9k W1 g i t) (some g)) := ⟨hp.1, grown_trans HG1.out hp.2⟩
          obtain ⟨c0, c1, c2, c3, c4, c5, c6, c7, c8⟩ := ce_at (L := K) (by rw [HST.out.2.2.2.1, HN.out]; exact oK1) hiK rfl
          have fz := oK1.frozenAt
          obtain ⟨d0, d1, d2, d3, d4, d5, d6, d7, d8⟩ := hcb.below hb1
          clear oK1 hw hp
          go_wp2_with fail
          go_roundw
          case rel => exact ⟨i + 1, j + 1, by go_num, by go_num, by omega, by omega, HP.out.2, K.set i t, HF.out.1, HF.out.2.1, HF.out.2.2.1, HF.out.2.2.2, HP.out.1⟩
          case measure => simp [intOf]; omega
      · obtain rfl : j = n := by omega
        have j1 : ¬ (j : Int) < (j : Int) := by omega
        have i0 : (0 : Int) ≤ (i : Int) := by omega
        have i1 : (i : Int) ≤ (j : Int) := by omega
        have i2 : ¬ c = i := by omega
        have i3 : (j : Int) ≤ (c : Int) := by omega
        have i4 : (i : Int) ≤ (c : Int) := by omega
        obtain ⟨Z, hZ⟩ : ∃ Z : List Value, ∀ ty, (Builtin.clear_ #[30] ty #[.slice (some ⟨g, i * 9, none⟩) (j - i) (c - i)]).run Tryz.prog wr = .ok (.tuple #[]) (wr.setCells g (i * 9) Z) := by
          have hce : ∀ m, m < (j - i) * 9 → (wr.cell? ⟨g, i * 9 + m, none⟩).isSome = true := fun m hm => by
            rw [oK.cellAt (i * 9 + m) (by omega)]
            have hl := oK.1
            rw [List.getElem?_eq_getElem (by omega)]
            rfl
          obtain ⟨Z, hZ⟩ := clear9 wr 0 g (i * 9) (j - i) (c - i) (by omega) hce (fun m _ => oK.frozenAt _)
          exact ⟨Z, fun _ => hZ⟩
        obtain ⟨ys, oy, ey, gy⟩ := setCells_own Z (i * 9) oK
        have HE : Hid (((L.filter q).length = i) ∧ (wr.setCells g (i * 9) Z).ownsRow B 50 9 (.slice (some ⟨g, 0, none⟩) i c) i (ces (L.filter q)) ∧ w.grownBy (wr.setCells g (i * 9) Z) (some g)) := by
          have eL : L.take j = L := List.take_of_length_le (by rw [HN.out]; exact Nat.le_refl _)
          rw [eL] at e1 e2
          refine ⟨e2, ?_, grown_trans hg gy⟩
          have := own_cut (i := i) (by omega) oy
          rw [ey, ces_take, e1] at this
          exact this
        clear oK oy ey gy e1 e2 e3 e4 hg
        go_wp2_with fail
        go_ret
        exact ⟨i, rfl, HE.out.1, HE.out.2.1, HE.out.2.2⟩
set_option maxRecDepth 100000 in
theorem delo_nil (bx : Nat) (w : World) : Calls Tryz.prog 114 #[.slice none 0 0, .func (.func 125) #[] #[.pointer (some ⟨bx, 0, none⟩)]] w fun e w' => e = .returned (.slice none 0 0) ∧ Below w.heap.size w w' := by
  have H1 := idxo_any [] 0 none 0 bx (fun _ => true) w rfl (by omega) (fun W hW k t ht => by simp at ht) (fun W hW t ht => by cases ht)
  have e : ixP (fun _ => true) 0 [] = -1 := rfl
  rw [e] at H1
  go_enter Tryz.func114, Tryz.ntmps114
  go_wp2_with fail
  refine H1.mono ?_
  rintro e W0 ⟨rfl, hb0⟩
  clear H1
  go_wp2_with fail
  go_ret
  exact ⟨rfl, hb0⟩
theorem delo_all (L : List (List UInt8)) (n : Nat) (v : Value) (B : Nat) (x : List UInt8) (bx : Nat) (w : World) (hn : L.length = n) (hN : n ≤ 281474976710656) (h : w.ownsRow B 50 9 v n (ces L)) (gL : ∀ t ∈ L, good t = true) (gx : good x = true) (hq : WO w bx x) (hne : v.ownBlock ≠ some bx) (q : List UInt8 → Bool) (hqd : q = fun t => !wiB t x) :
    Calls Tryz.prog 114 #[v, .func (.func 125) #[] #[.pointer (some ⟨bx, 0, none⟩)]] w fun e w' => ∃ v', e = .returned v' ∧ w'.ownsRow B 50 9 v' (L.filter q).length (ces (L.filter q)) ∧ w.grownBy w' v.ownBlock := by
  rcases own_shapeQ h with ⟨rfl, rfl⟩ | ⟨g, c, rfl, -, -, cur, hg⟩
  · obtain rfl := List.length_eq_zero_iff.1 hn
    refine (delo_nil bx w).mono ?_
    rintro e w' ⟨rfl, hb⟩
    exact ⟨_, rfl, World.ownsRow_nil _ _ _ _, below_grown hb _⟩
  · refine (delo_any L n c g B x bx w hn hN h gL gx hq (fun e => hne (by rw [e]; rfl)) q hqd).mono ?_
    rintro e w' ⟨m, rfl, rfl, ho, hgr⟩
    exact ⟨_, rfl, ho, hgr⟩
end Go.Proofs.YtccbfaembcefjaaGreatDoor
namespace Go.Proofs.YtccbfaembcefjaaGreatDoor
open Go.RowKit
theorem ces_oneY (L : List (List UInt8)) : ∀ u ∈ ces L, u.oneCell' = true := fun u hu => by
  unfold ces at hu
  obtain ⟨t, _, ht⟩ := List.mem_flatMap.1 hu
  simp [ce9] at ht
  rcases ht with rfl | rfl | rfl | rfl | rfl | rfl | rfl | rfl | rfl <;> rfl
set_option maxRecDepth 100000 in
theorem eq_yes (c : Nat) (w : World) : (binOp BinOp.eql 30 (.slice none 0 c) (.slice none 0 0)).run Tryz.prog w = .ok (.bool true) w := by
  first | rfl | kernel_rfl
set_option maxRecDepth 100000 in
theorem eq_noA (ad : Addr) (n c : Nat) (w : World) : (binOp BinOp.eql 30 (.slice (some ad) n c) (.slice none 0 0)).run Tryz.prog w = .ok (.bool false) w := by
  first | rfl | kernel_rfl
theorem ces_news {W : World} {g o : Nat} {L : List (List UInt8)} (h : IRC W (some ⟨g, o, none⟩) L) : ∀ j u, (ces L)[j]? = some u → W.cell? ((⟨g, o, none⟩ : Addr).add j) = some u := fun j u hu => by
  have hj := (List.getElem?_eq_some_iff.1 hu).1
  rw [cesO_len] at hj
  have hk : j / 9 < L.length := by omega
  obtain ⟨g', o', e, c0, c1, c2, c3, c4, c5, c6, c7, c8⟩ := h W (Below.refl _ _) (j / 9) L[j / 9] (List.getElem?_eq_getElem hk)
  injection e with e
  injection e with e1 e2 _
  subst e1 e2
  have ea : (⟨g, o, none⟩ : Addr).add j = ⟨g, o + j, none⟩ := by simp [Addr.add]
  have hs : ces L = ces (L.take (j / 9)) ++ (ce9 L[j / 9] ++ ces (L.drop (j / 9 + 1))) := by
    have e3 : L = L.take (j / 9) ++ (L[j / 9] :: L.drop (j / 9 + 1)) := by rw [← List.drop_eq_getElem_cons hk, List.take_append_drop]
    have e4 : ∀ A C : List (List UInt8), ces (A ++ C) = ces A ++ ces C := fun A C => by unfold ces; rw [List.flatMap_append]
    conv => lhs; rw [e3]
    rw [e4]
    rfl
  have hl : (ces (L.take (j / 9))).length = j / 9 * 9 := by rw [cesO_len, List.length_take, Nat.min_eq_left (by omega)]
  rw [hs, List.getElem?_append_right (by omega), hl, List.getElem?_append_left (by simp [ce9]; omega)] at hu
  rw [ea]
  have hd : j = j / 9 * 9 + j % 9 := by omega
  have hm : j % 9 < 9 := Nat.mod_lt _ (by decide)
  have hsub : j - j / 9 * 9 = j % 9 := by omega
  rw [hsub] at hu
  have hoj : o + j = o + j / 9 * 9 + j % 9 := by omega
  rw [hoj]
  generalize j % 9 = r at *
  match r, hm, hu with
  | 0, _, hu => simp [ce9] at hu; rw [← hu]; exact c0
  | 1, _, hu => simp [ce9] at hu; rw [← hu]; exact c1
  | 2, _, hu => simp [ce9] at hu; rw [← hu]; exact c2
  | 3, _, hu => simp [ce9] at hu; rw [← hu]; exact c3
  | 4, _, hu => simp [ce9] at hu; rw [← hu]; exact c4
  | 5, _, hu => simp [ce9] at hu; rw [← hu]; exact c5
  | 6, _, hu => simp [ce9] at hu; rw [← hu]; exact c6
  | 7, _, hu => simp [ce9] at hu; rw [← hu]; exact c7
  | 8, _, hu => simp [ce9] at hu; rw [← hu]; exact c8
theorem ces_newsA {W : World} {ad : Addr} {L : List (List UInt8)} (h : IRC W (some ad) L) : ∀ j u, (ces L)[j]? = some u → W.cell? (ad.add j) = some u := by
  cases L with
  | nil => intro j u hu; simp [ces] at hu
  | cons t l =>
    obtain ⟨g, o, e, -⟩ := h W (Below.refl _ _) 0 t rfl
    obtain rfl := Option.some.inj e
    exact ces_news h
set_option maxRecDepth 100000 in
set_option maxHeartbeats 2000000 in
theorem clone_any (L : List (List UInt8)) (p : Option Addr) (n c : Nat) (w : World) (hn : L.length = n) (hN : n ≤ 1000000) (h : IRC w p L) :
    Calls Tryz.prog 124 #[.slice p n c] w fun e w' => ∃ v, e = .returned v ∧ w'.ownsRow w.heap.size 50 9 v n (ces L) ∧ Below w.heap.size w w' := by
  obtain ⟨i0, hi, hz0, hz1, hz2⟩ := info_parts info_cubeQ
  cases p with
  | none =>
    have hz : L = [] := by
      cases hc : L with
      | nil => rfl
      | cons t l =>
        obtain ⟨g, o0, e, -⟩ := h w (Below.refl _ _) 0 t (by rw [hc]; rfl)
        cases e
    subst hz
    obtain rfl : n = 0 := hn.symm
    have hq := eq_yes c w
    clear h hn
    go_enter Tryz.func124, Tryz.ntmps124
    go_wp2_with fail
    go_ret
    exact ⟨_, rfl, World.ownsRow_nil _ _ _ _, Below.refl _ _⟩
  | some ad =>
    have HE : Hid ((w.alloc (.cells #[] 50 (0, 0))).ownsRow w.heap.size 50 9 (.slice (some ⟨w.heap.size, 0, none⟩) 0 0) 0 []) := ⟨rfl, .inr ⟨w.heap.size, 0, #[], rfl, Nat.le_refl _, alloc_get _ _, Nat.le_refl _, Nat.zero_le _, rfl, rfl⟩⟩
    have HNW : Hid (∀ j u, (ces L)[j]? = some u → (w.alloc (.cells #[] 50 (0, 0))).cell? (ad.add j) = some u) := ces_newsA (h.later (belA (Below.refl _ _) _))
    have HL : Hid ((ces L).length = n * 9) := by unfold Hid; rw [cesO_len, hn]
    have hq := eq_noA ad n c w
    clear h hn
    go_enter Tryz.func124, Tryz.ntmps124
    go_wp2_with (at_builtin; refine wpList_append_own _ rfl _ _ 30 rfl w.heap.size 50 i0 _ 9 72 Tryz.underlying30 hi hz0 hz1 hz2 rfl (by decide) _ _ _ rfl HE.out ad n c (ces L) rfl HL.out HNW.out (ces_oneY L) (by unfold maxLen; omega) (by omega) (by simp) ?_)
    intro v8 w8 o8 g8 _
    have HB8 : Hid (w8.ownsRow w.heap.size 50 9 v8 n (ces L) ∧ Below w.heap.size w w8) := by
      refine ⟨?_, (belA (Below.refl _ _) _).grown g8 (belA (Below.refl _ _) _).size (fun b e => (HE.out.lt b e).1)⟩
      simpa using o8
    clear o8 g8
    go_wp2_with fail
    go_ret
    exact ⟨_, rfl, HB8.out⟩
end Go.Proofs.YtccbfaembcefjaaGreatDoor
namespace Go.Proofs.YtccbfaembcefjaaGreatDoor
open Go.RowKit Go.Shelf
theorem put3_get {W : World} {b : Nat} {x0 x1 x2 : Value} {T : TypeId} {m : Nat × Nat} (v0 v1 v2 : Value) (h : W.heap[b]? = some (.cells #[x0, x1, x2] T m)) : (((W.setCell ⟨b, 0, none⟩ v0).setCell ⟨b, 1, none⟩ v1).setCell ⟨b, 2, none⟩ v2).heap[b]? = some (.cells #[v0, v1, v2] T m) := by
  have h0 := set_get (j := 0) v0 h
  have h1 := set_get (j := 1) v1 h0
  have h2 := set_get (j := 2) v2 h1
  rw [h2]
  simp
theorem SPL_put {W : World} {B b : Nat} {V x0 x1 x2 : Value} {y : Int} {X : List (List UInt8 × List (List UInt8))} (h : W.heap[b]? = some (.cells #[x0, x1, x2] 24 (0, 0))) (hs : SPL W B V X) (hb : b < B) : (((W.setCell ⟨b, 0, none⟩ (.int .i64 y)).setCell ⟨b, 1, none⟩ V).setCell ⟨b, 2, none⟩ (.bool false)).heap[b]? = some (.cells #[.int .i64 y, V, .bool false] 24 (0, 0)) ∧ SPL (((W.setCell ⟨b, 0, none⟩ (.int .i64 y)).setCell ⟨b, 1, none⟩ V).setCell ⟨b, 2, none⟩ (.bool false)) 0 V X :=
  ⟨put3_get _ _ _ h, (hs.kept (gr3 _ _ _ _ _) hb).base (Nat.zero_le _)⟩
theorem num_le (b : Int) (l : List UInt8) (h : prE b l = 0) : (prB b l == 0) = false ∧ prB b l = b := by
  have h1 := prE_zero h
  have e : prB b l = b := by unfold prB; rw [if_pos h]
  refine ⟨?_, e⟩
  rw [e]
  simp
  omega
end Go.Proofs.YtccbfaembcefjaaGreatDoor
namespace Go.Proofs.YtccbfaembcefjaaGreatDoor
open Go.RowKit Go.Shelf
set_option maxRecDepth 100000 in
theorem eq_over (w : World) : (binOp BinOp.eql 20 (.iface 103 (.agg #[])) (.iface 103 (.agg #[]))).run Tryz.prog w = .ok (.bool true) w := by
  first | rfl | kernel_rfl | simp [go_sem]
set_option maxRecDepth 100000 in
theorem caught (b : Nat) (x : Int) (older : List PanicEntry) (w : World) (hc : w.cell? ⟨b, 0, none⟩ = some (.int .i64 x)) (hz : w.frozen? ⟨b, 0, none⟩ = false) :
    CallsD Tryz.prog 69 #[.pointer (some ⟨b, 0, none⟩)] (.panicking ({ v := .iface 103 (.agg #[]), recovered := false } :: older)) w fun e u' w' =>
      e = .returned (.tuple #[]) ∧ u' = .panicking ({ v := .iface 103 (.agg #[]), recovered := true } :: older) ∧ w' = w.setCell ⟨b, 0, none⟩ (.int .i64 3) := by
  refine callsD_of_wpS Tryz.func69 rfl fun c₀ cs hu => ?_
  apply wpS_seq
  apply wpS_region
  simp [wpOpsS, go_sem, recoverD, hu, Tryz.ntmps69, Exit.thenS]
  refine wpS_of_wp ?_
  have hE := eq_over
  go_wp2_with fail
  simp [bodyPostS, results, Tryz.results69]
set_option maxRecDepth 100000 in
theorem idle (b : Nat) (w : World) :
    CallsD Tryz.prog 69 #[.pointer (some ⟨b, 0, none⟩)] .returning w fun e u' w' => e = .returned (.tuple #[]) ∧ u' = .returning ∧ w' = w := by
  refine callsD_of_wpS Tryz.func69 rfl fun c₀ cs hu => ?_
  apply wpS_seq
  apply wpS_region
  simp [wpOpsS, go_sem, recoverD, hu, Tryz.ntmps69, Exit.thenS]
  refine wpS_of_wp ?_
  go_wp2_with fail
  cases c₀
  simp_all [bodyPostS, results, Tryz.results69]
end Go.Proofs.YtccbfaembcefjaaGreatDoor
namespace Go.Proofs.YtccbfaembcefjaaGreatDoor
end Go.Proofs.YtccbfaembcefjaaGreatDoor
namespace Go.Proofs.YtccbfaembcefjaaGreatDoor
open Go.RowKit Go.Shelf
theorem tes_len10 (L : List ZT) : (tes L).length = L.length * 10 := by
  induction L with
  | nil => rfl
  | cons z l ih =>
    have e : tes (z :: l) = z.cells ++ tes l := rfl
    rw [e, List.length_append, ih, List.length_cons]
    have : z.cells.length = 10 := rfl
    omega
theorem tes_one (L : List ZT) : ∀ v ∈ tes L, v.oneCell' = true := fun v hv => by
  obtain ⟨z, _, hz⟩ := List.mem_flatMap.1 hv
  simp only [ZT.cells, List.mem_cons, List.not_mem_nil, or_false] at hz
  rcases hz with rfl | rfl | rfl | rfl | rfl | rfl | rfl | rfl | rfl | rfl <;> rfl
end Go.Proofs.YtccbfaembcefjaaGreatDoor
namespace Go.Proofs.YtccbfaembcefjaaGreatDoor
open Go.RowKit Go.Shelf
/-- an operation that ends the region leaves nothing to walk -/
theorem dummyQ {X : Prop} {P : Program} {md : Region.Mode} {a : Act} {w : World} (hx : X) (_ : wpAny P md #[] (fun _ _ _ => True) 0 #[] a w) : X := hx
end Go.Proofs.YtccbfaembcefjaaGreatDoor
namespace Go.Proofs.YtccbfaembcefjaaGreatDoor
open Go.RowKit Go.Shelf
theorem res_sp2 {fn : Func} (tmps : Array Value) (W : World) (b : Nat) (v0 v1 v2 x : Value) {m : Nat × Nat} (hr : fn.results = #[.cell 4 24, .tmp 5]) (hp : tmps.getD 4 undef = .pointer (some ⟨b, 0, none⟩)) (hx : tmps.getD 5 undef = x) (h : W.heap[b]? = some (.cells #[v0, v1, v2] 24 m)) :
    (results fn tmps).run Tryz.prog W = .ok (.tuple #[.agg #[v0, v1, v2], x]) W := by
  have hc : ∀ j, W.cell? ⟨b, j, none⟩ = (#[v0, v1, v2] : Array Value)[j]? := by
    intro j; unfold World.cell?; rw [h]; simp
  have hp' : tmps[4]?.getD undef = .pointer (some ⟨b, 0, none⟩) := by simpa using hp
  have hx' : tmps[5]?.getD undef = x := by simpa using hx
  simp [results, hr, hp', hx', go_sem, hc]
theorem fits_any2 (b x : Int) (p : Option Addr) (n c : Nat) (w : World) : Calls Tryz.prog 35 #[.agg #[.int .i64 b, .slice p n c, .bool false], .int .i64 x] w fun e w' => e = .returned (.bool (!(b == 0) && (b == x))) ∧ Below w.heap.size w w' := by
  obtain ⟨w2, hw2⟩ : ∃ w2, w.alloc (.cells #[.int .i64 b, .slice p n c, .bool false] 24 (0, 0)) = w2 := ⟨_, rfl⟩
  have h0 : w2.heap[w.heap.size]? = some (.cells #[.int .i64 b, .slice p n c, .bool false] 24 (0, 0)) := by rw [← hw2]; exact alloc_get _ _
  have hB : Below w.heap.size w w2 := by rw [← hw2]; exact belA (Below.refl _ _) _
  obtain ⟨hc0, -⟩ := cells_block h0
  have HB : Hid (Below w.heap.size w w2) := hB
  clear h0 hB
  by_cases hz : b = 0
  · have m1 : (b != 0) = false := by simpa using hz
    have m2 : (b == 0) = true := by simpa using hz
    have HR : Hid ((!(b == 0) && (b == x)) = false) := by unfold Hid; rw [m2]; rfl
    clear hz m2
    go_enter Tryz.func35, Tryz.ntmps35
    go_wp2_with fail
    go_ret
    exact ⟨by rw [HR.out]; rfl, HB.out⟩
  · have m1 : (b != 0) = true := by simpa using hz
    have m2 : (b == 0) = false := by simpa using hz
    obtain ⟨q, hq⟩ : ∃ q, (b == x) = q := ⟨_, rfl⟩
    have HR : Hid ((!(b == 0) && (b == x)) = q) := by unfold Hid; rw [m2, hq]; rfl
    clear hz m2
    go_enter Tryz.func35, Tryz.ntmps35
    go_wp2_with fail
    go_ret
    exact ⟨by rw [HR.out]; rfl, HB.out⟩
def jnE (b b2 : Int) (A C : List (List UInt8 × List (List UInt8))) : Int := if (!(b == 0) && (b == b2)) = false then 11 else if szC (topC (A ++ C)) ≤ 128 then 0 else 3
def jnB (b b2 : Int) (A C : List (List UInt8 × List (List UInt8))) : Int := if jnE b b2 A C = 0 then b else 0
def jnT (b b2 : Int) (A C : List (List UInt8 × List (List UInt8))) : List (List UInt8 × List (List UInt8)) := if jnE b b2 A C = 0 then ordT (topC (A ++ C)) else []
end Go.Proofs.YtccbfaembcefjaaGreatDoor
namespace Go.Proofs.YtccbfaembcefjaaGreatDoor
open Go.RowKit Go.Shelf
/-- append of no elements, whatever room the slice says it has -/
theorem rts_one (L : List ZT) : ∀ v ∈ rts L, v.oneCell' = true := fun v hv => by
  obtain ⟨z, _, hz⟩ := List.mem_flatMap.1 hv
  simp only [rtc, List.mem_cons, List.not_mem_nil, or_false] at hz
  rcases hz with rfl | rfl <;> rfl
theorem rts_news {W : World} {ad : Addr} {Z : List ZT} (h : IRR W (some ad) Z) : ∀ j u, (rts Z)[j]? = some u → W.cell? (ad.add j) = some u := fun j u hu => by
  have hm : j % 2 < 2 := Nat.mod_lt _ (by omega)
  have e := rts_get Z (j / 2) (j % 2) hm
  rw [show j / 2 * 2 + j % 2 = j by omega, hu] at e
  cases hz : Z[j / 2]? with
  | none => rw [hz] at e; cases e
  | some z =>
    rw [hz] at e
    obtain ⟨g, o0, e1, c0, c1⟩ := h W (Below.refl _ _) _ z hz
    injection e1 with e1
    subst e1
    have ea : (⟨g, o0, none⟩ : Addr).add j = ⟨g, o0 + j, none⟩ := by simp [Addr.add]
    rw [ea]
    rcases (show j % 2 = 0 ∨ j % 2 = 1 by omega) with h0 | h0
    · rw [h0] at e
      rw [show o0 + j = o0 + j / 2 * 2 by omega, c0]
      exact e.symm
    · rw [h0] at e
      rw [show o0 + j = o0 + j / 2 * 2 + 1 by omega, c1]
      exact e.symm
set_option maxRecDepth 100000 in
set_option maxHeartbeats 2000000 in
theorem dbound2 (b : Int) (V : Value) (Ts : List (List UInt8 × List (List UInt8))) (w : World) (h : RSR w V Ts) (ho : szC Ts ≤ 1000000) : Calls Tryz.prog 41 #[.agg #[.int .i64 b, V]] w fun e w' => ((128 < szC Ts ∧ e = .returned (.tuple #[.agg #[.int .i64 0, .slice none 0 0], .int .i64 3])) ∨ (¬ 128 < szC Ts ∧ e = .returned (.tuple #[.agg #[.int .i64 b, V], .int .i64 0]))) ∧ Below w.heap.size w w' := by
  obtain ⟨p, cp, rfl⟩ := h.shape
  obtain ⟨w2, hw2⟩ : ∃ w2, (w.alloc (.cells #[.int .i64 b, .slice p (Ts.length) cp] 27 (0, 0))).alloc (.cells #[.int .i64 0, .slice none 0 0] 27 (0, 0)) = w2 := ⟨_, rfl⟩
  have h0 : w2.heap[w.heap.size]? = some (.cells #[.int .i64 b, .slice p (Ts.length) cp] 27 (0, 0)) := by rw [← hw2]; exact alw_0 _ _ _
  have h1 : w2.heap[w.heap.size + 1]? = some (.cells #[.int .i64 0, .slice none 0 0] 27 (0, 0)) := by rw [← hw2]; exact alw_1 _ _ _
  have hB : Below w.heap.size w w2 := by rw [← hw2]; exact belA (belA (Below.refl _ _) _) _
  obtain ⟨hc0, -⟩ := cells_block h0
  have HS : Hid (Calls Tryz.prog 73 #[.agg #[.int .i64 b, .slice p (Ts.length) cp]] w2 fun e w' => e = .returned (.int .i64 (szC Ts : Int)) ∧ Below w2.heap.size w2 w') := dSizeL_any b _ Ts w2 (h.later hB) ho
  have HA : Hid (w2.heap[w.heap.size]? = some (.cells #[.int .i64 b, .slice p (Ts.length) cp] 27 (0, 0)) ∧ w2.heap[w.heap.size + 1]? = some (.cells #[.int .i64 0, .slice none 0 0] 27 (0, 0)) ∧ Below w.heap.size w w2) := ⟨h0, h1, hB⟩
  clear h0 h1 hB h
  by_cases hgt : (128 : Int) < (szC Ts : Int)
  · go_enter Tryz.func41, Tryz.ntmps41
    go_wp2_with fail
    refine HS.out.mono ?_
    rintro e W1 ⟨rfl, hb1⟩
    have k1 := keepblk3 hb1 HA.out.2.1
    obtain ⟨hcE, hfE⟩ := cells_block k1
    have HF : Hid (_ = _) := set2_get (.int .i64 0) (.slice none 0 0) k1
    have HBB : Hid (Below w.heap.size w ((W1.setCell ⟨w.heap.size + 1, 0, none⟩ (.int .i64 0)).setCell ⟨w.heap.size + 1, 1, none⟩ (.slice none 0 0))) := ((bel0 HA.out.2.2 hb1).setCell (Nat.le_succ _) _).setCell (Nat.le_succ _) _
    clear k1 hb1 hc0 hw2
    go_wp2_with fail
    refine bodyPost_ret (v := .tuple #[.agg #[.int .i64 0, .slice none 0 0], .int .i64 3]) (res_rs2 _ _ (w.heap.size + 1) _ _ Tryz.results41 rfl HF.out) rfl ?_
    exact ⟨.inl ⟨by omega, rfl⟩, HBB.out⟩
  · go_enter Tryz.func41, Tryz.ntmps41
    go_wp2_with fail
    refine HS.out.mono ?_
    rintro e W1 ⟨rfl, hb1⟩
    have k1 := keepblk3 hb1 HA.out.2.1
    have k0 := keepblk3 hb1 HA.out.1
    obtain ⟨hcE, hfE⟩ := cells_block k1
    obtain ⟨hcD, -⟩ := cells_block k0
    have HF : Hid (_ = _) := set2_get (.int .i64 b) (.slice p (Ts.length) cp) k1
    have HBB : Hid (Below w.heap.size w ((W1.setCell ⟨w.heap.size + 1, 0, none⟩ (.int .i64 b)).setCell ⟨w.heap.size + 1, 1, none⟩ (.slice p (Ts.length) cp))) := ((bel0 HA.out.2.2 hb1).setCell (Nat.le_succ _) _).setCell (Nat.le_succ _) _
    clear k1 k0 hb1 hc0 hw2
    go_wp2_with fail
    refine bodyPost_ret (v := .tuple #[.agg #[.int .i64 b, .slice p (Ts.length) cp], .int .i64 0]) (res_rs2 _ _ (w.heap.size + 1) _ _ Tryz.results41 rfl HF.out) rfl ?_
    exact ⟨.inr ⟨by omega, rfl⟩, HBB.out⟩
theorem dfit_any (b b2 : Int) (p1 p2 : Option Addr) (n1 n2 k1 k2 : Nat) (w : World) (hb : 0 ≤ b) : Calls Tryz.prog 46 #[.agg #[.int .i64 b, .slice p1 n1 k1], .agg #[.int .i64 b2, .slice p2 n2 k2]] w fun e w' => e = .returned (.bool (!(b == 0) && (b == b2))) ∧ Below w.heap.size w w' := by
  obtain ⟨w2, hw2⟩ : ∃ w2, (w.alloc (.cells #[.int .i64 b, .slice p1 n1 k1] 27 (0, 0))).alloc (.cells #[.int .i64 b2, .slice p2 n2 k2] 27 (0, 0)) = w2 := ⟨_, rfl⟩
  have h0 : w2.heap[w.heap.size]? = some (.cells #[.int .i64 b, .slice p1 n1 k1] 27 (0, 0)) := by rw [← hw2]; exact alw_0 _ _ _
  have h1 : w2.heap[w.heap.size + 1]? = some (.cells #[.int .i64 b2, .slice p2 n2 k2] 27 (0, 0)) := by rw [← hw2]; exact alw_1 _ _ _
  have hB : Below w.heap.size w w2 := by rw [← hw2]; exact belA (belA (Below.refl _ _) _) _
  obtain ⟨hc0, -⟩ := cells_block h0
  obtain ⟨hc1, -⟩ := cells_block h1
  have HB : Hid (Below w.heap.size w w2) := hB
  clear h0 h1 hB
  by_cases hz : b = 0
  · have m1 : ¬ (b > 0) := by omega
    have HR : Hid ((!(b == 0) && (b == b2)) = false) := by unfold Hid; rw [show (b == 0) = true by simpa using hz]; rfl
    clear hz hb
    go_enter Tryz.func46, Tryz.ntmps46
    go_wp2_with fail
    go_ret
    exact ⟨by rw [HR.out]; rfl, HB.out⟩
  · have m1 : b > 0 := by omega
    obtain ⟨q, hq⟩ : ∃ q, (b == b2) = q := ⟨_, rfl⟩
    have HR : Hid ((!(b == 0) && (b == b2)) = q) := by unfold Hid; rw [show (b == 0) = false by simpa using hz, hq]; rfl
    clear hz hb
    go_enter Tryz.func46, Tryz.ntmps46
    go_wp2_with fail
    go_ret
    exact ⟨by rw [HR.out]; rfl, HB.out⟩
theorem frm_ord {X : List (List UInt8 × List (List UInt8))} (h : ∀ t ∈ X, t.2.Pairwise (fun a b => leB a b = true)) : frmD (topC X) = ordT (topC X) := by
  unfold frmD ordT
  congr 2
  refine List.map_congr_left (fun t ht => ?_)
  rcases topCF_mem X [] t ht with h1 | h1
  · cases h1
  · rw [srtT_id (h t h1)]
end Go.Proofs.YtccbfaembcefjaaGreatDoor
namespace Go.Proofs.YtccbfaembcefjaaGreatDoor
open Go.RowKit Go.Shelf
theorem app_rt {ops : Array Oper} {rest : List Oper} {o : Oper} {a : Act} {Q : Exit → Act → World → Prop} {w : World} (hgd : o.guard = none) (s x : Operand)
    (ho : o.op = .call { callee := .builtin .append, args := #[s, x], argTypes := #[25, 25] }) (base : Nat) (v : Value) (m : Nat) (xs : List Value) (hs : a.eval s = v) (hown : w.ownsRow base 71 2 v m xs)
    (p : Option Addr) (n k : Nat) (Z : List ZT) (hx : a.eval x = .slice p n k) (hZ : Z.length = n) (hr : IRR w p Z) (hm : m + n ≤ 100000) (hbase : base ≤ w.heap.size)
    (h : ∀ v' w', w'.ownsRow base 71 2 v' (m + n) (xs ++ rts Z) → w.grownBy w' v.ownBlock → wpList Tryz.prog ops Q rest (a.put o.dst v') w') : wpList Tryz.prog ops Q (o :: rest) a w := by
  obtain ⟨iT, hiT, hzT0, hzT1, hzT2⟩ := info_parts info_rtm
  cases p with
  | none =>
    have hz : Z = [] := by
      cases hc : Z with
      | nil => rfl
      | cons z l =>
        obtain ⟨g, o0, e, -⟩ := hr w (Below.refl _ _) 0 z (by rw [hc]; rfl)
        cases e
    subst hz
    have hn : n = 0 := hZ.symm
    subst hn
    refine app_none0 hgd s x 25 ho base 71 iT 2 Tryz.underlying25 hiT v m k xs hs hown hx (h v w ?_ ⟨rfl, rfl, rfl, Nat.le_refl _, fun _ _ _ => rfl⟩)
    have e : xs ++ rts [] = xs := by simp [rts]
    rw [e]
    exact hown
  | some ad =>
    exact wpList_append_own _ hgd s x 25 ho base 71 iT _ 2 40 Tryz.underlying25 hiT hzT0 hzT1 hzT2 rfl (by decide) v m xs hs hown ad n k (rts Z) hx (by rw [rts_len, hZ]) (rts_news hr) (rts_one Z) (by unfold maxLen; omega) (by omega) hbase (fun v' w' h1 h2 _ => h v' w' h1 h2)
end Go.Proofs.YtccbfaembcefjaaGreatDoor
namespace Go.Proofs.YtccbfaembcefjaaGreatDoor
open Go.RowKit Go.Shelf
theorem jn_ok (b b2 : Int) (A C : List (List UInt8 × List (List UInt8))) (hg1 : gdC A) (hg2 : gdC C) : gdC (jnT b b2 A C) ∧ szC (jnT b b2 A C) ≤ 128 := by
  unfold jnT
  split
  · rename_i h
    have h2 : szC (topC (A ++ C)) ≤ 128 := by
      unfold jnE at h
      split at h
      · exact absurd h (by decide)
      · split at h
        · assumption
        · exact absurd h (by decide)
    refine ⟨gdC_ord (gdC_top (fun t ht => ?_)), by rw [szC_ord]; exact h2⟩
    rcases List.mem_append.1 ht with ht | ht
    · exact hg1 t ht
    · exact hg2 t ht
  · exact ⟨(fun t h => by cases h), Nat.zero_le _⟩
theorem prB_ge (b : Int) (l : List UInt8) : 0 ≤ prB b l := by
  unfold prB
  split
  · rename_i h
    have := (prE_zero h).1
    omega
  · exact Int.le_refl _
end Go.Proofs.YtccbfaembcefjaaGreatDoor
namespace Go.Proofs.YtccbfaembcefjaaGreatDoor
open Go.RowKit Go.Shelf
/-- what each two terms have in common, not yet in its form -/
def cmN (A C : List (List UInt8 × List (List UInt8))) : List (List UInt8 × List (List UInt8)) := A.flatMap (fun a => C.filterMap (fun c => if agB a.1 c.1 = true then some (mtT a.1 c.1, a.2 ++ c.2) else none))
theorem cmN_step {A C : List (List UInt8 × List (List UInt8))} {i : Nat} {a : List UInt8 × List (List UInt8)} (h : A[i]? = some a) : cmN (A.take (i + 1)) C = cmN (A.take i) C ++ cmN [a] C := by
  unfold cmN
  rw [List.take_add_one, h, List.flatMap_append]
  rfl
theorem cmN_sing (a : List UInt8 × List (List UInt8)) (C : List (List UInt8 × List (List UInt8))) : cmN [a] C = C.filterMap (fun c => if agB a.1 c.1 = true then some (mtT a.1 c.1, a.2 ++ c.2) else none) := by
  unfold cmN
  rw [List.flatMap_cons, List.flatMap_nil, List.append_nil]
theorem cmN_one {C : List (List UInt8 × List (List UInt8))} {j : Nat} {a c : List UInt8 × List (List UInt8)} (h : C[j]? = some c) : cmN [a] (C.take (j + 1)) = cmN [a] (C.take j) ++ (if agB a.1 c.1 = true then [(mtT a.1 c.1, a.2 ++ c.2)] else []) := by
  rw [cmN_sing, cmN_sing, List.take_add_one, h, List.filterMap_append]
  congr 1
  by_cases hq : agB a.1 c.1 = true
  · simp [hq]
  · simp [hq]
theorem prT_fix (b : Int) (l : List UInt8) : ordT (topC (stl (prT b l))) = prT b l := by
  by_cases hX : prT b l = []
  · rw [hX]; simp [ordT, srtLn, topC, stl]
  · have h0 : prE b l = 0 := by
      by_cases h : prE b l = 0
      · exact h
      · exact absurd (by unfold prT; rw [if_neg h]) hX
    have hn : ¬ l = [110, 111, 110, 101] := fun hc => hX (by unfold prT; rw [if_pos h0, if_pos hc])
    have hT : prT b l = ordT (topC (stl ((prts 43 l).map tcon))) := by unfold prT; rw [if_pos h0, if_neg hn]
    rw [hT]
    exact form_id (gdC_tcon ((prE_zero h0).2.2.resolve_left hn))
theorem rep_get (n k : Nat) (hk : k < n) : (List.replicate n (120 : UInt8))[k]? = some 120 := by rw [List.getElem?_replicate, if_pos hk]
theorem rep_good (n : Nat) (hn : n ≤ 256) : good (List.replicate n 120) = true := by
  unfold good
  rw [Bool.and_eq_true, List.all_eq_true]
  refine ⟨by simpa using hn, fun x hx => ?_⟩
  rw [(List.mem_replicate.1 hx).2]
  rfl
theorem wi_rep {c : List UInt8} (h : c ≠ []) : wiB c (List.replicate c.length 120) = true := by
  unfold wiB
  rw [Bool.and_eq_true, allTo_iff]
  refine ⟨fit_of h (by simp), fun k hk => ?_⟩
  rw [rep_get _ _ hk, List.getElem?_eq_getElem hk]
  rfl
/-- all headers leave a cube as it is -/
theorem mt_rep {c : List UInt8} (h : c ≠ []) (gc : good c = true) : agB c (List.replicate c.length 120) = true ∧ mtT c (List.replicate c.length 120) = c := by
  have h1 := wi_eq c (List.replicate c.length 120) gc (rep_good _ (good_le gc))
  rw [wi_rep h] at h1
  obtain ⟨h2, h3⟩ := Bool.and_eq_true_iff.1 h1
  exact ⟨h2, by simpa using h3⟩
theorem mt_rep2 {c : List UInt8} (h : c ≠ []) : agB (List.replicate c.length 120) c = true ∧ mtT (List.replicate c.length 120) c = c := by
  have hf : fitB (List.replicate c.length 120) c = true := fit_of (by intro e; apply h; have := congrArg List.length e; simpa using this) (by simp)
  have ha : agB (List.replicate c.length 120) c = true := agB_all _ _ hf (fun k hk => by
    unfold cfl fx
    rw [rep_get _ _ (by simpa using hk)]
    simp)
  refine ⟨ha, ?_⟩
  unfold mtT
  rw [if_pos ha]
  apply List.ext_getElem?
  intro k
  by_cases hk : k < c.length
  · rw [meetT_get _ _ (by simp) k (by simpa using hk), List.getElem?_eq_getElem hk]
    simp
  · rw [List.getElem?_eq_none (by rw [meetT_len _ _ (by simp)]; simp; omega), List.getElem?_eq_none (by omega)]
theorem cm_all1 {C : List (List UInt8 × List (List UInt8))} {n : Nat} (h : ∀ t ∈ C, t.1.length = n ∧ t.1 ≠ []) : cmN [(List.replicate n 120, [])] C = C := by
  rw [cmN_sing]
  induction C with
  | nil => rfl
  | cons c l ih =>
    have h1 := h c List.mem_cons_self
    have h2 := mt_rep2 h1.2
    rw [h1.1] at h2
    have ih' := ih (fun t ht => h t (List.mem_cons_of_mem _ ht))
    rw [List.filterMap_cons_some (b := c) (by rw [if_pos h2.1, h2.2]; rfl), ih']
theorem cm_all2 {A : List (List UInt8 × List (List UInt8))} {n : Nat} (h : ∀ t ∈ A, t.1.length = n ∧ t.1 ≠ [] ∧ good t.1 = true) : cmN A [(List.replicate n 120, [])] = A := by
  induction A with
  | nil => rfl
  | cons a l ih =>
    have h1 := h a List.mem_cons_self
    have h2 := mt_rep h1.2.1 h1.2.2
    rw [h1.1] at h2
    have ih' := ih (fun t ht => h t (List.mem_cons_of_mem _ ht))
    have e : cmN (a :: l) [(List.replicate n 120, [])] = cmN [a] [(List.replicate n 120, [])] ++ cmN l [(List.replicate n 120, [])] := by
      unfold cmN
      simp only [List.flatMap_cons, List.flatMap_nil, List.append_nil]
    rw [e, ih', cmN_sing, List.filterMap_cons_some (b := a) (by rw [if_pos h2.1, h2.2, List.append_nil])]
    rfl
theorem gdC_cm {A C : List (List UInt8 × List (List UInt8))} (h1 : gdC A) (h2 : gdC C) : gdC (cmN A C) := fun t ht => by
  unfold cmN at ht
  obtain ⟨a, ha, ht⟩ := List.mem_flatMap.1 ht
  obtain ⟨c, hc, he⟩ := List.mem_filterMap.1 ht
  split at he
  · obtain rfl := Option.some.inj he
    refine ⟨good_mtT _ _ (h1 a ha).1 (h2 c hc).1, fun x hx => ?_⟩
    rcases List.mem_append.1 hx with hx | hx
    · exact (h1 a ha).2 x hx
    · exact (h2 c hc).2 x hx
  · cases he
end Go.Proofs.YtccbfaembcefjaaGreatDoor
namespace Go.Proofs.YtccbfaembcefjaaGreatDoor
open Go.RowKit Go.Shelf
theorem dboth_any (L1 L2 : List (List UInt8)) (p1 p2 : Option Addr) (n1 n2 k1 k2 : Nat) (w : World) (h1 : L1.length = n1) (h2 : L2.length = n2) (hN1 : n1 ≤ 1000000) (hN2 : n2 ≤ 1000000) (r1 : IRSt w p1 L1) (r2 : IRSt w p2 L2) :
    Calls Tryz.prog 105 #[.slice p1 n1 k1, .slice p2 n2 k2] w fun e w' => ∃ v, e = .returned v ∧ w'.ownsRow w.heap.size 9 1 v (n1 + n2) (stx (L1 ++ L2)) ∧ Below w.heap.size w w' := by
  have HR : Hid (IRSt w p1 L1 ∧ IRSt w p2 L2 ∧ L1.length = n1 ∧ L2.length = n2) := ⟨r1, r2, h1, h2⟩
  clear r1 r2 h1 h2
  go_enter Tryz.func105, Tryz.ntmps105
  go_wp2_with (at_builtin; refine app_st rfl _ _ rfl w.heap.size (.slice none 0 0) 0 [] rfl (World.ownsRow_nil _ _ _ _) p1 n1 k1 L1 rfl HR.out.2.2.1 HR.out.1 (by omega) (Nat.le_refl _) ?_)
  intro v8 w8 o8 g8
  have hB8 : Below w.heap.size w w8 := app_belC (Below.refl _ _) (World.ownsRow_nil _ w.heap.size 9 1) g8
  obtain ⟨pv, cv, rfl⟩ := shapeQ1 o8
  have O8 : Hid (w8.ownsRow w.heap.size 9 1 (.slice pv n1 cv) n1 (stx L1)) := o8
  have hbs8 := hB8.size
  have HB8 : Hid (Below w.heap.size w w8) := hB8
  clear o8 g8 hB8
  go_wp2_with (at_builtin; refine app_st rfl _ _ rfl w.heap.size (.slice pv n1 cv) n1 (stx L1) rfl O8.out p2 n2 k2 L2 rfl HR.out.2.2.2 (HR.out.2.1.later HB8.out) (by omega) hbs8 ?_)
  intro v9 w9 o9 g9
  have hB9 : Below w.heap.size w w9 := app_belC HB8.out O8.out g9
  obtain ⟨pw, cw, rfl⟩ := shapeQ1 o9
  have O9 : Hid (w9.ownsRow w.heap.size 9 1 (.slice pw (n1 + n2) cw) (n1 + n2) (stx (L1 ++ L2)) ∧ Below w.heap.size w w9) := by
    have e : stx (L1 ++ L2) = stx L1 ++ stx L2 := by simp [stx]
    unfold Hid
    rw [e]
    exact ⟨o9, hB9⟩
  clear o9 g9 hB9
  go_wp2_with fail
  go_ret
  exact ⟨_, rfl, O9.out⟩
end Go.Proofs.YtccbfaembcefjaaGreatDoor
namespace Go.Proofs.YtccbfaembcefjaaGreatDoor
open Go.RowKit Go.Shelf
def mnE (b b2 : Int) (A C : List (List UInt8 × List (List UInt8))) : Int := if (!(b == 0) && (b == b2)) = false then 11 else if 2048 < A.length * C.length then 3 else if szC (topC (stl (cmN A C))) ≤ 128 then 0 else 3
def mnB (b b2 : Int) (A C : List (List UInt8 × List (List UInt8))) : Int := if mnE b b2 A C = 0 then b else 0
def mnT (b b2 : Int) (A C : List (List UInt8 × List (List UInt8))) : List (List UInt8 × List (List UInt8)) := if mnE b b2 A C = 0 then ordT (topC (stl (cmN A C))) else []
theorem stD_app (X Y : List (List UInt8 × List (List UInt8))) : stD (X ++ Y) = stD X ++ stD Y := by unfold stD; rw [List.filterMap_append]
theorem stD_sing (c : List UInt8) (L : List (List UInt8)) : stD [(c, L)] = match setO c L with | none => [] | some R => [(c, srtT R)] := by
  unfold stD
  cases h : setO c L <;> simp [h]
theorem stD_len (X : List (List UInt8 × List (List UInt8))) : (stD X).length ≤ X.length := List.length_filterMap_le _ _
theorem cmN_len2 (A C : List (List UInt8 × List (List UInt8))) : (cmN A C).length ≤ A.length * C.length := by
  induction A with
  | nil => simp [cmN]
  | cons a l ih =>
    have e : cmN (a :: l) C = cmN [a] C ++ cmN l C := by
      unfold cmN
      simp only [List.flatMap_cons, List.flatMap_nil, List.append_nil]
    have h1 : (cmN [a] C).length ≤ C.length := by rw [cmN_sing]; exact List.length_filterMap_le _ _
    rw [e, List.length_append, List.length_cons, Nat.succ_mul]
    omega
theorem cm_most (Z1 Z2 : List ZT) (k j : Nat) (x : List UInt8 × List (List UInt8)) (h1 : Z1.length ≤ 128) (h2 : Z2.length ≤ 128) : (stD (cmN ((Z1.take k).map ZT.cont) (Z2.map ZT.cont) ++ cmN [x] ((Z2.take j).map ZT.cont))).length ≤ 16512 := by
  have h3 := stD_len (cmN ((Z1.take k).map ZT.cont) (Z2.map ZT.cont) ++ cmN [x] ((Z2.take j).map ZT.cont))
  rw [List.length_append] at h3
  have h4 := cmN_len2 ((Z1.take k).map ZT.cont) (Z2.map ZT.cont)
  have h5 := cmN_len2 [x] ((Z2.take j).map ZT.cont)
  rw [List.length_map, List.length_take, List.length_map] at h4
  rw [List.length_map, List.length_take, List.length_singleton] at h5
  have h6 : min k Z1.length * Z2.length ≤ 128 * 128 := Nat.mul_le_mul (by omega) h2
  omega
end Go.Proofs.YtccbfaembcefjaaGreatDoor
namespace Go.Proofs.YtccbfaembcefjaaGreatDoor
open Go.RowKit Go.Shelf
/-- what of a term lies in the list of what is taken away -/
def wtI (x : List UInt8 × List (List UInt8)) (L : List (List UInt8)) : List (List UInt8 × List (List UInt8)) := L.filterMap (fun n => if agB x.1 n = true then some (mtT x.1 n, x.2) else none)
/-- the terms less one more, raw -/
def wtN (X : List (List UInt8 × List (List UInt8))) (c : List UInt8) (L : List (List UInt8)) : List (List UInt8 × List (List UInt8)) := X.flatMap (fun x => (x.1, x.2 ++ [c]) :: wtI x L)
def tkE (X : List (List UInt8 × List (List UInt8))) (c : List UInt8) (L : List (List UInt8)) : Int := if 2048 < X.length * (1 + L.length) then 3 else if szC (topC (stl (wtN X c L))) ≤ 128 then 0 else 3
def tkB (b : Int) (X : List (List UInt8 × List (List UInt8))) (c : List UInt8) (L : List (List UInt8)) : Int := if tkE X c L = 0 then b else 0
def tkT (X : List (List UInt8 × List (List UInt8))) (c : List UInt8) (L : List (List UInt8)) : List (List UInt8 × List (List UInt8)) := if tkE X c L = 0 then ordT (topC (stl (wtN X c L))) else []
theorem wtN_step {X : List (List UInt8 × List (List UInt8))} {c : List UInt8} {L : List (List UInt8)} {i : Nat} {a : List UInt8 × List (List UInt8)} (h : X[i]? = some a) : wtN (X.take (i + 1)) c L = wtN (X.take i) c L ++ ((a.1, a.2 ++ [c]) :: wtI a L) := by
  unfold wtN
  rw [List.take_add_one, h, List.flatMap_append]
  simp
theorem wtI_step {x : List UInt8 × List (List UInt8)} {L : List (List UInt8)} {j : Nat} {n : List UInt8} (h : L[j]? = some n) : wtI x (L.take (j + 1)) = wtI x (L.take j) ++ (if agB x.1 n = true then [(mtT x.1 n, x.2)] else []) := by
  unfold wtI
  rw [List.take_add_one, h, List.filterMap_append]
  congr 1
  by_cases hq : agB x.1 n = true <;> simp [hq]
theorem wtI_len (x : List UInt8 × List (List UInt8)) (L : List (List UInt8)) : (wtI x L).length ≤ L.length := List.length_filterMap_le _ _
theorem wtN_cons (x : List UInt8 × List (List UInt8)) (X : List (List UInt8 × List (List UInt8))) (c : List UInt8) (L : List (List UInt8)) : wtN (x :: X) c L = ((x.1, x.2 ++ [c]) :: wtI x L) ++ wtN X c L := by
  unfold wtN
  rw [List.flatMap_cons]
theorem wtN_len (X : List (List UInt8 × List (List UInt8))) (c : List UInt8) (L : List (List UInt8)) : (wtN X c L).length ≤ X.length * (1 + L.length) := by
  induction X with
  | nil => simp [wtN]
  | cons x r ih =>
    have h := wtI_len x L
    rw [wtN_cons, List.length_append, List.length_cons, List.length_cons, Nat.succ_mul]
    omega
theorem wt_most (Z1 : List ZT) (c : List UInt8) (L : List (List UInt8)) (k j : Nat) (x y : List UInt8 × List (List UInt8)) (h1 : Z1.length ≤ 128) (h2 : L.length ≤ 128) : (stD (wtN ((Z1.take k).map ZT.cont) c L ++ (y :: wtI x (L.take j)))).length ≤ 20000 := by
  have h3 := stD_len (wtN ((Z1.take k).map ZT.cont) c L ++ (y :: wtI x (L.take j)))
  rw [List.length_append, List.length_cons] at h3
  have h4 := wtN_len ((Z1.take k).map ZT.cont) c L
  have h5 := wtI_len x (L.take j)
  rw [List.length_map, List.length_take] at h4
  rw [List.length_take] at h5
  have h6 : min k Z1.length * (1 + L.length) ≤ 128 * 129 := Nat.mul_le_mul (by omega) (by omega)
  omega
theorem wt_all (X : List (List UInt8 × List (List UInt8))) (c : List UInt8) (L : List (List UInt8)) (h1 : X.length ≤ 128) (h2 : L.length ≤ 128) : (stD (wtN X c L)).length ≤ 20000 := by
  have h3 := stD_len (wtN X c L)
  have h4 := wtN_len X c L
  have h6 : X.length * (1 + L.length) ≤ 128 * 129 := Nat.mul_le_mul h1 (by omega)
  omega
theorem wtI_sz (x : List UInt8 × List (List UInt8)) (L : List (List UInt8)) : szC (wtI x L) ≤ L.length * (1 + x.2.length) := by
  unfold wtI
  induction L with
  | nil => simp [szC]
  | cons n r ih =>
    rw [List.filterMap_cons, List.length_cons, Nat.succ_mul]
    by_cases hq : agB x.1 n = true
    · rw [if_pos hq]
      simp only [szC]
      omega
    · rw [if_neg hq]
      simp only
      omega
theorem wtN_sz (X : List (List UInt8 × List (List UInt8))) (c : List UInt8) (L : List (List UInt8)) : szC (wtN X c L) ≤ (2 + L.length) * szC X := by
  induction X with
  | nil => simp [wtN, szC]
  | cons x r ih =>
    have h := wtI_sz x L
    have e : (2 + L.length) * (1 + x.2.length) = 2 * (1 + x.2.length) + L.length * (1 + x.2.length) := Nat.add_mul _ _ _
    rw [wtN_cons, szC_append, szC, szC, Nat.mul_add, e]
    simp only [List.length_append, List.length_singleton]
    omega
theorem wt_sz (X : List (List UInt8 × List (List UInt8))) (c : List UInt8) (L : List (List UInt8)) (h1 : szC X ≤ 128) (h2 : L.length ≤ 128) : szC (topC (stl (wtN X c L))) ≤ 1000000 := by
  have h3 := szC_top (wtN X c L)
  have h4 := wtN_sz X c L
  have h5 : (2 + L.length) * szC X ≤ 130 * 128 := Nat.mul_le_mul (by omega) h1
  omega
theorem IRSt_blk {W : World} {g : Nat} {u : List UInt8} (h : W.heap[g]? = some (.cells #[.string ⟨u.toArray⟩] 9 (0, 0))) : IRSt W (some ⟨g, 0, none⟩) [u] := fun X hX k t ht => by
  have hb := keepblk3 hX h
  refine ⟨g, 0, rfl, ?_⟩
  match k, ht with
  | 0, ht =>
    have e : u = t := by simpa using ht
    subst e
    have := (cells_block hb).1 0
    rw [this]
    rfl
  | k + 1, ht => simp at ht
theorem DZ.put2 {W0 W : World} {v : Value} {Z : List ZT} {Ts : List (List UInt8 × List (List UInt8))} {b : Nat} {cs : Array Value} (h : DZ W0 v Z Ts W) (hb : W.heap[b]? = some (.cells cs 71 (0, 0))) (hne : v.ownBlock ≠ some b) (hB : W0.heap.size ≤ b) (u0 u1 : Value) : DZ W0 v Z Ts ((W.setCell ⟨b, 0, none⟩ u0).setCell ⟨b, 1, none⟩ u1) := by
  refine ⟨h.1, h.2.1.kept (gr2 _ _ _ _) (.inr hne), fun z hz => ⟨?_, (h.2.2.1 z hz).2⟩, (h.2.2.2.setCell hB _).setCell hB _⟩
  refine (h.2.2.1 z hz).1.kept (gr2 _ _ _ _) (.inr (fun e => ?_))
  rcases own_shapeQ (h.2.2.1 z hz).1 with ⟨e2, -⟩ | ⟨g', c', e2, -, -, cur', h5⟩
  · rw [e2] at e
    cases e
  · rw [e2] at e
    have e3 : g' = b := Option.some.inj e
    subst e3
    have h6 := h5
    rw [hb] at h6
    injection h6 with h6
    injection h6 with _ h7 _
    exact absurd h7 (by decide)
end Go.Proofs.YtccbfaembcefjaaGreatDoor
