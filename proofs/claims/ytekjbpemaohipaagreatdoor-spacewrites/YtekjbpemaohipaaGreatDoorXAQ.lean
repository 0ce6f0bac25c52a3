import Derived.Test.YtekjbpemaohipaaGreatDoorXAJ
import Derived.Laws.OwnMore
import Derived.Laws.IdiomCopy
import Derived.Deep.AppendLies
import Derived.OwnWalk
import Derived.Deep.DeepCutAuto
namespace Go.Proofs.YtekjbpemaohipaaGreatDoor
open Go.RowKit
theorem CZ_of {W : World} {b : Nat} {z : ZT} (h : W.heap[b]? = some (.cells #[.int .i64 (z.c.length : Int), .int .u64 (FW z.c 0 : Int), .int .u64 (FW z.c 1 : Int), .int .u64 (FW z.c 2 : Int), .int .u64 (FW z.c 3 : Int), .int .u64 (OW z.c 0 : Int), .int .u64 (OW z.c 1 : Int), .int .u64 (OW z.c 2 : Int), .int .u64 (OW z.c 3 : Int), .slice z.q z.L.length z.k] 62 (0, 0))) : CZ W b 0 z := by
  obtain ⟨hc, -⟩ := cells_block h
  exact ⟨hc 0, hc 1, hc 2, hc 3, hc 4, hc 5, hc 6, hc 7, hc 8, hc 9⟩
theorem CZ.below {W X : World} {g o : Nat} {z : ZT} (h : CZ W g o z) (hb : Below W.heap.size W X) : CZ X g o z := by
  have hk : ∀ {p : Addr} {v : Value}, W.cell? p = some v → X.cell? p = some v := fun h => (hb.cell (World.block_lt_of_cell? W _ h)).trans h
  obtain ⟨h0, h1, h2, h3, h4, h5, h6, h7, h8, h9⟩ := h
  exact ⟨hk h0, hk h1, hk h2, hk h3, hk h4, hk h5, hk h6, hk h7, hk h8, hk h9⟩
theorem tes_set (K : List ZT) (k : Nat) (M : ZT) (hk : k < K.length) : (((((((((((tes K).set (k * 10) (.int .i64 (M.c.length : Int))).set (k * 10 + 1) (.int .u64 (FW M.c 0 : Int))).set (k * 10 + 2) (.int .u64 (FW M.c 1 : Int))).set (k * 10 + 3) (.int .u64 (FW M.c 2 : Int))).set (k * 10 + 4) (.int .u64 (FW M.c 3 : Int))).set (k * 10 + 5) (.int .u64 (OW M.c 0 : Int))).set (k * 10 + 6) (.int .u64 (OW M.c 1 : Int))).set (k * 10 + 7) (.int .u64 (OW M.c 2 : Int))).set (k * 10 + 8) (.int .u64 (OW M.c 3 : Int))).set (k * 10 + 9) (.slice M.q M.L.length M.k)) = tes (K.set k M) := by
  have hl := tes_len K
  apply List.ext_getElem?
  intro j
  obtain ⟨q, m, hm, rfl⟩ : ∃ q m, m < 10 ∧ j = q * 10 + m := ⟨j / 10, j % 10, by omega, by omega⟩
  rw [tes_get (K.set k M) q m hm]
  by_cases hq : q = k
  · subst hq
    rw [List.getElem?_set_self hk]
    have hc : m = 0 ∨ m = 1 ∨ m = 2 ∨ m = 3 ∨ m = 4 ∨ m = 5 ∨ m = 6 ∨ m = 7 ∨ m = 8 ∨ m = 9 := by omega
    rcases hc with rfl | rfl | rfl | rfl | rfl | rfl | rfl | rfl | rfl | rfl <;>
      (repeat rw [List.getElem?_set_ne (by omega)]) <;>
      (first | (rw [List.getElem?_set_self (by simp only [List.length_set]; omega)]; rfl) | (show (((tes K).set (q * 10) _))[q * 10]? = _; rw [List.getElem?_set_self (by omega)]; rfl))
  · rw [List.getElem?_set_ne (by omega), List.getElem?_set_ne (by omega), List.getElem?_set_ne (by omega), List.getElem?_set_ne (by omega), List.getElem?_set_ne (by omega), List.getElem?_set_ne (by omega), List.getElem?_set_ne (by omega), List.getElem?_set_ne (by omega), List.getElem?_set_ne (by omega), List.getElem?_set_ne (by omega), tes_get K q m hm, List.getElem?_set_ne (fun e => hq e.symm)]
def put10k (W : World) (g k : Nat) (M : ZT) : World := ((((((((((W.setCell ⟨g, k * 10, none⟩ (.int .i64 (M.c.length : Int))).setCell ⟨g, k * 10 + 1, none⟩ (.int .u64 (FW M.c 0 : Int))).setCell ⟨g, k * 10 + 2, none⟩ (.int .u64 (FW M.c 1 : Int))).setCell ⟨g, k * 10 + 3, none⟩ (.int .u64 (FW M.c 2 : Int))).setCell ⟨g, k * 10 + 4, none⟩ (.int .u64 (FW M.c 3 : Int))).setCell ⟨g, k * 10 + 5, none⟩ (.int .u64 (OW M.c 0 : Int))).setCell ⟨g, k * 10 + 6, none⟩ (.int .u64 (OW M.c 1 : Int))).setCell ⟨g, k * 10 + 7, none⟩ (.int .u64 (OW M.c 2 : Int))).setCell ⟨g, k * 10 + 8, none⟩ (.int .u64 (OW M.c 3 : Int))).setCell ⟨g, k * 10 + 9, none⟩ (.slice M.q M.L.length M.k))
theorem put10k_own {W : World} {B g n c k : Nat} {K : List ZT} (M : ZT) (h : W.ownsRow B 62 10 (.slice (some ⟨g, 0, none⟩) n c) n (tes K)) (hk : k < K.length) :
    (put10k W g k M).ownsRow B 62 10 (.slice (some ⟨g, 0, none⟩) n c) n (tes (K.set k M)) ∧ W.grownBy (put10k W g k M) (some g) := by
  have s0 := h.stored (k * 10) (.int .i64 (M.c.length : Int))
  have s1 := s0.1.stored (k * 10 + 1) (.int .u64 (FW M.c 0 : Int))
  have s2 := s1.1.stored (k * 10 + 2) (.int .u64 (FW M.c 1 : Int))
  have s3 := s2.1.stored (k * 10 + 3) (.int .u64 (FW M.c 2 : Int))
  have s4 := s3.1.stored (k * 10 + 4) (.int .u64 (FW M.c 3 : Int))
  have s5 := s4.1.stored (k * 10 + 5) (.int .u64 (OW M.c 0 : Int))
  have s6 := s5.1.stored (k * 10 + 6) (.int .u64 (OW M.c 1 : Int))
  have s7 := s6.1.stored (k * 10 + 7) (.int .u64 (OW M.c 2 : Int))
  have s8 := s7.1.stored (k * 10 + 8) (.int .u64 (OW M.c 3 : Int))
  have s9 := s8.1.stored (k * 10 + 9) (.slice M.q M.L.length M.k)
  rw [← tes_set K k M hk]
  exact ⟨s9.1, grown_trans s0.2 (grown_trans s1.2 (grown_trans s2.2 (grown_trans s3.2 (grown_trans s4.2 (grown_trans s5.2 (grown_trans s6.2 (grown_trans s7.2 (grown_trans s8.2 (s9.2)))))))))⟩
theorem clear10 (w : World) (ty : TypeId) (b o n c : Nat) (hn : 0 < n) (hc : ∀ j, j < n * 10 → (w.cell? ⟨b, o + j, none⟩).isSome = true) (hf : ∀ j, j < n * 10 → w.frozen? ⟨b, o + j, none⟩ = false) :
    ∃ Z : List Value, (Builtin.clear_ #[24] ty #[.slice (some ⟨b, o, none⟩) n c]).run Tryz.prog w = .ok (.tuple #[]) (w.setCells b o Z) := by
  obtain ⟨A, hA⟩ : ∃ A, Builtin.zeroCells (.agg #[.int .i64 0, .int .u64 0, .int .u64 0, .int .u64 0, .int .u64 0, .int .u64 0, .int .u64 0, .int .u64 0, .int .u64 0, .slice none 0 0] : Value).cells n = A := ⟨_, rfl⟩
  have hl : A.toList.length = n * 10 := by
    rw [← hA]
    simp [Builtin.zeroCells, Value.cells]
  have h1 : ∀ v ∈ A.toList, v.oneCell' = true := by
    intro v hv
    rw [← hA] at hv
    simp only [Builtin.zeroCells, Value.cells] at hv
    simp only [Array.toList_map, List.mem_map] at hv
    obtain ⟨i, -, rfl⟩ := hv
    have hi : i % 10 = 0 ∨ i % 10 = 1 ∨ i % 10 = 2 ∨ i % 10 = 3 ∨ i % 10 = 4 ∨ i % 10 = 5 ∨ i % 10 = 6 ∨ i % 10 = 7 ∨ i % 10 = 8 ∨ i % 10 = 9 := by omega
    rcases hi with e | e | e | e | e | e | e | e | e | e <;> simp [e, Value.oneCell']
  have hst := run_storeCells_cells (P := Tryz.prog) b o A.toList 0 w (by rw [hl]; simpa using hc) (by rw [hl]; simpa using hf) h1
  simp only [Nat.add_zero] at hst
  obtain ⟨m, rfl⟩ : ∃ m, n = m + 1 := ⟨n - 1, by omega⟩
  exact ⟨A.toList, by simp [Builtin.clear_, run_underlying Tryz.underlying24, hA, hst]⟩
theorem tes_take (L : List ZT) (i : Nat) : (tes L).take (i * 10) = tes (L.take i) := by
  induction L generalizing i with
  | nil => simp [tes]
  | cons t l ih =>
    have hc : tes (t :: l) = t.cells ++ tes l := rfl
    have hl : t.cells.length = 10 := rfl
    cases i with
    | zero => simp [tes]
    | succ i =>
      rw [hc, List.take_append, hl, List.take_of_length_le (by rw [hl]; omega), show (i + 1) * 10 - 10 = i * 10 by omega, ih]
      rfl
theorem del_yesT {α : Type} {q : α → Bool} {L K : List α} {i j : Nat} {t : α} (h1 : K.take i = (L.take j).filter q) (h2 : ((L.take j).filter q).length = i) (h3 : K.drop j = L.drop j) (h4 : K.length = L.length) (hij : i < j) (ht : L[j]? = some t) (hq : q t = true) : (K.set i t).take (i + 1) = (L.take (j + 1)).filter q ∧ ((L.take (j + 1)).filter q).length = i + 1 ∧ (K.set i t).drop (j + 1) = L.drop (j + 1) ∧ (K.set i t).length = L.length := by
  have hj : j < L.length := (List.getElem?_eq_some_iff.1 ht).1
  have e : (L.take (j + 1)).filter q = (L.take j).filter q ++ [t] := by
    rw [List.take_add_one, ht, List.filter_append]
    simp [hq]
  refine ⟨?_, by rw [e, List.length_append, h2]; rfl, ?_, by rw [List.length_set, h4]⟩
  · rw [e, List.take_add_one, List.take_set, List.set_eq_of_length_le (by rw [List.length_take]; omega), h1, List.getElem?_set_self (by omega)]
    rfl
  · rw [List.drop_set_of_lt (by omega), ← List.drop_drop, h3, List.drop_drop]
theorem del_noT {α : Type} {q : α → Bool} {L K : List α} {i j : Nat} {t : α} (h1 : K.take i = (L.take j).filter q) (h2 : ((L.take j).filter q).length = i) (h3 : K.drop j = L.drop j) (ht : L[j]? = some t) (hq : q t = false) : K.take i = (L.take (j + 1)).filter q ∧ ((L.take (j + 1)).filter q).length = i ∧ K.drop (j + 1) = L.drop (j + 1) := by
  have e : (L.take (j + 1)).filter q = (L.take j).filter q := by
    rw [List.take_add_one, ht, List.filter_append]
    simp [hq]
  rw [e]
  exact ⟨h1, h2, by rw [← List.drop_drop, h3, List.drop_drop]⟩
set_option maxRecDepth 100000 in
set_option maxHeartbeats 4000000 in
theorem delt_any (L : List ZT) (n c g B : Nat) (x : ZT) (bw bx : Nat) (w : World) (hn : L.length = n) (hc : n ≤ 281474976710656) (h : w.ownsRow B 62 10 (.slice (some ⟨g, 0, none⟩) n c) n (tes L)) (gL : ∀ t ∈ L, ZOK w t) (gx : ZOK w x) (hq : WZ w bw bx x) (h1 : bw ≠ g) (h2 : bx ≠ g) (q : ZT → Bool) (hqd : q = fun t => !cvB t x) :
    Calls Tryz.prog 84 #[.slice (some ⟨g, 0, none⟩) n c, .func (.func 85) #[] #[.pointer (some ⟨bw, 0, none⟩), .pointer (some ⟨bx, 0, none⟩)]] w fun e w' => ∃ m, e = .returned (.slice (some ⟨g, 0, none⟩) m c) ∧ (L.filter q).length = m ∧ w'.ownsRow B 62 10 (.slice (some ⟨g, 0, none⟩) m c) m (tes (L.filter q)) ∧ w.grownBy w' (some g) := by
  have hnc : n ≤ c := by
    rcases h.2 with ⟨h', _⟩ | ⟨g', cap', cur, h', _, _, h9, _⟩
    · cases h'
    · injection h' with _ _ a3
      omega
  have H1 := idxt2_any L n (some ⟨g, 0, none⟩) c bw bx (fun t => cvB t x) w hn (by omega) (IRZ_own h hn) (fun W hW t ht => greatt2_any x t bw bx W (gx.later (KC_below hW)) ((gL t ht).later (KC_below hW)) (hq.below hW))
  obtain ⟨i0, hi0⟩ : ∃ i, ixG (fun t => cvB t x) 0 L = i := ⟨_, rfl⟩
  have HIX := ixG_at (fun t => cvB t x) L 0
  rw [hi0] at H1 HIX
  have HN : Hid (L.length = n) := hn
  have HO : Hid (w.ownsRow B 62 10 (.slice (some ⟨g, 0, none⟩) n c) n (tes L)) := h
  have HG : Hid (∀ t ∈ L, ZOK w t) := gL
  have HQ : Hid (WZ w bw bx x ∧ bw ≠ g ∧ bx ≠ g) := ⟨hq, h1, h2⟩
  have HD : Hid (q = fun t => !cvB t x) := hqd
  have HX : Hid (ZOK w x) := gx
  have HKT : Hid (∃ cur, w.heap[g]? = some (.cells cur 62 (0, 0))) := by
    rcases h.2 with ⟨h', _⟩ | ⟨g', cap', cur, h', _, hg', _⟩
    · cases h'
    · injection h' with a1 _ _
      injection a1 with a1
      injection a1 with a1
      subst a1
      exact ⟨cur, hg'⟩
  have HI : Hid ((i0 = -1 ∧ ∀ t ∈ L, cvB t x = false) ∨ ∃ A t R, L = A ++ t :: R ∧ (∀ x_1 ∈ A, cvB x_1 x = false) ∧ cvB t x = true ∧ i0 = ((0 + A.length : Nat) : Int)) := HIX
  clear hn h gL hq h1 h2 hqd gx HIX hi0
  go_enter Tryz.func84, Tryz.ntmps84
  go_wp2_with fail
  refine H1.mono ?_
  rintro e W0 ⟨rfl, hb0⟩
  clear H1
  rcases HI.out with ⟨rfl, hno⟩ | ⟨A, t0, R, hLA, hA, ht0, rfl⟩
  · have HF : Hid (L.filter q = L) := by
      unfold Hid
      rw [HD.out]
      exact List.filter_eq_self.2 (fun t ht => by simp [hno t ht])
    clear hno HI
    go_wp2_with fail
    go_ret
    refine ⟨n, rfl, ?_, ?_, below_grown hb0 _⟩
    · rw [HF.out, HN.out]
    · rw [HF.out]
      exact (HO.out.kept (below_grown hb0 none) (.inr (by intro e; cases e)))
  · obtain ⟨i, hi⟩ : ∃ i, A.length = i := ⟨_, rfl⟩
    have HS : Hid (∃ K : List ZT, K.take i = (L.take (i + 1)).filter q ∧ ((L.take (i + 1)).filter q).length = i ∧ K.drop (i + 1) = L.drop (i + 1) ∧ K.length = L.length ∧ W0.ownsRow B 62 10 (.slice (some ⟨g, 0, none⟩) n c) n (tes K)) := by
      have e : (L.take (i + 1)).filter q = A := by
        rw [hLA, ← hi, List.take_append, List.take_of_length_le (by omega), Nat.add_sub_cancel_left, List.filter_append, HD.out]
        simp only [List.take_succ_cons, List.take_zero]
        rw [List.filter_eq_self.2 (fun t ht => by simp [hA t ht])]
        simp [ht0]
      refine ⟨L, ?_, by rw [e, hi], rfl, rfl, HO.out.kept (below_grown hb0 none) (.inr (by intro e; cases e))⟩
      rw [e, hLA, ← hi, List.take_left']
      rfl
    have hin : i + 1 ≤ n := by
      rw [← HN.out, hLA, List.length_append, List.length_cons, hi]
      omega
    rw [Nat.zero_add, hi]
    have k0 : ((i : Int) == -1) = false := beq_false_of_ne (by omega)
    clear hLA hA ht0 hi HI
    go_wp2_with fail
    go_loopw [5, 6] (fun v5 v6 wr => ∃ i j : Nat, v5 = .int .i64 (i : Int) ∧ v6 = .int .i64 (j : Int) ∧ i < j ∧ j ≤ n ∧ w.grownBy wr (some g) ∧ ∃ K : List ZT, K.take i = (L.take j).filter q ∧ ((L.take j).filter q).length = i ∧ K.drop j = L.drop j ∧ K.length = L.length ∧ wr.ownsRow B 62 10 (.slice (some ⟨g, 0, none⟩) n c) n (tes K)) (fun _ v6 _ => n - (intOf v6).toNat)
    case atStart => exact ⟨i, i + 1, rfl, by go_num, by omega, hin, below_grown hb0 _, HS.out⟩
    case round =>
      clear HS hb0
      obtain ⟨i, j, rfl, rfl, hij, hjn, hg, K, e1, e2, e3, e4, oK⟩ := hrel
      by_cases hlt : j < n
      · have j1 : (j : Int) < (n : Int) := by omega
        have j0 : (0 : Int) ≤ (j : Int) := by omega
        have i0 : (0 : Int) ≤ (i : Int) := by omega
        have i1 : (i : Int) < (n : Int) := by omega
        obtain ⟨t, ht⟩ : ∃ t, L[j]? = some t := ⟨_, List.getElem?_eq_getElem (by rw [HN.out]; exact hlt)⟩
        have hKt : K[j]? = some t := by
          have := congrArg (fun l => l[0]?) e3
          simpa [ht] using this
        have hjK : j < K.length := by rw [e4, HN.out]; exact hlt
        have ce : CZ wr g (j * 10) t := tz_at oK hKt
        have HST : Hid (K.take i = (L.take j).filter q ∧ ((L.take j).filter q).length = i ∧ K.drop j = L.drop j ∧ K.length = L.length ∧ L[j]? = some t) := ⟨e1, e2, e3, e4, ht⟩
        have HOK : Hid (wr.ownsRow B 62 10 (.slice (some ⟨g, 0, none⟩) n c) n (tes K)) := oK
        have HGR : Hid (w.grownBy wr (some g)) := hg
        have hwq : WZ wr bw bx x := ⟨(hg.block bw (lt_of_get3 HQ.out.1.1) (by intro e; injection e with e; exact HQ.out.2.1 e)).trans HQ.out.1.1, (hg.block bx (lt_of_get3 HQ.out.1.2) (by intro e; injection e with e; exact HQ.out.2.2 e)).trans HQ.out.1.2⟩
        have HW : Hid (WZ wr bw bx x) := hwq
        obtain ⟨p0, p1, p2, p3, p4, p5, p6, p7, p8, p9⟩ := ce
        clear e1 e2 e3 e4 oK hg ht hKt hwq
        have hkc : KC w wr := by
          obtain ⟨cur, hcur⟩ := HKT.out
          exact KC_grown HGR.out hcur (by decide)
        have hgd := (HG.out t (List.mem_of_getElem? HST.out.2.2.2.2)).later hkc
        have hxd := HX.out.later hkc
        have HCL : Hid (∀ W, Below wr.heap.size wr W → Calls Tryz.prog 85 #[.agg #[.int .i64 (t.c.length : Int), .int .u64 (FW t.c 0 : Int), .int .u64 (FW t.c 1 : Int), .int .u64 (FW t.c 2 : Int), .int .u64 (FW t.c 3 : Int), .int .u64 (OW t.c 0 : Int), .int .u64 (OW t.c 1 : Int), .int .u64 (OW t.c 2 : Int), .int .u64 (OW t.c 3 : Int), .slice t.q t.L.length t.k], .pointer (some ⟨bw, 0, none⟩), .pointer (some ⟨bx, 0, none⟩)] W fun e w' => e = .returned (.bool (cvB t x)) ∧ Below W.heap.size W w') := fun W hW => greatt2_any x t bw bx W (hxd.later (KC_below hW)) (hgd.later (KC_below hW)) (HW.out.below hW)
        have hal : Below wr.heap.size wr (wr.alloc (.cells #[.int .i64 (t.c.length : Int), .int .u64 (FW t.c 0 : Int), .int .u64 (FW t.c 1 : Int), .int .u64 (FW t.c 2 : Int), .int .u64 (FW t.c 3 : Int), .int .u64 (OW t.c 0 : Int), .int .u64 (OW t.c 1 : Int), .int .u64 (OW t.c 2 : Int), .int .u64 (OW t.c 3 : Int), .slice t.q t.L.length t.k] 62 (0, 0))) := belA (Below.refl _ _) _
        have hcb : CZ (wr.alloc (.cells #[.int .i64 (t.c.length : Int), .int .u64 (FW t.c 0 : Int), .int .u64 (FW t.c 1 : Int), .int .u64 (FW t.c 2 : Int), .int .u64 (FW t.c 3 : Int), .int .u64 (OW t.c 0 : Int), .int .u64 (OW t.c 1 : Int), .int .u64 (OW t.c 2 : Int), .int .u64 (OW t.c 3 : Int), .slice t.q t.L.length t.k] 62 (0, 0))) wr.heap.size 0 t := CZ_of (alloc_get _ _)
        go_wp2_with fail
        refine (HCL.out _ hal).mono ?_
        rintro e W1 ⟨rfl, hb1⟩
        have hB1 := bel0 hal hb1
        have oK1 : W1.ownsRow B 62 10 (.slice (some ⟨g, 0, none⟩) n c) n (tes K) := HOK.out.kept (below_grown hB1 none) (.inr (by intro e; cases e))
        have HG1 : Hid (w.grownBy W1 (some g)) := grown_trans HGR.out (below_grown hB1 _)
        cases hw : cvB t x with
        | true =>
          have HF : Hid (K.take i = (L.take (j + 1)).filter q ∧ ((L.take (j + 1)).filter q).length = i ∧ K.drop (j + 1) = L.drop (j + 1)) := del_noT HST.out.1 HST.out.2.1 HST.out.2.2.1 HST.out.2.2.2.2 (by rw [HD.out]; simp [hw])
          have HO1 : Hid (W1.ownsRow B 62 10 (.slice (some ⟨g, 0, none⟩) n c) n (tes K)) := oK1
          clear oK1 hw
          go_wp2_with fail
          go_roundw
          case rel => exact ⟨i, j + 1, rfl, by go_num, by omega, by omega, HG1.out, K, HF.out.1, HF.out.2.1, HF.out.2.2, HST.out.2.2.2.1, HO1.out⟩
          case measure => simp [intOf]; omega
        | false =>
          have hiK : i < K.length := by rw [HST.out.2.2.2.1, HN.out]; omega
          have HF : Hid ((K.set i t).take (i + 1) = (L.take (j + 1)).filter q ∧ ((L.take (j + 1)).filter q).length = i + 1 ∧ (K.set i t).drop (j + 1) = L.drop (j + 1) ∧ (K.set i t).length = L.length) := del_yesT HST.out.1 HST.out.2.1 HST.out.2.2.1 HST.out.2.2.2.1 hij HST.out.2.2.2.2 (by rw [HD.out]; simp [hw])
          have hp := put10k_own t oK1 hiK
          have HP : Hid ((put10k W1 g i t).ownsRow B 62 10 (.slice (some ⟨g, 0, none⟩) n c) n (tes (K.set i t)) ∧ w.grownBy (put10k W1 g i t) (some g)) := ⟨hp.1, grown_trans HG1.out hp.2⟩
          obtain ⟨c0, c1, c2, c3, c4, c5, c6, c7, c8, c9⟩ := tz_at oK1 (List.getElem?_eq_getElem hiK)
          have fz := oK1.frozenAt
          obtain ⟨d0, d1, d2, d3, d4, d5, d6, d7, d8, d9⟩ := hcb.below hb1
          clear oK1 hw hp
          go_wp2_with fail
          go_roundw
          case rel => exact ⟨i + 1, j + 1, by go_num, by go_num, by omega, by omega, HP.out.2, K.set i t, HF.out.1, HF.out.2.1, HF.out.2.2.1, HF.out.2.2.2, HP.out.1⟩
          case measure => simp [intOf]; omega
      · obtain rfl : j = n := by omega
        have j1 : ¬ (j : Int) < (j : Int) := by omega
        have i0 : (0 : Int) ≤ (i : Int) := by omega
        have i1 : (i : Int) ≤ (j : Int) := by omega
        have i2 : ¬ c = i := by omega
        have i3 : (j : Int) ≤ (c : Int) := by omega
        have i4 : (i : Int) ≤ (c : Int) := by omega
        obtain ⟨Z, hZ⟩ : ∃ Z : List Value, ∀ ty, (Builtin.clear_ #[24] ty #[.slice (some ⟨g, i * 10, none⟩) (j - i) (c - i)]).run Tryz.prog wr = .ok (.tuple #[]) (wr.setCells g (i * 10) Z) := by
          have hce : ∀ m, m < (j - i) * 10 → (wr.cell? ⟨g, i * 10 + m, none⟩).isSome = true := fun m hm => by
            rw [oK.cellAt (i * 10 + m) (by omega)]
            have hl := oK.1
            rw [List.getElem?_eq_getElem (by omega)]
            rfl
          obtain ⟨Z, hZ⟩ := clear10 wr 0 g (i * 10) (j - i) (c - i) (by omega) hce (fun m _ => oK.frozenAt _)
          exact ⟨Z, fun _ => hZ⟩
        obtain ⟨ys, oy, ey, gy⟩ := setCells_own Z (i * 10) oK
        have HE : Hid (((L.filter q).length = i) ∧ (wr.setCells g (i * 10) Z).ownsRow B 62 10 (.slice (some ⟨g, 0, none⟩) i c) i (tes (L.filter q)) ∧ w.grownBy (wr.setCells g (i * 10) Z) (some g)) := by
          have eL : L.take j = L := List.take_of_length_le (by rw [HN.out]; exact Nat.le_refl _)
          rw [eL] at e1 e2
          refine ⟨e2, ?_, grown_trans hg gy⟩
          have := own_cut (i := i) (by omega) oy
          rw [ey, tes_take, e1] at this
          exact this
        clear oK oy ey gy e1 e2 e3 e4 hg
        go_wp2_with fail
        go_ret
        exact ⟨i, rfl, HE.out.1, HE.out.2.1, HE.out.2.2⟩
end Go.Proofs.YtekjbpemaohipaaGreatDoor
namespace Go.Proofs.YtekjbpemaohipaaGreatDoor
open Go.RowKit
theorem delt_all (L : List ZT) (n : Nat) (v : Value) (B : Nat) (x : ZT) (bw bx : Nat) (w : World) (hn : L.length = n) (hN : n ≤ 281474976710656) (h : w.ownsRow B 62 10 v n (tes L)) (gL : ∀ t ∈ L, ZOK w t) (gx : ZOK w x) (hq : WZ w bw bx x) (hne : v.ownBlock ≠ some bx) (q : ZT → Bool) (hqd : q = fun t => !cvB t x) :
    Calls Tryz.prog 84 #[v, .func (.func 85) #[] #[.pointer (some ⟨bw, 0, none⟩), .pointer (some ⟨bx, 0, none⟩)]] w fun e w' => ∃ v', e = .returned v' ∧ w'.ownsRow B 62 10 v' (L.filter q).length (tes (L.filter q)) ∧ w.grownBy w' v.ownBlock := by
  rcases own_shapeQ h with ⟨rfl, rfl⟩ | ⟨g, c, rfl, -, -, cur, hg⟩
  · obtain rfl := List.length_eq_zero_iff.1 hn
    refine (delt_nil bw bx w).mono ?_
    rintro e w' ⟨rfl, hb⟩
    exact ⟨_, rfl, World.ownsRow_nil _ _ _ _, below_grown hb _⟩
  · have h1 : bw ≠ g := fun e => by
      subst e
      rw [hq.1] at hg
      injection hg with hg
      injection hg with _ hg _
      revert hg
      decide
    refine (delt_any L n c g B x bw bx w hn hN h gL gx hq h1 (fun e => hne (by rw [e]; rfl)) q hqd).mono ?_
    rintro e w' ⟨m, rfl, rfl, ho, hgr⟩
    exact ⟨_, rfl, ho, hgr⟩
/-- the greatest of a list, one by one -/
def topZS (T : List ZT) (x : ZT) : List ZT := if T.any (fun y => cvB x y) = true then T else T.filter (fun y => !cvB y x) ++ [x]
def topZL (L : List ZT) : List ZT := L.foldl topZS []
theorem topZL_step {L : List ZT} {k : Nat} {x : ZT} (h : L[k]? = some x) : topZL (L.take (k + 1)) = topZS (topZL (L.take k)) x := by
  unfold topZL
  rw [List.take_add_one, h, List.foldl_append]
  rfl
theorem topZS_mem {T : List ZT} {x t : ZT} (h : t ∈ topZS T x) : t ∈ T ∨ t = x := by
  unfold topZS at h
  split at h
  · exact .inl h
  · rcases List.mem_append.1 h with h | h
    · exact .inl (List.mem_filter.1 h).1
    · exact .inr (List.mem_singleton.1 h)
theorem topZF_mem (L : List ZT) : ∀ (T : List ZT) (t : ZT), t ∈ L.foldl topZS T → t ∈ T ∨ t ∈ L := by
  induction L with
  | nil => exact fun T t h => .inl h
  | cons x L ih =>
    intro T t h
    rcases ih _ t h with h | h
    · rcases topZS_mem h with h | rfl
      · exact .inl h
      · exact .inr (by simp)
    · exact .inr (by simp [h])
theorem topZL_mem {L : List ZT} {t : ZT} (h : t ∈ topZL L) : t ∈ L := by
  rcases topZF_mem L [] t h with h | h
  · cases h
  · exact h
theorem topZS_len (T : List ZT) (x : ZT) : (topZS T x).length ≤ T.length + 1 := by
  unfold topZS
  split
  · omega
  · rw [List.length_append]
    have := List.length_filter_le (fun y => !cvB y x) T
    simp
    omega
theorem topZF_len (L : List ZT) : ∀ T : List ZT, (L.foldl topZS T).length ≤ T.length + L.length := by
  induction L with
  | nil => intro T; simp
  | cons x L ih =>
    intro T
    have h1 := ih (topZS T x)
    have h2 := topZS_len T x
    rw [List.foldl_cons, List.length_cons]
    omega
theorem topZL_len (L : List ZT) : (topZL L).length ≤ L.length := by
  have := topZF_len L []
  simpa [topZL] using this
set_option maxRecDepth 100000 in
set_option maxHeartbeats 4000000 in
theorem greatZ_any (L : List ZT) (n : Nat) (o : Option Addr) (c : Nat) (w : World) (hn : L.length = n) (hN : n ≤ 1000000) (hr : IRZ w o L) (gL : ∀ t ∈ L, ZOK w t) :
    Calls Tryz.prog 63 #[.slice o n c, .func (.func 64) #[] #[]] w fun e w' => ∃ v, e = .returned v ∧ w'.ownsRow w.heap.size 62 10 v (topZL L).length (tes (topZL L)) ∧ Below w.heap.size w w' := by
  obtain ⟨i0, hi, hz0, hz1, hz2⟩ := info_parts info_term
  have HR : Hid (IRZ w o L) := hr
  have HG : Hid (∀ t ∈ L, ZOK w t) := gL
  have HN : Hid (L.length = n) := hn
  clear hr gL hn
  go_enter Tryz.func63, Tryz.ntmps63
  go_wp2_with fail
  go_loopw [5, 10] (fun v5 v10 wr => ∃ k : Nat, v10 = .int .i64 (k : Int) ∧ k ≤ n ∧ wr.ownsRow w.heap.size 62 10 v5 (topZL (L.take k)).length (tes (topZL (L.take k))) ∧ Below w.heap.size w wr ∧ wr.heap[w.heap.size]? = some (.cells #[.func (.func 64) #[] #[]] 111 (0, 0))) (fun _ v10 _ => n - (intOf v10).toNat)
  case atStart => exact ⟨0, rfl, Nat.zero_le _, World.ownsRow_nil _ _ _ _, belA (Below.refl _ _) _, alloc_get _ _⟩
  case round =>
    obtain ⟨k, rfl, hk, oT, hB, hw⟩ := hrel
    by_cases hlt : k < n
    · have j1 : (k : Int) < (n : Int) := by omega
      have j0 : (0 : Int) ≤ (k : Int) := by omega
      obtain ⟨x, hx⟩ : ∃ x, L[k]? = some x := ⟨_, List.getElem?_eq_getElem (by rw [HN.out]; exact hlt)⟩
      obtain ⟨g, o0, rfl, p0, p1, p2, p3, p4, p5, p6, p7, p8, p9⟩ := HR.out wr hB k x hx
      have gx := HG.out x (List.mem_of_getElem? hx)
      have HS := topZL_step hx
      have hTl := topZL_len (L.take k)
      have gT : ∀ t ∈ topZL (L.take k), ZOK w t := fun t ht => HG.out t (List.mem_of_mem_take (topZL_mem ht))
      have hTk : (L.take k).length ≤ 1000000 := by rw [List.length_take]; omega
      obtain ⟨Tk, hTe⟩ : ∃ T, topZL (L.take k) = T := ⟨_, rfl⟩
      rw [hTe] at oT HS hTl gT
      have HTS : Hid (topZL (L.take (k + 1)) = topZS Tk x ∧ Tk.length ≤ 1000000 ∧ (∀ t ∈ Tk, ZOK w t) ∧ ZOK w x) := ⟨HS, by omega, gT, gx⟩
      clear hx HS hTl gT hTk hTe gx
      obtain ⟨w1, hw1⟩ : ∃ w1, wr.alloc (.cells #[.int .i64 (x.c.length : Int), .int .u64 (FW x.c 0 : Int), .int .u64 (FW x.c 1 : Int), .int .u64 (FW x.c 2 : Int), .int .u64 (FW x.c 3 : Int), .int .u64 (OW x.c 0 : Int), .int .u64 (OW x.c 1 : Int), .int .u64 (OW x.c 2 : Int), .int .u64 (OW x.c 3 : Int), .slice x.q x.L.length x.k] 62 (0, 0)) = w1 := ⟨_, rfl⟩
      have hal : Below wr.heap.size wr w1 := by rw [← hw1]; exact belA (Below.refl _ _) _
      have hq1 : WZ w1 w.heap.size wr.heap.size x := ⟨keepblk3 hal hw, by rw [← hw1]; exact alloc_get _ _⟩
      have oT1 : w1.ownsRow w.heap.size 62 10 u5 Tk.length (tes Tk) := own_belQ oT hal
      have hsh : ∃ p c2, u5 = .slice p Tk.length c2 := by
        rcases own_shapeQ oT with ⟨e, h0⟩ | ⟨g, c, e, _⟩
        · exact ⟨none, 0, by rw [h0]; exact e⟩
        · exact ⟨_, _, e⟩
      obtain ⟨p2', c2, hu⟩ := hsh
      have HC : Hid (Calls Tryz.prog 82 #[u5, .func (.func 83) #[] #[.pointer (some ⟨w.heap.size, 0, none⟩), .pointer (some ⟨wr.heap.size, 0, none⟩)]] w1 fun e w' => e = .returned (.bool (Tk.any (fun y => cvB x y))) ∧ Below w1.heap.size w1 w') := by
        rw [hu]
        rw [hu] at oT1
        exact contt_any Tk Tk.length p2' c2 w.heap.size wr.heap.size (fun y => cvB x y) w1 rfl (by have := HTS.out.2.1; omega) (IRZ_own oT1 rfl) (fun W hW t ht => greatt1_any x t _ _ W (HTS.out.2.2.2.later (KC_below (bel0 (bel0 hB hal) hW))) ((HTS.out.2.2.1 t ht).later (KC_below (bel0 (bel0 hB hal) hW))) (hq1.below hW))
      have hob : u5.ownBlock ≠ some wr.heap.size := fun e => by
        have := (oT.lt _ e).2
        omega
      have HO1 : Hid (w1.ownsRow w.heap.size 62 10 u5 Tk.length (tes Tk) ∧ WZ w1 w.heap.size wr.heap.size x ∧ u5.ownBlock ≠ some wr.heap.size ∧ Below w.heap.size w w1) := ⟨oT1, hq1, hob, bel0 hB hal⟩
      clear oT oT1 hq1 hob hu hw
      go_wp2_with fail
      refine HC.out.mono ?_
      rintro e W2 ⟨rfl, hb2⟩
      clear HC p0 p1 p2 p3 p4 p5 p6 p7 p8 p9
      have hB2 := bel0 HO1.out.2.2.2 hb2
      have hq2 := HO1.out.2.1.below hb2
      have oT2 := own_belQ HO1.out.1 hb2
      cases ha : Tk.any (fun y => cvB x y) with
      | true =>
        have HF : Hid (topZL (L.take (k + 1)) = Tk ∧ W2.ownsRow w.heap.size 62 10 u5 Tk.length (tes Tk) ∧ W2.heap[w.heap.size]? = some (.cells #[.func (.func 64) #[] #[]] 111 (0, 0))) := ⟨by rw [HTS.out.1]; unfold topZS; rw [if_pos ha], oT2, hq2.1⟩
        clear ha oT2 hq2
        go_wp2_with fail
        go_roundw
        case rel => exact ⟨k + 1, by go_num, by omega, by rw [HF.out.1]; exact HF.out.2.1, hB2, HF.out.2.2⟩
        case measure => simp [intOf]; omega
      | false =>
        have HF : Hid (topZL (L.take (k + 1)) = Tk.filter (fun y => !cvB y x) ++ [x]) := by
          unfold Hid
          rw [HTS.out.1]
          unfold topZS
          rw [ha, if_neg (by simp)]
        have HD : Hid (Calls Tryz.prog 84 #[u5, .func (.func 85) #[] #[.pointer (some ⟨w.heap.size, 0, none⟩), .pointer (some ⟨wr.heap.size, 0, none⟩)]] W2 fun e w' => ∃ v', e = .returned v' ∧ w'.ownsRow w.heap.size 62 10 v' (Tk.filter (fun y => !cvB y x)).length (tes (Tk.filter (fun y => !cvB y x))) ∧ W2.grownBy w' u5.ownBlock) := delt_all Tk Tk.length u5 w.heap.size x w.heap.size wr.heap.size W2 rfl (by have := HTS.out.2.1; omega) oT2 (fun t ht => (HTS.out.2.2.1 t ht).later (KC_below hB2)) (HTS.out.2.2.2.later (KC_below hB2)) hq2 HO1.out.2.2.1 _ rfl
        have HQ2 : Hid (WZ W2 w.heap.size wr.heap.size x ∧ W2.ownsRow w.heap.size 62 10 u5 Tk.length (tes Tk)) := ⟨hq2, oT2⟩
        clear ha hq2 oT2
        go_wp2_with fail
        refine HD.out.mono ?_
        rintro e W3 ⟨v3, rfl, o3, g3⟩
        have hfl := List.length_filter_le (fun y => !cvB y x) Tk
        have hT6 := HTS.out.2.1
        have hb3 : W3.heap[wr.heap.size]? = some (.cells #[.int .i64 (x.c.length : Int), .int .u64 (FW x.c 0 : Int), .int .u64 (FW x.c 1 : Int), .int .u64 (FW x.c 2 : Int), .int .u64 (FW x.c 3 : Int), .int .u64 (OW x.c 0 : Int), .int .u64 (OW x.c 1 : Int), .int .u64 (OW x.c 2 : Int), .int .u64 (OW x.c 3 : Int), .slice x.q x.L.length x.k] 62 (0, 0)) := (g3.block _ (lt_of_get3 HQ2.out.1.2) (fun e => HO1.out.2.2.1 e.symm)).trans HQ2.out.1.2
        have hw3 : W3.heap[w.heap.size]? = some (.cells #[.func (.func 64) #[] #[]] 111 (0, 0)) := by
          refine (g3.block _ (lt_of_get3 HQ2.out.1.1) (fun e => ?_)).trans HQ2.out.1.1
          rcases own_shapeQ HQ2.out.2 with ⟨h, -⟩ | ⟨g9, c9, h, -, -, cur, hg9⟩
          · rw [h] at e
            cases e
          · rw [h] at e
            have e2 : w.heap.size = g9 := by injection e
            rw [← e2, HQ2.out.1.1] at hg9
            injection hg9 with hg9
            injection hg9 with _ hg9 _
            revert hg9
            decide
        have hB3 : Below w.heap.size w W3 := hB2.grown g3 hB2.size (fun b e => (HQ2.out.2.lt b e).1)
        have hs3 := hB3.size
        have HW3 : Hid (W3.heap[w.heap.size]? = some (.cells #[.func (.func 64) #[] #[]] 111 (0, 0))) := hw3
        obtain ⟨d0, d1, d2, d3, d4, d5, d6, d7, d8, d9⟩ := CZ_of hb3
        obtain ⟨Fk, hFk⟩ : ∃ F, Tk.filter (fun y => !cvB y x) = F := ⟨_, rfl⟩
        rw [hFk] at o3 hfl
        have HFE : Hid (topZL (L.take (k + 1)) = Fk ++ [x]) := by
          unfold Hid
          rw [HF.out, hFk]
        clear hw3 hb3 HD HF hFk
        go_wp2_with (at_builtin; refine wpList_append_own _ rfl _ _ 24 rfl w.heap.size 62 i0 _ 10 96 Tryz.underlying24 hi hz0 hz1 hz2 rfl (by decide) _ _ _ rfl (o3.alloc _) ⟨_, 0, none⟩ 1 1 x.cells rfl rfl (World.news_of_block (cs := #[.int .i64 (x.c.length : Int), .int .u64 (FW x.c 0 : Int), .int .u64 (FW x.c 1 : Int), .int .u64 (FW x.c 2 : Int), .int .u64 (FW x.c 3 : Int), .int .u64 (OW x.c 0 : Int), .int .u64 (OW x.c 1 : Int), .int .u64 (OW x.c 2 : Int), .int .u64 (OW x.c 3 : Int), .slice x.q x.L.length x.k]) (t := 62) (fr := (0, 0)) (alloc_get _ _)) (by simp [ZT.cells, Value.oneCell']) (by unfold maxLen; omega) (by omega) (by simp; omega) ?_; intro v4 w4 o4 g4 _)
        have hB4 : Below w.heap.size w w4 := (belA hB3 _).grown g4 (by simp; omega) (fun b e => (o3.lt b e).1)
        have hw4 : w4.heap[w.heap.size]? = some (.cells #[.func (.func 64) #[] #[]] 111 (0, 0)) := by
          refine (g4.block _ (by simp; have := lt_of_get3 HW3.out; omega) (fun e => ?_)).trans (allocblk3 HW3.out _)
          rcases own_shapeQ o3 with ⟨h, -⟩ | ⟨g9, c9, h, -, -, cur, hg9⟩
          · rw [h] at e
            cases e
          · rw [h] at e
            have e2 : w.heap.size = g9 := by injection e
            rw [← e2, HW3.out] at hg9
            injection hg9 with hg9
            injection hg9 with _ hg9 _
            revert hg9
            decide
        have HO4 : Hid (w4.ownsRow w.heap.size 62 10 v4 (topZL (L.take (k + 1))).length (tes (topZL (L.take (k + 1)))) ∧ w4.heap[w.heap.size]? = some (.cells #[.func (.func 64) #[] #[]] 111 (0, 0))) := by
          refine ⟨?_, hw4⟩
          rw [HFE.out, List.length_append, tes_snoc]
          exact o4
        clear o3 o4 g4 hw4
        go_wp2_with fail
        go_roundw
        case rel => exact ⟨k + 1, by go_num, by omega, HO4.out.1, hB4, HO4.out.2⟩
        case measure => simp [intOf]; omega
    · have j1 : ¬ (k : Int) < (n : Int) := by omega
      obtain rfl : k = n := by omega
      have HE : Hid (wr.ownsRow w.heap.size 62 10 u5 (topZL L).length (tes (topZL L))) := by
        rw [List.take_of_length_le (by rw [HN.out]; exact Nat.le_refl _)] at oT
        exact oT
      clear oT hw
      go_wp2_with fail
      go_ret
      exact ⟨_, rfl, HE.out, hB⟩
end Go.Proofs.YtekjbpemaohipaaGreatDoor
namespace Go.Proofs.YtekjbpemaohipaaGreatDoor
open Go.RowKit
def ZT.t (z : ZT) : TRM := ⟨z.c, z.q, z.L.length, z.k⟩
theorem IRZ.irt {w : World} {p : Option Addr} {Z : List ZT} (h : IRZ w p Z) : IRT w p (Z.map ZT.t) := fun W hW k t ht => by
  rw [List.getElem?_map] at ht
  obtain ⟨z, hz, rfl⟩ := Option.map_eq_some_iff.1 ht
  obtain ⟨g, o0, e, h0, h1, h2, h3, h4, h5, h6, h7, h8, h9⟩ := h W hW k z hz
  exact ⟨g, o0, e, ⟨h0, h1, h2, h3, h4, h5, h6, h7, h8⟩, h9⟩
/-- how many cubes the terms have -/
def szZ (Z : List ZT) : Nat := szT (Z.map ZT.t)
set_option maxRecDepth 100000 in
theorem topmost_any (Z : List ZT) (n : Nat) (p : Option Addr) (c : Nat) (w : World) (hn : Z.length = n) (hN : n ≤ 1000000) (hr : IRZ w p Z) (gZ : ∀ z ∈ Z, ZOK w z) (hz : szZ (topZL Z) ≤ 281474976710656) :
    Calls Tryz.prog 43 #[.slice p n c] w fun e w' => Below w.heap.size w w' ∧ ((szZ (topZL Z) ≤ 128 ∧ ∃ v, e = .returned v ∧ w'.ownsRow w.heap.size 62 10 v (topZL Z).length (tes (topZL Z))) ∨ (128 < szZ (topZL Z) ∧ e = .panicked [{ v := .iface 94 (.agg #[]), recovered := false }])) := by
  have H1 := greatZ_any Z n p c w hn hN hr gZ
  have hl := topZL_len Z
  obtain ⟨T, hT⟩ : ∃ T, topZL Z = T := ⟨_, rfl⟩
  rw [hT] at H1 hz hl ⊢
  have HM : Hid (szZ T ≤ 281474976710656 ∧ T.length ≤ 1000000) := ⟨hz, by omega⟩
  clear hr gZ hz hl hT
  go_enter Tryz.func43, Tryz.ntmps43
  go_wp2_with fail
  refine H1.mono ?_
  rintro e W1 ⟨v, rfl, ho, hb1⟩
  clear H1
  obtain ⟨p1, c1, rfl⟩ := shapeQ1 ho
  have H2 := size_any (T.map ZT.t) T.length p1 c1 W1 (by rw [List.length_map]) (by have := HM.out.2; omega) HM.out.1 (IRZ_own ho rfl).irt
  have H2' : Calls Tryz.prog 21 #[.slice p1 T.length c1] W1 fun e w' => e = .returned (.int .i64 (szZ T : Int)) ∧ Below W1.heap.size W1 w' := H2
  have HO : Hid (W1.ownsRow w.heap.size 62 10 (.slice p1 T.length c1) T.length (tes T)) := ho
  clear ho H2
  go_wp2_with fail
  refine H2'.mono ?_
  rintro e W2 ⟨rfl, hb2⟩
  clear H2'
  go_wp2_with fail
  by_cases hle : szZ T ≤ 128
  · refine (spend_ok (szZ T : Int) 128 W2 (by omega)).mono ?_
    rintro e W3 ⟨rfl, rfl⟩
    go_wp2_with fail
    go_ret
    exact ⟨bel0 hb1 hb2, .inl ⟨hle, _, rfl, own_belQ HO.out hb2⟩⟩
  · refine (spend_over (szZ T : Int) 128 W2 (by omega)).mono ?_
    rintro e W3 ⟨rfl, rfl⟩
    have HB : Hid (Below w.heap.size w W3) := bel0 hb1 hb2
    go_wp2_with fail
    exact ⟨rfl, HB.out, .inr ⟨by omega, rfl⟩⟩
end Go.Proofs.YtekjbpemaohipaaGreatDoor
