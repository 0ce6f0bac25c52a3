import Derived.Test.YtecgjlpmmailjaaGreatDoorXAE
import Derived.Laws.OwnMore
import Derived.Laws.IdiomCopy
import Derived.Deep.AppendLies
import Derived.OwnWalk
import Derived.Deep.DeepCutAuto
namespace Go.Proofs.YtecgjlpmmailjaaGreatDoor
open Go.RowKit
theorem grown_trans {a b c : World} {row : Option Nat} (h1 : a.grownBy b row) (h2 : b.grownBy c row) : a.grownBy c row :=
  ⟨h2.os.trans h1.os, h2.tape.trans h1.tape, h2.output.trans h1.output, Nat.le_trans h1.size h2.size, fun k hk hne => (h2.block k (Nat.lt_of_lt_of_le hk h1.size) hne).trans (h1.block k hk hne)⟩
theorem grown_new {a b c : World} {row r2 : Option Nat} (h1 : a.grownBy b row) (h2 : b.grownBy c r2) (hr : ∀ k, r2 = some k → a.heap.size ≤ k) : a.grownBy c row :=
  ⟨h2.os.trans h1.os, h2.tape.trans h1.tape, h2.output.trans h1.output, Nat.le_trans h1.size h2.size, fun k hk hne => (h2.block k (Nat.lt_of_lt_of_le hk h1.size) (fun e => by have := hr k e.symm; omega)).trans (h1.block k hk hne)⟩
theorem cesO_len (L : List (List UInt8)) : (ces L).length = L.length * 9 := by
  induction L with
  | nil => rfl
  | cons x l ih => simp only [ces, List.flatMap_cons, List.length_append, List.length_cons] at ih ⊢; rw [ih]; simp [ce9]; omega
theorem ces_set (K : List (List UInt8)) (k : Nat) (M : List UInt8) (hk : k < K.length) :
    (((((((((ces K).set (k * 9) (.int .i64 (M.length : Int))).set (k * 9 + 1) (.int .u64 (FW M 0 : Int))).set (k * 9 + 2) (.int .u64 (FW M 1 : Int))).set (k * 9 + 3) (.int .u64 (FW M 2 : Int))).set (k * 9 + 4) (.int .u64 (FW M 3 : Int))).set (k * 9 + 5) (.int .u64 (OW M 0 : Int))).set (k * 9 + 6) (.int .u64 (OW M 1 : Int))).set (k * 9 + 7) (.int .u64 (OW M 2 : Int))).set (k * 9 + 8) (.int .u64 (OW M 3 : Int)) = ces (K.set k M) := by
  have hl := cesO_len K
  apply List.ext_getElem?
  intro j
  obtain ⟨q, m, hm, rfl⟩ : ∃ q m, m < 9 ∧ j = q * 9 + m := ⟨j / 9, j % 9, by omega, by omega⟩
  rw [ces_get (K.set k M) q m hm]
  by_cases hq : q = k
  · subst hq
    rw [List.getElem?_set_self hk]
    have hc : m = 0 ∨ m = 1 ∨ m = 2 ∨ m = 3 ∨ m = 4 ∨ m = 5 ∨ m = 6 ∨ m = 7 ∨ m = 8 := by omega
    rcases hc with rfl | rfl | rfl | rfl | rfl | rfl | rfl | rfl | rfl <;>
      (repeat rw [List.getElem?_set_ne (by omega)]) <;>
      (first | (rw [List.getElem?_set_self (by simp only [List.length_set]; omega)]; rfl) | (show (((ces K).set (q * 9) _))[q * 9]? = _; rw [List.getElem?_set_self (by omega)]; rfl))
  · rw [List.getElem?_set_ne (by omega), List.getElem?_set_ne (by omega), List.getElem?_set_ne (by omega), List.getElem?_set_ne (by omega), List.getElem?_set_ne (by omega), List.getElem?_set_ne (by omega), List.getElem?_set_ne (by omega), List.getElem?_set_ne (by omega), List.getElem?_set_ne (by omega), ces_get K q m hm, List.getElem?_set_ne (fun e => hq e.symm)]
def put9k (W : World) (g k : Nat) (M : List UInt8) : World :=
  ((((((((W.setCell ⟨g, k * 9, none⟩ (.int .i64 (M.length : Int))).setCell ⟨g, k * 9 + 1, none⟩ (.int .u64 (FW M 0 : Int))).setCell ⟨g, k * 9 + 2, none⟩ (.int .u64 (FW M 1 : Int))).setCell ⟨g, k * 9 + 3, none⟩ (.int .u64 (FW M 2 : Int))).setCell ⟨g, k * 9 + 4, none⟩ (.int .u64 (FW M 3 : Int))).setCell ⟨g, k * 9 + 5, none⟩ (.int .u64 (OW M 0 : Int))).setCell ⟨g, k * 9 + 6, none⟩ (.int .u64 (OW M 1 : Int))).setCell ⟨g, k * 9 + 7, none⟩ (.int .u64 (OW M 2 : Int))).setCell ⟨g, k * 9 + 8, none⟩ (.int .u64 (OW M 3 : Int))
theorem put9k_own {W : World} {B g n c k : Nat} {K : List (List UInt8)} (M : List UInt8) (h : W.ownsRow B 58 9 (.slice (some ⟨g, 0, none⟩) n c) n (ces K)) (hk : k < K.length) :
    (put9k W g k M).ownsRow B 58 9 (.slice (some ⟨g, 0, none⟩) n c) n (ces (K.set k M)) ∧ W.grownBy (put9k W g k M) (some g) := by
  have s0 := h.stored (k * 9) (.int .i64 (M.length : Int))
  have s1 := s0.1.stored (k * 9 + 1) (.int .u64 (FW M 0 : Int))
  have s2 := s1.1.stored (k * 9 + 2) (.int .u64 (FW M 1 : Int))
  have s3 := s2.1.stored (k * 9 + 3) (.int .u64 (FW M 2 : Int))
  have s4 := s3.1.stored (k * 9 + 4) (.int .u64 (FW M 3 : Int))
  have s5 := s4.1.stored (k * 9 + 5) (.int .u64 (OW M 0 : Int))
  have s6 := s5.1.stored (k * 9 + 6) (.int .u64 (OW M 1 : Int))
  have s7 := s6.1.stored (k * 9 + 7) (.int .u64 (OW M 2 : Int))
  have s8 := s7.1.stored (k * 9 + 8) (.int .u64 (OW M 3 : Int))
  rw [← ces_set K k M hk]
  exact ⟨s8.1, grown_trans s0.2 (grown_trans s1.2 (grown_trans s2.2 (grown_trans s3.2 (grown_trans s4.2 (grown_trans s5.2 (grown_trans s6.2 (grown_trans s7.2 s8.2)))))))⟩
theorem below_grown {W X : World} (h : Below W.heap.size W X) (row : Option Nat) : W.grownBy X row := ⟨h.os, h.tape, h.output, h.size, fun k hk _ => h.block k hk⟩
theorem setCells_own : ∀ (Z : List Value) (o : Nat) {W : World} {B sz g n c : Nat} {e : TypeId} {xs : List Value}, W.ownsRow B e sz (.slice (some ⟨g, 0, none⟩) n c) n xs → ∃ ys, (W.setCells g o Z).ownsRow B e sz (.slice (some ⟨g, 0, none⟩) n c) n ys ∧ ys.take o = xs.take o ∧ W.grownBy (W.setCells g o Z) (some g)
  | [], o, W, B, sz, g, n, c, e, xs, h => ⟨xs, h, rfl, World.grownBy.refl _ _⟩
  | v :: r, o, W, B, sz, g, n, c, e, xs, h => by
    have s1 := h.stored o v
    obtain ⟨ys, a, b, d⟩ := setCells_own r (o + 1) s1.1
    refine ⟨ys, a, ?_, grown_trans s1.2 d⟩
    have e1 := congrArg (List.take o) b
    rw [List.take_take, List.take_take, Nat.min_eq_left (by omega), List.take_set, List.set_eq_of_length_le (by rw [List.length_take]; omega)] at e1
    exact e1
theorem own_cut {W : World} {B sz g n c i : Nat} {e : TypeId} {xs : List Value} (hi : i ≤ n) (h : W.ownsRow B e sz (.slice (some ⟨g, 0, none⟩) n c) n xs) : W.ownsRow B e sz (.slice (some ⟨g, 0, none⟩) i c) i (xs.take (i * sz)) := by
  have hm : i * sz ≤ n * sz := Nat.mul_le_mul_right _ hi
  rcases h.2 with ⟨h', _⟩ | ⟨g', cap', cur, h', hb, hg, hnc, hcm, hcs, htake⟩
  · cases h'
  · injection h' with a1 _ a3
    injection a1 with a1
    injection a1 with a1
    subst a1 a3
    refine ⟨by rw [List.length_take, h.1, Nat.min_eq_left hm], .inr ⟨g, c, cur, rfl, hb, hg, by omega, hcm, hcs, ?_⟩⟩
    rw [← htake, List.take_take, Nat.min_eq_left hm]
/-- clear of a row of cubes -/
theorem clear9 (w : World) (ty : TypeId) (b o n c : Nat) (hn : 0 < n) (hc : ∀ j, j < n * 9 → (w.cell? ⟨b, o + j, none⟩).isSome = true) (hf : ∀ j, j < n * 9 → w.frozen? ⟨b, o + j, none⟩ = false) :
    ∃ Z : List Value, (Builtin.clear_ #[32] ty #[.slice (some ⟨b, o, none⟩) n c]).run Tryz.prog w = .ok (.tuple #[]) (w.setCells b o Z) := by
  obtain ⟨A, hA⟩ : ∃ A, Builtin.zeroCells (.agg #[.int .i64 0, .int .u64 0, .int .u64 0, .int .u64 0, .int .u64 0, .int .u64 0, .int .u64 0, .int .u64 0, .int .u64 0] : Value).cells n = A := ⟨_, rfl⟩
  have hl : A.toList.length = n * 9 := by
    rw [← hA]
    simp [Builtin.zeroCells, Value.cells]
  have h1 : ∀ v ∈ A.toList, v.oneCell' = true := by
    intro v hv
    rw [← hA] at hv
    simp only [Builtin.zeroCells, Value.cells] at hv
    simp only [Array.toList_map, List.mem_map] at hv
    obtain ⟨i, -, rfl⟩ := hv
    have hi : i % 9 = 0 ∨ i % 9 = 1 ∨ i % 9 = 2 ∨ i % 9 = 3 ∨ i % 9 = 4 ∨ i % 9 = 5 ∨ i % 9 = 6 ∨ i % 9 = 7 ∨ i % 9 = 8 := by omega
    rcases hi with e | e | e | e | e | e | e | e | e <;> simp [e, Value.oneCell']
  have hst := run_storeCells_cells (P := Tryz.prog) b o A.toList 0 w (by rw [hl]; simpa using hc) (by rw [hl]; simpa using hf) h1
  simp only [Nat.add_zero] at hst
  obtain ⟨m, rfl⟩ : ∃ m, n = m + 1 := ⟨n - 1, by omega⟩
  exact ⟨A.toList, by simp [Builtin.clear_, run_underlying Tryz.underlying32, hA, hst]⟩
theorem ces_take (L : List (List UInt8)) (i : Nat) : (ces L).take (i * 9) = ces (L.take i) := by
  induction L generalizing i with
  | nil => simp [ces]
  | cons t l ih =>
    have hc : ces (t :: l) = ce9 t ++ ces l := rfl
    have hl : (ce9 t).length = 9 := rfl
    cases i with
    | zero => simp [ces]
    | succ i =>
      rw [hc, List.take_append, hl, List.take_of_length_le (by rw [hl]; omega), show (i + 1) * 9 - 9 = i * 9 by omega, ih]
      rfl
/-- the places that are written lie behind those that are looked at -/
theorem del_yes {q : List UInt8 → Bool} {L K : List (List UInt8)} {i j : Nat} {t : List UInt8} (h1 : K.take i = (L.take j).filter q) (h2 : ((L.take j).filter q).length = i) (h3 : K.drop j = L.drop j) (h4 : K.length = L.length) (hij : i < j) (ht : L[j]? = some t) (hq : q t = true) : (K.set i t).take (i + 1) = (L.take (j + 1)).filter q ∧ ((L.take (j + 1)).filter q).length = i + 1 ∧ (K.set i t).drop (j + 1) = L.drop (j + 1) ∧ (K.set i t).length = L.length := by
  have hj : j < L.length := (List.getElem?_eq_some_iff.1 ht).1
  have e : (L.take (j + 1)).filter q = (L.take j).filter q ++ [t] := by
    rw [List.take_add_one, ht, List.filter_append]
    simp [hq]
  refine ⟨?_, by rw [e, List.length_append, h2]; rfl, ?_, by rw [List.length_set, h4]⟩
  · rw [e, List.take_add_one, List.take_set, List.set_eq_of_length_le (by rw [List.length_take]; omega), h1, List.getElem?_set_self (by omega)]
    rfl
  · rw [List.drop_set_of_lt (by omega), ← List.drop_drop, h3, List.drop_drop]
theorem del_no {q : List UInt8 → Bool} {L K : List (List UInt8)} {i j : Nat} {t : List UInt8} (h1 : K.take i = (L.take j).filter q) (h2 : ((L.take j).filter q).length = i) (h3 : K.drop j = L.drop j) (ht : L[j]? = some t) (hq : q t = false) : K.take i = (L.take (j + 1)).filter q ∧ ((L.take (j + 1)).filter q).length = i ∧ K.drop (j + 1) = L.drop (j + 1) := by
  have e : (L.take (j + 1)).filter q = (L.take j).filter q := by
    rw [List.take_add_one, ht, List.filter_append]
    simp [hq]
  rw [e]
  exact ⟨h1, h2, by rw [← List.drop_drop, h3, List.drop_drop]⟩
set_option maxRecDepth 100000 in
set_option maxHeartbeats 4000000 in
theorem delc_any (L : List (List UInt8)) (n c g B : Nat) (x : List UInt8) (bw bx : Nat) (w : World) (hn : L.length = n) (hc : n ≤ 281474976710656) (h : w.ownsRow B 58 9 (.slice (some ⟨g, 0, none⟩) n c) n (ces L)) (gL : ∀ t ∈ L, good t = true) (gx : good x = true) (hq : WQ w bw bx x) (h1 : bw ≠ g) (h2 : bx ≠ g) (q : List UInt8 → Bool) (hqd : q = fun t => !wiB t x) :
    Calls Tryz.prog 62 #[.slice (some ⟨g, 0, none⟩) n c, .func (.func 63) #[] #[.pointer (some ⟨bw, 0, none⟩), .pointer (some ⟨bx, 0, none⟩)]] w fun e w' => ∃ m, e = .returned (.slice (some ⟨g, 0, none⟩) m c) ∧ (L.filter q).length = m ∧ w'.ownsRow B 58 9 (.slice (some ⟨g, 0, none⟩) m c) m (ces (L.filter q)) ∧ w.grownBy w' (some g) := by
  have hnc : n ≤ c := by
    rcases h.2 with ⟨h', _⟩ | ⟨g', cap', cur, h', _, _, h9, _⟩
    · cases h'
    · injection h' with _ _ a3
      omega
  have H1 := idxc2_any L n (some ⟨g, 0, none⟩) c bw bx (fun t => wiB t x) w hn (by omega) (IRC_own h hn) (fun W hW t ht => great2_any x t bw bx W gx (gL t ht) (hq.below hW))
  obtain ⟨i0, hi0⟩ : ∃ i, ixP (fun t => wiB t x) 0 L = i := ⟨_, rfl⟩
  have HIX := ixP_at (fun t => wiB t x) L 0
  rw [hi0] at H1 HIX
  have HN : Hid (L.length = n) := hn
  have HO : Hid (w.ownsRow B 58 9 (.slice (some ⟨g, 0, none⟩) n c) n (ces L)) := h
  have HG : Hid (∀ t ∈ L, good t = true) := gL
  have HQ : Hid (WQ w bw bx x ∧ bw ≠ g ∧ bx ≠ g) := ⟨hq, h1, h2⟩
  have HD : Hid (q = fun t => !wiB t x) := hqd
  have HX : Hid (good x = true) := gx
  have HI : Hid ((i0 = -1 ∧ ∀ t ∈ L, wiB t x = false) ∨ ∃ A t R, L = A ++ t :: R ∧ (∀ x_1 ∈ A, wiB x_1 x = false) ∧ wiB t x = true ∧ i0 = ((0 + A.length : Nat) : Int)) := HIX
  clear hn h gL hq h1 h2 hqd gx HIX hi0
  go_enter Tryz.func62, Tryz.ntmps62
  go_wp2_with fail
  refine H1.mono ?_
  rintro e W0 ⟨rfl, hb0⟩
  clear H1
  rcases HI.out with ⟨rfl, hno⟩ | ⟨A, t0, R, hLA, hA, ht0, rfl⟩
  · have HF : Hid (L.filter q = L) := by
      unfold Hid
      rw [HD.out]
      exact List.filter_eq_self.2 (fun t ht => by simp [hno t ht])
    clear hno HI
    go_wp2_with fail
    go_ret
    refine ⟨n, rfl, ?_, ?_, below_grown hb0 _⟩
    · rw [HF.out, HN.out]
    · rw [HF.out]
      exact (HO.out.kept (below_grown hb0 none) (.inr (by intro e; cases e)))
  · obtain ⟨i, hi⟩ : ∃ i, A.length = i := ⟨_, rfl⟩
    have HS : Hid (∃ K : List (List UInt8), K.take i = (L.take (i + 1)).filter q ∧ ((L.take (i + 1)).filter q).length = i ∧ K.drop (i + 1) = L.drop (i + 1) ∧ K.length = L.length ∧ W0.ownsRow B 58 9 (.slice (some ⟨g, 0, none⟩) n c) n (ces K)) := by
      have e : (L.take (i + 1)).filter q = A := by
        rw [hLA, ← hi, List.take_append, List.take_of_length_le (by omega), Nat.add_sub_cancel_left, List.filter_append, HD.out]
        simp only [List.take_succ_cons, List.take_zero]
        rw [List.filter_eq_self.2 (fun t ht => by simp [hA t ht])]
        simp [ht0]
      refine ⟨L, ?_, by rw [e, hi], rfl, rfl, HO.out.kept (below_grown hb0 none) (.inr (by intro e; cases e))⟩
      rw [e, hLA, ← hi, List.take_left']
      rfl
    have hin : i + 1 ≤ n := by
      rw [← HN.out, hLA, List.length_append, List.length_cons, hi]
      omega
    rw [Nat.zero_add, hi]
    have k0 : ((i : Int) == -1) = false := beq_false_of_ne (by omega)
    clear hLA hA ht0 hi HI
    go_wp2_with fail
    go_loopw [5, 6] (fun v5 v6 wr => ∃ i j : Nat, v5 = .int .i64 (i : Int) ∧ v6 = .int .i64 (j : Int) ∧ i < j ∧ j ≤ n ∧ w.grownBy wr (some g) ∧ ∃ K : List (List UInt8), K.take i = (L.take j).filter q ∧ ((L.take j).filter q).length = i ∧ K.drop j = L.drop j ∧ K.length = L.length ∧ wr.ownsRow B 58 9 (.slice (some ⟨g, 0, none⟩) n c) n (ces K)) (fun _ v6 _ => n - (intOf v6).toNat)
    case atStart => exact ⟨i, i + 1, rfl, by go_num, by omega, hin, below_grown hb0 _, HS.out⟩
    case round =>
      clear HS hb0
      obtain ⟨i, j, rfl, rfl, hij, hjn, hg, K, e1, e2, e3, e4, oK⟩ := hrel
      by_cases hlt : j < n
      · have j1 : (j : Int) < (n : Int) := by omega
        have j0 : (0 : Int) ≤ (j : Int) := by omega
        have i0 : (0 : Int) ≤ (i : Int) := by omega
        have i1 : (i : Int) < (n : Int) := by omega
        obtain ⟨t, ht⟩ : ∃ t, L[j]? = some t := ⟨_, List.getElem?_eq_getElem (by rw [HN.out]; exact hlt)⟩
        have hKt : K[j]? = some t := by
          have := congrArg (fun l => l[0]?) e3
          simpa [ht] using this
        have hjK : j < K.length := by rw [e4, HN.out]; exact hlt
        have ce : CB wr g (j * 9) t := ce_at (by rw [e4, HN.out]; exact oK) hjK (List.getElem?_eq_some_iff.1 hKt).2
        have HST : Hid (K.take i = (L.take j).filter q ∧ ((L.take j).filter q).length = i ∧ K.drop j = L.drop j ∧ K.length = L.length ∧ L[j]? = some t) := ⟨e1, e2, e3, e4, ht⟩
        have HOK : Hid (wr.ownsRow B 58 9 (.slice (some ⟨g, 0, none⟩) n c) n (ces K)) := oK
        have HGR : Hid (w.grownBy wr (some g)) := hg
        have hwq : WQ wr bw bx x := ⟨(hg.block bw (lt_of_get3 HQ.out.1.1) (by intro e; injection e with e; exact HQ.out.2.1 e)).trans HQ.out.1.1, (hg.block bx (lt_of_get3 HQ.out.1.2) (by intro e; injection e with e; exact HQ.out.2.2 e)).trans HQ.out.1.2⟩
        have HW : Hid (WQ wr bw bx x) := hwq
        obtain ⟨p0, p1, p2, p3, p4, p5, p6, p7, p8⟩ := ce
        clear e1 e2 e3 e4 oK hg ht hKt hwq
        have hgd := HG.out t (List.mem_of_getElem? HST.out.2.2.2.2)
        have HCL : Hid (∀ W, Below wr.heap.size wr W → Calls Tryz.prog 63 #[.agg #[.int .i64 (t.length : Int), .int .u64 (FW t 0 : Int), .int .u64 (FW t 1 : Int), .int .u64 (FW t 2 : Int), .int .u64 (FW t 3 : Int), .int .u64 (OW t 0 : Int), .int .u64 (OW t 1 : Int), .int .u64 (OW t 2 : Int), .int .u64 (OW t 3 : Int)], .pointer (some ⟨bw, 0, none⟩), .pointer (some ⟨bx, 0, none⟩)] W fun e w' => e = .returned (.bool (wiB t x)) ∧ Below W.heap.size W w') := fun W hW => great2_any x t bw bx W HX.out hgd (HW.out.below hW)
        have hal : Below wr.heap.size wr (wr.alloc (.cells #[.int .i64 (t.length : Int), .int .u64 (FW t 0 : Int), .int .u64 (FW t 1 : Int), .int .u64 (FW t 2 : Int), .int .u64 (FW t 3 : Int), .int .u64 (OW t 0 : Int), .int .u64 (OW t 1 : Int), .int .u64 (OW t 2 : Int), .int .u64 (OW t 3 : Int)] 58 (0, 0))) := belA (Below.refl _ _) _
        have hcb : CB (wr.alloc (.cells #[.int .i64 (t.length : Int), .int .u64 (FW t 0 : Int), .int .u64 (FW t 1 : Int), .int .u64 (FW t 2 : Int), .int .u64 (FW t 3 : Int), .int .u64 (OW t 0 : Int), .int .u64 (OW t 1 : Int), .int .u64 (OW t 2 : Int), .int .u64 (OW t 3 : Int)] 58 (0, 0))) wr.heap.size 0 t := CB_of (alloc_get _ _)
        go_wp2_with fail
        refine (HCL.out _ hal).mono ?_
        rintro e W1 ⟨rfl, hb1⟩
        have hB1 := bel0 hal hb1
        have oK1 : W1.ownsRow B 58 9 (.slice (some ⟨g, 0, none⟩) n c) n (ces K) := HOK.out.kept (below_grown hB1 none) (.inr (by intro e; cases e))
        have HG1 : Hid (w.grownBy W1 (some g)) := grown_trans HGR.out (below_grown hB1 _)
        cases hw : wiB t x with
        | true =>
          have HF : Hid (K.take i = (L.take (j + 1)).filter q ∧ ((L.take (j + 1)).filter q).length = i ∧ K.drop (j + 1) = L.drop (j + 1)) := del_no HST.out.1 HST.out.2.1 HST.out.2.2.1 HST.out.2.2.2.2 (by rw [HD.out]; simp [hw])
          have HO1 : Hid (W1.ownsRow B 58 9 (.slice (some ⟨g, 0, none⟩) n c) n (ces K)) := oK1
          clear oK1 hw
          go_wp2_with fail
          go_roundw
          case rel => exact ⟨i, j + 1, rfl, by go_num, by omega, by omega, HG1.out, K, HF.out.1, HF.out.2.1, HF.out.2.2, HST.out.2.2.2.1, HO1.out⟩
          case measure => simp [intOf]; omega
        | false =>
          have hiK : i < K.length := by rw [HST.out.2.2.2.1, HN.out]; omega
          have HF : Hid ((K.set i t).take (i + 1) = (L.take (j + 1)).filter q ∧ ((L.take (j + 1)).filter q).length = i + 1 ∧ (K.set i t).drop (j + 1) = L.drop (j + 1) ∧ (K.set i t).length = L.length) := del_yes HST.out.1 HST.out.2.1 HST.out.2.2.1 HST.out.2.2.2.1 hij HST.out.2.2.2.2 (by rw [HD.out]; simp [hw])
          have hp := put9k_own t oK1 hiK
          have HP : Hid ((put9k W1 g i t).ownsRow B 58 9 (.slice (some ⟨g, 0, none⟩) n c) n (ces (K.set i t)) ∧ w.grownBy (put9k W1 g i t) (some g)) := ⟨hp.1, grown_trans HG1.out hp.2⟩
          obtain ⟨c0, c1, c2, c3, c4, c5, c6, c7, c8⟩ := ce_at (L := K) (by rw [HST.out.2.2.2.1, HN.out]; exact oK1) hiK rfl
          have fz := oK1.frozenAt
          obtain ⟨d0, d1, d2, d3, d4, d5, d6, d7, d8⟩ := hcb.below hb1
          clear oK1 hw hp
          go_wp2_with fail
          go_roundw
          case rel => exact ⟨i + 1, j + 1, by go_num, by go_num, by omega, by omega, HP.out.2, K.set i t, HF.out.1, HF.out.2.1, HF.out.2.2.1, HF.out.2.2.2, HP.out.1⟩
          case measure => simp [intOf]; omega
      · obtain rfl : j = n := by omega
        have j1 : ¬ (j : Int) < (j : Int) := by omega
        have i0 : (0 : Int) ≤ (i : Int) := by omega
        have i1 : (i : Int) ≤ (j : Int) := by omega
        have i2 : ¬ c = i := by omega
        have i3 : (j : Int) ≤ (c : Int) := by omega
        have i4 : (i : Int) ≤ (c : Int) := by omega
        obtain ⟨Z, hZ⟩ : ∃ Z : List Value, ∀ ty, (Builtin.clear_ #[32] ty #[.slice (some ⟨g, i * 9, none⟩) (j - i) (c - i)]).run Tryz.prog wr = .ok (.tuple #[]) (wr.setCells g (i * 9) Z) := by
          have hce : ∀ m, m < (j - i) * 9 → (wr.cell? ⟨g, i * 9 + m, none⟩).isSome = true := fun m hm => by
            rw [oK.cellAt (i * 9 + m) (by omega)]
            have hl := oK.1
            rw [List.getElem?_eq_getElem (by omega)]
            rfl
          obtain ⟨Z, hZ⟩ := clear9 wr 0 g (i * 9) (j - i) (c - i) (by omega) hce (fun m _ => oK.frozenAt _)
          exact ⟨Z, fun _ => hZ⟩
        obtain ⟨ys, oy, ey, gy⟩ := setCells_own Z (i * 9) oK
        have HE : Hid (((L.filter q).length = i) ∧ (wr.setCells g (i * 9) Z).ownsRow B 58 9 (.slice (some ⟨g, 0, none⟩) i c) i (ces (L.filter q)) ∧ w.grownBy (wr.setCells g (i * 9) Z) (some g)) := by
          have eL : L.take j = L := List.take_of_length_le (by rw [HN.out]; exact Nat.le_refl _)
          rw [eL] at e1 e2
          refine ⟨e2, ?_, grown_trans hg gy⟩
          have := own_cut (i := i) (by omega) oy
          rw [ey, ces_take, e1] at this
          exact this
        clear oK oy ey gy e1 e2 e3 e4 hg
        go_wp2_with fail
        go_ret
        exact ⟨i, rfl, HE.out.1, HE.out.2.1, HE.out.2.2⟩
end Go.Proofs.YtecgjlpmmailjaaGreatDoor
namespace Go.Proofs.YtecgjlpmmailjaaGreatDoor
open Go.RowKit
theorem info_cubeQ : (Tryz.prog.info? 58).map (fun i => (i.zero, i.size, i.bytes)) = some (some (.agg #[.int .i64 0, .int .u64 0, .int .u64 0, .int .u64 0, .int .u64 0, .int .u64 0, .int .u64 0, .int .u64 0, .int .u64 0]), 9, 72) := by kernel_rfl
set_option maxRecDepth 100000 in
theorem delc_nil (bw bx : Nat) (w : World) : Calls Tryz.prog 62 #[.slice none 0 0, .func (.func 63) #[] #[.pointer (some ⟨bw, 0, none⟩), .pointer (some ⟨bx, 0, none⟩)]] w fun e w' => e = .returned (.slice none 0 0) ∧ Below w.heap.size w w' := by
  have H1 := idxc2_any [] 0 none 0 bw bx (fun _ => true) w rfl (by omega) (fun W hW k t ht => by simp at ht) (fun W hW t ht => by cases ht)
  have e : ixP (fun _ => true) 0 [] = -1 := rfl
  rw [e] at H1
  go_enter Tryz.func62, Tryz.ntmps62
  go_wp2_with fail
  refine H1.mono ?_
  rintro e W0 ⟨rfl, hb0⟩
  clear H1
  go_wp2_with fail
  go_ret
  exact ⟨rfl, hb0⟩
theorem own_shapeQ {W : World} {B n : Nat} {e : TypeId} {sz : Nat} {v : Value} {xs : List Value} (h : W.ownsRow B e sz v n xs) : (v = .slice none 0 0 ∧ n = 0) ∨ ∃ g c, v = .slice (some ⟨g, 0, none⟩) n c ∧ n ≤ c ∧ B ≤ g ∧ ∃ cur, W.heap[g]? = some (.cells cur e (0, 0)) := by
  rcases h.2 with h' | ⟨g, cap, cur, h', hb, hg, hnc, _⟩
  · exact .inl h'
  · exact .inr ⟨g, cap, h', hnc, hb, cur, hg⟩
theorem delc_all (L : List (List UInt8)) (n : Nat) (v : Value) (B : Nat) (x : List UInt8) (bw bx : Nat) (w : World) (hn : L.length = n) (hN : n ≤ 281474976710656) (h : w.ownsRow B 58 9 v n (ces L)) (gL : ∀ t ∈ L, good t = true) (gx : good x = true) (hq : WQ w bw bx x) (hne : v.ownBlock ≠ some bx) (q : List UInt8 → Bool) (hqd : q = fun t => !wiB t x) :
    Calls Tryz.prog 62 #[v, .func (.func 63) #[] #[.pointer (some ⟨bw, 0, none⟩), .pointer (some ⟨bx, 0, none⟩)]] w fun e w' => ∃ v', e = .returned v' ∧ w'.ownsRow B 58 9 v' (L.filter q).length (ces (L.filter q)) ∧ w.grownBy w' v.ownBlock := by
  rcases own_shapeQ h with ⟨rfl, rfl⟩ | ⟨g, c, rfl, -, -, cur, hg⟩
  · obtain rfl := List.length_eq_zero_iff.1 hn
    refine (delc_nil bw bx w).mono ?_
    rintro e w' ⟨rfl, hb⟩
    exact ⟨_, rfl, World.ownsRow_nil _ _ _ _, below_grown hb _⟩
  · have h1 : bw ≠ g := fun e => by
      subst e
      rw [hq.1] at hg
      injection hg with hg
      injection hg with _ hg _
      revert hg
      decide
    refine (delc_any L n c g B x bw bx w hn hN h gL gx hq h1 (fun e => hne (by rw [e]; rfl)) q hqd).mono ?_
    rintro e w' ⟨m, rfl, rfl, ho, hgr⟩
    exact ⟨_, rfl, ho, hgr⟩
theorem own_belQ {W X : World} {B n : Nat} {e : TypeId} {sz : Nat} {v : Value} {xs : List Value} (h : W.ownsRow B e sz v n xs) (hb : Below W.heap.size W X) : X.ownsRow B e sz v n xs := by
  refine h.kept (below_grown hb none) ?_
  generalize v.ownBlock = b
  cases b with
  | none => exact .inl rfl
  | some b => exact .inr (by intro e; cases e)
/-- the greatest of a list, one by one -/
def topS (T : List (List UInt8)) (x : List UInt8) : List (List UInt8) := if T.any (fun y => wiB x y) = true then T else T.filter (fun y => !wiB y x) ++ [x]
def topL (L : List (List UInt8)) : List (List UInt8) := L.foldl topS []
theorem topL_step {L : List (List UInt8)} {k : Nat} {x : List UInt8} (h : L[k]? = some x) : topL (L.take (k + 1)) = topS (topL (L.take k)) x := by
  unfold topL
  rw [List.take_add_one, h, List.foldl_append]
  rfl
theorem topS_mem {T : List (List UInt8)} {x t : List UInt8} (h : t ∈ topS T x) : t ∈ T ∨ t = x := by
  unfold topS at h
  split at h
  · exact .inl h
  · rcases List.mem_append.1 h with h | h
    · exact .inl (List.mem_filter.1 h).1
    · exact .inr (List.mem_singleton.1 h)
theorem topF_mem (L : List (List UInt8)) : ∀ (T : List (List UInt8)) (t : List UInt8), t ∈ L.foldl topS T → t ∈ T ∨ t ∈ L := by
  induction L with
  | nil => exact fun T t h => .inl h
  | cons x L ih =>
    intro T t h
    rcases ih _ t h with h | h
    · rcases topS_mem h with h | rfl
      · exact .inl h
      · exact .inr (by simp)
    · exact .inr (by simp [h])
theorem topL_mem {L : List (List UInt8)} {t : List UInt8} (h : t ∈ topL L) : t ∈ L := by
  rcases topF_mem L [] t h with h | h
  · cases h
  · exact h
theorem topS_len (T : List (List UInt8)) (x : List UInt8) : (topS T x).length ≤ T.length + 1 := by
  unfold topS
  split
  · omega
  · rw [List.length_append]
    have := List.length_filter_le (fun y => !wiB y x) T
    simp
    omega
theorem topF_len (L : List (List UInt8)) : ∀ T : List (List UInt8), (L.foldl topS T).length ≤ T.length + L.length := by
  induction L with
  | nil => intro T; simp
  | cons x L ih =>
    intro T
    have h1 := ih (topS T x)
    have h2 := topS_len T x
    rw [List.foldl_cons, List.length_cons]
    omega
theorem topL_len (L : List (List UInt8)) : (topL L).length ≤ L.length := by
  have := topF_len L []
  simpa [topL] using this
set_option maxRecDepth 100000 in
set_option maxHeartbeats 4000000 in
theorem great_any (L : List (List UInt8)) (n : Nat) (o : Option Addr) (c : Nat) (w : World) (hn : L.length = n) (hN : n ≤ 1000000) (hr : IRC w o L) (gL : ∀ t ∈ L, good t = true) :
    Calls Tryz.prog 42 #[.slice o n c, .func (.func 43) #[] #[]] w fun e w' => ∃ v, e = .returned v ∧ w'.ownsRow w.heap.size 58 9 v (topL L).length (ces (topL L)) ∧ Below w.heap.size w w' := by
  obtain ⟨i0, hi, hz0, hz1, hz2⟩ := info_parts info_cubeQ
  have HR : Hid (IRC w o L) := hr
  have HG : Hid (∀ t ∈ L, good t = true) := gL
  have HN : Hid (L.length = n) := hn
  clear hr gL hn
  go_enter Tryz.func42, Tryz.ntmps42
  go_wp2_with fail
  go_loopw [5, 10] (fun v5 v10 wr => ∃ k : Nat, v10 = .int .i64 (k : Int) ∧ k ≤ n ∧ wr.ownsRow w.heap.size 58 9 v5 (topL (L.take k)).length (ces (topL (L.take k))) ∧ Below w.heap.size w wr ∧ wr.heap[w.heap.size]? = some (.cells #[.func (.func 43) #[] #[]] 96 (0, 0))) (fun _ v10 _ => n - (intOf v10).toNat)
  case atStart => exact ⟨0, rfl, Nat.zero_le _, World.ownsRow_nil _ _ _ _, belA (Below.refl _ _) _, alloc_get _ _⟩
  case round =>
    obtain ⟨k, rfl, hk, oT, hB, hw⟩ := hrel
    by_cases hlt : k < n
    · have j1 : (k : Int) < (n : Int) := by omega
      have j0 : (0 : Int) ≤ (k : Int) := by omega
      obtain ⟨x, hx⟩ : ∃ x, L[k]? = some x := ⟨_, List.getElem?_eq_getElem (by rw [HN.out]; exact hlt)⟩
      obtain ⟨g, o0, rfl, p0, p1, p2, p3, p4, p5, p6, p7, p8⟩ := HR.out wr hB k x hx
      have gx := HG.out x (List.mem_of_getElem? hx)
      have HS := topL_step hx
      have hTl := topL_len (L.take k)
      have gT : ∀ t ∈ topL (L.take k), good t = true := fun t ht => HG.out t (List.mem_of_mem_take (topL_mem ht))
      have hTk : (L.take k).length ≤ 1000000 := by rw [List.length_take]; omega
      obtain ⟨Tk, hTe⟩ : ∃ T, topL (L.take k) = T := ⟨_, rfl⟩
      rw [hTe] at oT HS hTl gT
      have HTS : Hid (topL (L.take (k + 1)) = topS Tk x ∧ Tk.length ≤ 1000000 ∧ (∀ t ∈ Tk, good t = true) ∧ good x = true) := ⟨HS, by omega, gT, gx⟩
      clear hx HS hTl gT hTk hTe gx
      obtain ⟨w1, hw1⟩ : ∃ w1, wr.alloc (.cells #[.int .i64 (x.length : Int), .int .u64 (FW x 0 : Int), .int .u64 (FW x 1 : Int), .int .u64 (FW x 2 : Int), .int .u64 (FW x 3 : Int), .int .u64 (OW x 0 : Int), .int .u64 (OW x 1 : Int), .int .u64 (OW x 2 : Int), .int .u64 (OW x 3 : Int)] 58 (0, 0)) = w1 := ⟨_, rfl⟩
      have hal : Below wr.heap.size wr w1 := by rw [← hw1]; exact belA (Below.refl _ _) _
      have hq1 : WQ w1 w.heap.size wr.heap.size x := ⟨keepblk3 hal hw, by rw [← hw1]; exact alloc_get _ _⟩
      have oT1 : w1.ownsRow w.heap.size 58 9 u5 Tk.length (ces Tk) := own_belQ oT hal
      have hsh : ∃ p c2, u5 = .slice p Tk.length c2 := by
        rcases own_shapeQ oT with ⟨e, h0⟩ | ⟨g, c, e, _⟩
        · exact ⟨none, 0, by rw [h0]; exact e⟩
        · exact ⟨_, _, e⟩
      obtain ⟨p2', c2, hu⟩ := hsh
      have HC : Hid (Calls Tryz.prog 60 #[u5, .func (.func 61) #[] #[.pointer (some ⟨w.heap.size, 0, none⟩), .pointer (some ⟨wr.heap.size, 0, none⟩)]] w1 fun e w' => e = .returned (.bool (Tk.any (fun y => wiB x y))) ∧ Below w1.heap.size w1 w') := by
        rw [hu]
        rw [hu] at oT1
        exact contc_any Tk Tk.length p2' c2 w.heap.size wr.heap.size (fun y => wiB x y) w1 rfl (by have := HTS.out.2.1; omega) (IRC_own oT1 rfl) (fun W hW t ht => great1_any x t _ _ W HTS.out.2.2.2 (HTS.out.2.2.1 t ht) (hq1.below hW))
      have hob : u5.ownBlock ≠ some wr.heap.size := fun e => by
        have := (oT.lt _ e).2
        omega
      have HO1 : Hid (w1.ownsRow w.heap.size 58 9 u5 Tk.length (ces Tk) ∧ WQ w1 w.heap.size wr.heap.size x ∧ u5.ownBlock ≠ some wr.heap.size ∧ Below w.heap.size w w1) := ⟨oT1, hq1, hob, bel0 hB hal⟩
      clear oT oT1 hq1 hob hu hw
      go_wp2_with fail
      refine HC.out.mono ?_
      rintro e W2 ⟨rfl, hb2⟩
      clear HC p0 p1 p2 p3 p4 p5 p6 p7 p8
      have hB2 := bel0 HO1.out.2.2.2 hb2
      have hq2 := HO1.out.2.1.below hb2
      have oT2 := own_belQ HO1.out.1 hb2
      cases ha : Tk.any (fun y => wiB x y) with
      | true =>
        have HF : Hid (topL (L.take (k + 1)) = Tk ∧ W2.ownsRow w.heap.size 58 9 u5 Tk.length (ces Tk) ∧ W2.heap[w.heap.size]? = some (.cells #[.func (.func 43) #[] #[]] 96 (0, 0))) := ⟨by rw [HTS.out.1]; unfold topS; rw [if_pos ha], oT2, hq2.1⟩
        clear ha oT2 hq2
        go_wp2_with fail
        go_roundw
        case rel => exact ⟨k + 1, by go_num, by omega, by rw [HF.out.1]; exact HF.out.2.1, hB2, HF.out.2.2⟩
        case measure => simp [intOf]; omega
      | false =>
        have HF : Hid (topL (L.take (k + 1)) = Tk.filter (fun y => !wiB y x) ++ [x]) := by
          unfold Hid
          rw [HTS.out.1]
          unfold topS
          rw [ha, if_neg (by simp)]
        have HD : Hid (Calls Tryz.prog 62 #[u5, .func (.func 63) #[] #[.pointer (some ⟨w.heap.size, 0, none⟩), .pointer (some ⟨wr.heap.size, 0, none⟩)]] W2 fun e w' => ∃ v', e = .returned v' ∧ w'.ownsRow w.heap.size 58 9 v' (Tk.filter (fun y => !wiB y x)).length (ces (Tk.filter (fun y => !wiB y x))) ∧ W2.grownBy w' u5.ownBlock) := delc_all Tk Tk.length u5 w.heap.size x w.heap.size wr.heap.size W2 rfl (by have := HTS.out.2.1; omega) oT2 HTS.out.2.2.1 HTS.out.2.2.2 hq2 HO1.out.2.2.1 _ rfl
        have HQ2 : Hid (WQ W2 w.heap.size wr.heap.size x ∧ W2.ownsRow w.heap.size 58 9 u5 Tk.length (ces Tk)) := ⟨hq2, oT2⟩
        clear ha hq2 oT2
        go_wp2_with fail
        refine HD.out.mono ?_
        rintro e W3 ⟨v3, rfl, o3, g3⟩
        have hfl := List.length_filter_le (fun y => !wiB y x) Tk
        have hT6 := HTS.out.2.1
        have hb3 : W3.heap[wr.heap.size]? = some (.cells #[.int .i64 (x.length : Int), .int .u64 (FW x 0 : Int), .int .u64 (FW x 1 : Int), .int .u64 (FW x 2 : Int), .int .u64 (FW x 3 : Int), .int .u64 (OW x 0 : Int), .int .u64 (OW x 1 : Int), .int .u64 (OW x 2 : Int), .int .u64 (OW x 3 : Int)] 58 (0, 0)) := (g3.block _ (lt_of_get3 HQ2.out.1.2) (fun e => HO1.out.2.2.1 e.symm)).trans HQ2.out.1.2
        have hw3 : W3.heap[w.heap.size]? = some (.cells #[.func (.func 43) #[] #[]] 96 (0, 0)) := by
          refine (g3.block _ (lt_of_get3 HQ2.out.1.1) (fun e => ?_)).trans HQ2.out.1.1
          rcases own_shapeQ HQ2.out.2 with ⟨h, -⟩ | ⟨g9, c9, h, -, -, cur, hg9⟩
          · rw [h] at e
            cases e
          · rw [h] at e
            have e2 : w.heap.size = g9 := by injection e
            rw [← e2, HQ2.out.1.1] at hg9
            injection hg9 with hg9
            injection hg9 with _ hg9 _
            revert hg9
            decide
        have hB3 : Below w.heap.size w W3 := hB2.grown g3 hB2.size (fun b e => (HQ2.out.2.lt b e).1)
        have hs3 := hB3.size
        have HW3 : Hid (W3.heap[w.heap.size]? = some (.cells #[.func (.func 43) #[] #[]] 96 (0, 0))) := hw3
        obtain ⟨d0, d1, d2, d3, d4, d5, d6, d7, d8⟩ := CB_of hb3
        obtain ⟨Fk, hFk⟩ : ∃ F, Tk.filter (fun y => !wiB y x) = F := ⟨_, rfl⟩
        rw [hFk] at o3 hfl
        have HFE : Hid (topL (L.take (k + 1)) = Fk ++ [x]) := by
          unfold Hid
          rw [HF.out, hFk]
        clear hw3 hb3 HD HF hFk
        go_wp2_with (at_builtin; refine wpList_append_own _ rfl _ _ 32 rfl w.heap.size 58 i0 _ 9 72 Tryz.underlying32 hi hz0 hz1 hz2 rfl (by decide) _ _ _ rfl (o3.alloc _) ⟨_, 0, none⟩ 1 1 (ce9 x) rfl rfl (World.news_of_block (cs := #[.int .i64 (x.length : Int), .int .u64 (FW x 0 : Int), .int .u64 (FW x 1 : Int), .int .u64 (FW x 2 : Int), .int .u64 (FW x 3 : Int), .int .u64 (OW x 0 : Int), .int .u64 (OW x 1 : Int), .int .u64 (OW x 2 : Int), .int .u64 (OW x 3 : Int)]) (t := 58) (fr := (0, 0)) (alloc_get _ _)) (by simp [ce9, Value.oneCell']) (by unfold maxLen; omega) (by omega) (by simp; omega) ?_; intro v4 w4 o4 g4 _)
        have hB4 : Below w.heap.size w w4 := (belA hB3 _).grown g4 (by simp; omega) (fun b e => (o3.lt b e).1)
        have hw4 : w4.heap[w.heap.size]? = some (.cells #[.func (.func 43) #[] #[]] 96 (0, 0)) := by
          refine (g4.block _ (by simp; have := lt_of_get3 HW3.out; omega) (fun e => ?_)).trans (allocblk3 HW3.out _)
          rcases own_shapeQ o3 with ⟨h, -⟩ | ⟨g9, c9, h, -, -, cur, hg9⟩
          · rw [h] at e
            cases e
          · rw [h] at e
            have e2 : w.heap.size = g9 := by injection e
            rw [← e2, HW3.out] at hg9
            injection hg9 with hg9
            injection hg9 with _ hg9 _
            revert hg9
            decide
        have HO4 : Hid (w4.ownsRow w.heap.size 58 9 v4 (topL (L.take (k + 1))).length (ces (topL (L.take (k + 1)))) ∧ w4.heap[w.heap.size]? = some (.cells #[.func (.func 43) #[] #[]] 96 (0, 0))) := by
          refine ⟨?_, hw4⟩
          rw [HFE.out, List.length_append, ces_snoc]
          exact o4
        clear o3 o4 g4 hw4
        go_wp2_with fail
        go_roundw
        case rel => exact ⟨k + 1, by go_num, by omega, HO4.out.1, hB4, HO4.out.2⟩
        case measure => simp [intOf]; omega
    · have j1 : ¬ (k : Int) < (n : Int) := by omega
      obtain rfl : k = n := by omega
      have HE : Hid (wr.ownsRow w.heap.size 58 9 u5 (topL L).length (ces (topL L))) := by
        rw [List.take_of_length_le (by rw [HN.out]; exact Nat.le_refl _)] at oT
        exact oT
      clear oT hw
      go_wp2_with fail
      go_ret
      exact ⟨_, rfl, HE.out, hB⟩
end Go.Proofs.YtecgjlpmmailjaaGreatDoor
