import Derived.Test.YtccbfaembcefjaaGreatDoorXG1
import Derived.Test.YtccbfaembcefjaaGreatDoorXE3
namespace Go.Proofs.YtccbfaembcefjaaGreatDoor
open Go.RowKit Go.Shelf
def ltS (a b : List UInt8) : Bool := Op.bytesLess a b
def mnF (a x : List UInt8) : List UInt8 := if a = [] then x else if ltS x a = true then x else a
/-- the least header of cubes; none: the empty text -/
def mnL (l : List (List UInt8)) : List UInt8 := l.foldl (fun a x => mnF a (lsT x)) []
theorem mnL_snoc (l : List (List UInt8)) (x : List UInt8) : mnL (l ++ [x]) = mnF (mnL l) (lsT x) := by
  unfold mnL
  rw [List.foldl_append]
  rfl
theorem mnF_ne {a x : List UInt8} (hx : x ≠ []) : mnF a x ≠ [] := by
  unfold mnF
  split
  · exact hx
  · split
    · exact hx
    · assumption
theorem lsT_ne {x : List UInt8} (h : x ≠ []) : lsT x ≠ [] := fun e => h (List.eq_nil_of_length_eq_zero (by rw [← lsT_len, e]; rfl))
theorem mnL_one (x : List UInt8) : mnL [x] = lsT x := by
  unfold mnL mnF
  simp
theorem mnL_take {l : List (List UInt8)} {i : Nat} {x : List UInt8} (h : l[i]? = some x) : mnL (l.take (i + 1)) = mnF (mnL (l.take i)) (lsT x) := by
  rw [List.take_add_one, h]
  exact mnL_snoc _ _
theorem mnL_ne : ∀ (l : List (List UInt8)), (∀ x ∈ l, x ≠ []) → l ≠ [] → mnL l ≠ [] := fun l hl hn => by
  obtain ⟨l', x, rfl⟩ : ∃ l' x, l = l' ++ [x] := ⟨l.dropLast, l.getLast hn, (List.dropLast_concat_getLast hn).symm⟩
  rw [mnL_snoc]
  exact mnF_ne (lsT_ne (hl x (by simp)))
theorem wr_zero (n : Nat) (c : List UInt8) (h : c.length = n) : wrT (List.replicate n 48) c = lsT c := by
  subst h
  apply List.ext_getElem?
  intro i
  unfold wrT lsT
  rw [List.getElem?_zipWith, List.getElem?_map]
  by_cases hi : i < c.length
  · rw [List.getElem?_eq_getElem (by simpa using hi), List.getElem?_eq_getElem hi]
    simp
  · rw [List.getElem?_eq_none (by simpa using hi), List.getElem?_eq_none (by omega)]
    rfl
theorem good_zero (n : Nat) (h2 : n ≤ 256) : good (List.replicate n 48) = true := by
  simp only [good, Bool.and_eq_true, decide_eq_true_eq, List.all_eq_true, List.length_replicate]
  refine ⟨by omega, fun y hy => ?_⟩
  rw [List.eq_of_mem_replicate hy]
  decide
set_option maxRecDepth 100000 in
set_option maxHeartbeats 4000000 in
theorem dLeast_any (b lim : Int) (V : Value) (Ts : List (List UInt8 × List (List UInt8))) (w : World) (h : RSR w V Ts) (hg : gdS Ts) (hs : szC Ts ≤ 128) (hx0 : ∀ x ∈ xpL b lim Ts, x ≠ [] ∧ x.length ≤ 256) (hx1 : (xpL b lim Ts).length ≤ 4096) (hx2 : ¬ xpE b lim Ts = 0 → xpL b lim Ts = []) :
    Calls Tryz.prog 13 #[.agg #[.int .i64 b, V], .int .i64 lim] w fun e w' => e = .returned (.tuple #[.string ⟨(mnL (xpL b lim Ts)).toArray⟩, .bool (!(((xpL b lim Ts).length : Int) == 0)), .int .i64 (xpE b lim Ts)]) ∧ Below w.heap.size w w' := by
  obtain ⟨p, k, rfl⟩ := h.shape
  obtain ⟨n0, hn0⟩ : ∃ n, Ts.length = n := ⟨_, rfl⟩
  rw [hn0] at h ⊢
  obtain ⟨w2, hw2⟩ : ∃ w2, w.alloc (.cells #[.int .i64 b, .slice p n0 k] 27 (0, 0)) = w2 := ⟨_, rfl⟩
  have e1 : w2.heap[w.heap.size]? = some (.cells #[.int .i64 b, .slice p n0 k] 27 (0, 0)) := by rw [← hw2]; exact alloc_get _ _
  have hB : Below w.heap.size w w2 := by rw [← hw2]; exact belA (Below.refl _ _) _
  have hc1 := (cells_block e1).1
  have HX : Hid (Calls Tryz.prog 9 #[.agg #[.int .i64 b, .slice p n0 k], .int .i64 lim] w2 fun e w' => ∃ v, e = .returned (.tuple #[v, .int .i64 (xpE b lim Ts)]) ∧ w'.ownsRow w2.heap.size 9 1 v (xpL b lim Ts).length (stx (xpL b lim Ts)) ∧ Below w2.heap.size w2 w') := by
    refine (dExpand_any b lim _ Ts w2 (h.later hB) hg hs).mono ?_
    rintro e w' ⟨v, E, L, rfl, ⟨rfl, rfl⟩, h1, h2⟩
    exact ⟨v, rfl, h1, h2⟩
  obtain ⟨E, hE⟩ : ∃ B, xpE b lim Ts = B := ⟨_, rfl⟩
  obtain ⟨L, hL⟩ : ∃ B, xpL b lim Ts = B := ⟨_, rfl⟩
  rw [hE, hL] at HX
  rw [hE] at hx2
  rw [hL] at hx0 hx1 hx2
  rw [hE, hL]
  obtain ⟨n, hn⟩ : ∃ n, L.length = n := ⟨_, rfl⟩
  rw [hn] at HX hx1 ⊢
  have HN : Hid (L.length = n ∧ (∀ x ∈ L, x ≠ [] ∧ x.length ≤ 256)) := ⟨hn, hx0⟩
  have HE : Hid (¬ E = 0 → L = []) := hx2
  have HB : Hid (Below w.heap.size w w2) := hB
  clear h hg hs hx0 hx2 hE hL hn hn0 e1 hB
  go_enter Tryz.func13, Tryz.ntmps13
  go_wp2_with fail
  refine HX.out.mono ?_
  rintro e w3 ⟨v3, rfl, o3, hb3⟩
  obtain ⟨p3, k3, rfl⟩ := shapeQ1 o3
  have HO : Hid (IRSt w3 p3 L) := IRSt_own o3 HN.out.1
  have HB3 : Hid (Below w.heap.size w w3) := bel0 HB.out hb3
  clear HX hc1 hw2 o3 hb3
  cases hE0 : (E != 0) with
  | true =>
    have hLe := HE.out (by rw [bne_iff_ne] at hE0; exact hE0)
    subst hLe
    have hn : n = 0 := HN.out.1.symm
    subst hn
    go_wp2_with fail
    go_ret3
    exact ⟨rfl, HB3.out⟩
  | false =>
    have hE1 : E = 0 := by simpa using hE0
    cases hn0 : ((n : Int) == 0) with
    | true =>
      have hn : n = 0 := by have := beq_iff_eq.1 hn0; omega
      subst hn
      have hLe : L = [] := List.eq_nil_of_length_eq_zero HN.out.1
      subst hLe
      subst hE1
      go_wp2_with fail
      go_ret3
      exact ⟨rfl, HB3.out⟩
    | false =>
      have hnp : 0 < n := by
        have : ¬ (n : Int) = 0 := by rw [← beq_iff_eq, hn0]; simp
        omega
      have jn : (0 : Int) < (n : Int) := by omega
      have jz : ¬ n = 0 := by omega
      obtain ⟨x0, hx0⟩ : ∃ x, L[0]? = some x := ⟨_, List.getElem?_eq_getElem (by rw [HN.out.1]; exact hnp)⟩
      obtain ⟨g, o0, rfl, c0⟩ := HO.out w3 (Below.refl _ _) 0 x0 hx0
      rw [Nat.add_zero] at c0
      have HL0 := dleast_any x0 w3 (HN.out.2 x0 (List.mem_of_getElem? hx0)).2
      have HM0 : Hid (lsT x0 = mnL (L.take 1)) := by
        unfold Hid
        rw [show L.take 1 = L.take (0 + 1) from rfl, List.take_add_one, hx0]
        exact (mnL_one x0).symm
      rw [HM0.out] at HL0
      clear hx0 HM0 hE0
      subst hE1
      go_wp2_with fail
      refine HL0.mono ?_
      rintro e w4 ⟨rfl, hb4⟩
      clear HL0 c0
      have HB4 : Hid (Below w3.heap.size w3 w4) := hb4
      clear hb4
      go_wp2_with fail
      go_loopw [9, 10] (fun v9 v10 wr => ∃ i : Nat, v10 = .int .i64 (i : Int) ∧ 1 ≤ i ∧ i ≤ n ∧ v9 = .string ⟨(mnL (L.take i)).toArray⟩ ∧ Below w3.heap.size w3 wr) (fun _ v10 _ => n - (intOf v10).toNat)
      case atStart => exact ⟨1, rfl, Nat.le_refl _, hnp, rfl, HB4.out⟩
      case round =>
        obtain ⟨i, rfl, hi1, hi, rfl, hB⟩ := hrel
        by_cases hlt : i < n
        · have i1 : (i : Int) < (n : Int) := by omega
          have i0 : (0 : Int) ≤ (i : Int) := by omega
          obtain ⟨x, hx⟩ : ∃ x, L[i]? = some x := ⟨_, List.getElem?_eq_getElem (by rw [HN.out.1]; exact hlt)⟩
          obtain ⟨g', o', e', c0⟩ := HO.out wr hB i x hx
          injection e' with e'
          injection e' with e1 e2 _
          subst e1
          subst e2
          have HL1 := dleast_any x wr (HN.out.2 x (List.mem_of_getElem? hx)).2
          obtain ⟨a, ha⟩ : ∃ a, mnL (L.take i) = a := ⟨_, rfl⟩
          obtain ⟨y, hy⟩ : ∃ y, lsT x = y := ⟨_, rfl⟩
          obtain ⟨q, hq⟩ : ∃ q, Op.bytesLess y a = q := ⟨_, rfl⟩
          have hane : a ≠ [] := by
            rw [← ha]
            refine mnL_ne _ (fun z hz => (HN.out.2 z (List.mem_of_mem_take hz)).1) (fun e => ?_)
            have := congrArg List.length e
            rw [List.length_take, HN.out.1] at this
            simp at this
            omega
          have HS : Hid (mnL (L.take (i + 1)) = if q = true then y else a) := by
            unfold Hid
            rw [mnL_take hx, ha, hy]
            unfold mnF ltS
            rw [if_neg hane, hq]
          rw [hy] at HL1
          rw [ha]
          clear hx ha hy hane
          go_wp2_with fail
          refine HL1.mono ?_
          rintro e w5 ⟨rfl, hb5⟩
          have HB5 : Hid (Below w3.heap.size w3 w5) := bel0 hB hb5
          clear HL1 c0 hb5
          cases q with
          | true =>
            go_wp2_with fail
            go_roundw
            case rel => exact ⟨i + 1, by go_num, by omega, by omega, by rw [HS.out]; rfl, HB5.out⟩
            case measure => simp [intOf]; omega
          | false =>
            go_wp2_with fail
            go_roundw
            case rel => exact ⟨i + 1, by go_num, by omega, by omega, by rw [HS.out]; rfl, HB5.out⟩
            case measure => simp [intOf]; omega
        · have i1 : ¬ (i : Int) < (n : Int) := by omega
          obtain rfl : i = n := by omega
          have et : L.take i = L := List.take_of_length_le (by rw [HN.out.1]; exact Nat.le_refl _)
          rw [et]
          go_wp2_with fail
          go_ret3
          exact ⟨rfl, bel0 HB3.out hB⟩
end Go.Proofs.YtccbfaembcefjaaGreatDoor
