import Derived.Test.YtggifkdgkjmljaaGreatDoorZ40
import Derived.Test.YtggifkdgkjmljaaGreatDoorZ41
namespace Go.Proofs.YtggifkdgkjmljaaGreatDoor
open Go.RowKit Go.Shelf
theorem good_seven : goodT 4 [55] := by
  have k0 : kl [55] 0 = 4 := by decide
  have w1 : inW [55] (0 + 1) = false := by decide
  have d1 : dotA [55] (0 + 1) 4 = false := by decide
  have hn : nrun [55] (0 + 1) = 1 := nrun_no (by rw [w1, d1]; rfl)
  have hC : tokC [55] 0 = (4, 1) := by
    unfold tokC endF
    rw [if_neg (by omega), if_pos k0, if_neg (by decide), if_neg (by decide), if_pos rfl, hn]
  have hN : numN [55] = some 7 := by decide
  refine ⟨by decide, by omega, by omega, by omega, hC, ?_⟩
  unfold tokE
  rw [if_neg (by omega), hC]
  show faultE 4 [55] = 0
  unfold faultE valE
  rw [if_neg (by decide), if_pos rfl, if_neg (by decide), hN]
  rfl
abbrev mark1 : ITok := (101, [109, 97, 114, 107], 1, -1)
abbrev mark2 : ITok := (102, [109, 97, 114, 107], 2, -2)
theorem mark_1 (w : World) : Calls Tryz.prog 4 #[.int .i64 1] w fun e w' => e = .returned (.agg #[.int .i64 101, .string ⟨#[109, 97, 114, 107]⟩, .int .i64 1, .int .i64 (-1)]) ∧ Below w.heap.size w w' := mark_any 1 w (by decide)
theorem mark_2 (w : World) : Calls Tryz.prog 4 #[.int .i64 2] w fun e w' => e = .returned (.agg #[.int .i64 102, .string ⟨#[109, 97, 114, 107]⟩, .int .i64 2, .int .i64 (-2)]) ∧ Below w.heap.size w w' := mark_any 2 w (by decide)
abbrev headL : List ITok := [(4, [55], 0, 0), (1, [10], 0, 0)]
theorem print_head : printM headL = ([55, 10], 0) := by
  have t1 : tokB (4, [55], 0, 0) = true := tokB_good good_seven (by decide)
  have t2 : tokB (1, [10], 0, 0) = true := rfl
  have hl : linF 1 headL = true := by
    rw [linF, t1, linF, t2]
    rfl
  have hj : joinB (4, [55], 0, 0) (1, [10], 0, 0) = true := by decide
  unfold printM
  rw [if_neg (by decide), hl, if_neg (by decide)]
  rw [prF, if_neg (by decide), prF, gapB, hj, if_pos rfl]
  decide
theorem IR_head (w : World) : IR (w.alloc (Obj.cells #[.int .i64 4, .string ⟨#[55]⟩, .int .i64 0, .int .i64 0, .int .i64 1, .string ⟨#[10]⟩, .int .i64 0, .int .i64 0] 24)) (some ⟨w.heap.size, 0, none⟩) headL := fun W hW k t ht => by
  have hk := keepblk hW (alloc_get _ _)
  match k, ht with
  | 0, ht =>
    obtain rfl := Option.some.inj ht
    exact ⟨_, 0, rfl, cell_of_row W _ 0 _ _ _ hk, cell_of_row W _ 1 _ _ _ hk, cell_of_row W _ 2 _ _ _ hk, cell_of_row W _ 3 _ _ _ hk⟩
  | 1, ht =>
    obtain rfl := Option.some.inj ht
    exact ⟨_, 0, rfl, cell_of_row W _ 4 _ _ _ hk, cell_of_row W _ 5 _ _ _ hk, cell_of_row W _ 6 _ _ _ hk, cell_of_row W _ 7 _ _ _ hk⟩
  | k + 2, ht => simp at ht
set_option maxRecDepth 100000 in
set_option maxHeartbeats 8000000 in
theorem scanPrints_walk (L : List ITok) (n : Nat) (ad : Option Addr) (cap : Nat) (w : World) (hLn : L.length = n) (hlb : n * 40 ≤ 140737488355328) (hstr : ∀ t ∈ L, t.2.1.length ≤ 281474976710656) (hcell : IR w ad L) (hv1 : SH w) (hv4 : SG w) (hv5 : VW w) (hg : SR w) (hj : JT w) :
    Calls Tryz.prog 3 #[.slice ad n cap] w fun e w' => e = .returned (.bool true) ∧ Below w.heap.size w w' := by
  obtain ⟨i0, hi, hz0, hz1, hz2⟩ := info_parts info_tok
  have HLN : Hid (L.length = n) := hLn
  have HR : Hid (IR w ad L) := hcell
  have HX : Hid (∀ t ∈ L, t.2.1.length ≤ 281474976710656) := hstr
  have HV : Hid (SH w ∧ SG w ∧ VW w ∧ SR w ∧ JT w) := ⟨hv1, hv4, hv5, hg, hj⟩
  clear hLn hcell hstr hv1 hv4 hv5 hg hj
  go_enter Tryz.func3, Tryz.ntmps3
  go_wp2_with (at_make; first | (refine wpList_make_full _ rfl _ _ 22 rfl w.heap.size 24 i0 (.agg #[.int .i64 0, .string ⟨#[]⟩, .int .i64 0, .int .i64 0]) 4 Tryz.underlying22 hi hz0 hz1 .i64 .i64 _ _ n rfl rfl rfl rfl (by rw [hz2]; omega) (by unfold maxLen; omega) (Nat.le_refl _) ?_; intro w1 hO1 hg1) | (refine wpList_make_full _ rfl _ _ 22 rfl w.heap.size 24 i0 (.agg #[.int .i64 0, .string ⟨#[]⟩, .int .i64 0, .int .i64 0]) 4 Tryz.underlying22 hi hz0 hz1 .i64 .i64 _ _ (n + 2) rfl rfl (by omega) (by omega) (by rw [hz2]; omega) (by unfold maxLen; omega) hg1.size ?_; intro w2 hO2 hg2))
  rw [iels_made] at hO1 hO2
  have hlt1 : w.heap.size < w1.heap.size := (hO1.lt _ rfl).2
  have O1 : Hid (w2.ownsRow w.heap.size 24 4 (.slice (some ⟨w.heap.size, 0, none⟩) n n) n (iels (List.replicate n zeroT))) := hO1.kept hg2 (.inr (by simp [Value.ownBlock]))
  have O2 : Hid (w2.ownsRow w.heap.size 24 4 (.slice (some ⟨w1.heap.size, 0, none⟩) (n + 2) (n + 2)) (n + 2) (iels (List.replicate (n + 2) zeroT))) := hO2
  have B2 : Hid (Below w.heap.size w w2) := ((Below.refl _ _).grown hg1 (Nat.le_refl _) (fun k e => by cases e)).grown hg2 hg1.size (fun k e => by cases e)
  clear hO1 hO2 hg1 hg2
  obtain ⟨G2, hG2⟩ : ∃ G, w1.heap.size = G := ⟨_, rfl⟩
  rw [hG2] at hlt1 O2
  try rw [hG2]
  go_loopw [5] (fun vk wr => ∃ k : Nat, k ≤ n ∧ vk = .int .i64 k ∧ wr.ownsRow w.heap.size 24 4 (.slice (some ⟨w.heap.size, 0, none⟩) n n) n (iels (L.take k ++ List.replicate (n - k) zeroT)) ∧ wr.ownsRow w.heap.size 24 4 (.slice (some ⟨G2, 0, none⟩) (n + 2) (n + 2)) (n + 2) (iels (L.take k ++ List.replicate (n + 2 - k) zeroT)) ∧ Below w.heap.size w wr) (fun vk _ => n - (intOf vk).toNat)
  case atStart => exact ⟨0, Nat.zero_le _, rfl, O1.out, O2.out, B2.out⟩
  case round =>
    clear O1 O2 B2
    obtain ⟨k, hk, rfl, o1, o2, hB⟩ := hrel
    by_cases hlt : k < n
    · have j1 : (k : Int) < (n : Int) := by omega
      have j0 : (0 : Int) ≤ (k : Int) := by omega
      have j2 : (k : Int) < (n : Int) + 2 := by omega
      obtain ⟨t, ht⟩ : ∃ t, L[k]? = some t := ⟨_, List.getElem?_eq_getElem (by rw [HLN.out]; exact hlt)⟩
      have htl : (L.take k).length = k := by rw [List.length_take, HLN.out]; omega
      have e1 : n - k = (n - (k + 1)) + 1 := by omega
      have e2 : n + 2 - k = (n + 2 - (k + 1)) + 1 := by omega
      have f1 := fill_set L k (n - (k + 1)) ht
      have f2 := fill_set L k (n + 2 - (k + 1)) ht
      rw [← e1] at f1
      rw [← e2] at f2
      have l1 : k < (L.take k ++ List.replicate (n - k) zeroT).length := by rw [List.length_append, htl, List.length_replicate]; omega
      have l2 : k < (L.take k ++ List.replicate (n + 2 - k) zeroT).length := by rw [List.length_append, htl, List.length_replicate]; omega
      obtain ⟨zt1, hzt1⟩ : ∃ z, (L.take k ++ List.replicate (n - k) zeroT)[k]? = some z := ⟨_, List.getElem?_eq_getElem l1⟩
      obtain ⟨zt2, hzt2⟩ : ∃ z, (L.take k ++ List.replicate (n + 2 - k) zeroT)[k]? = some z := ⟨_, List.getElem?_eq_getElem l2⟩
      obtain ⟨x0, x1, x2, x3⟩ := itok_cell o1 hzt1
      have q1 := put4k_own t o1 l1
      rw [f1] at q1
      have o2' := o2.kept q1.2 (.inr (by simp [Value.ownBlock]; omega))
      have q2 := put4k_own t o2' l2
      rw [f2] at q2
      have hB1 : Below w.heap.size w (put4k wr w.heap.size k t) := hB.grown q1.2 hB.size (fun k e => by injection e with e; omega)
      have hB2 : Hid (Below w.heap.size w (put4k (put4k wr w.heap.size k t) G2 k t)) := hB1.grown q2.2 hB1.size (fun k e => by injection e with e; omega)
      have Q1 : Hid ((put4k (put4k wr w.heap.size k t) G2 k t).ownsRow w.heap.size 24 4 (.slice (some ⟨w.heap.size, 0, none⟩) n n) n (iels (L.take (k + 1) ++ List.replicate (n - (k + 1)) zeroT))) := q1.1.kept q2.2 (.inr (by simp [Value.ownBlock]; omega))
      have Q2 : Hid ((put4k (put4k wr w.heap.size k t) G2 k t).ownsRow w.heap.size 24 4 (.slice (some ⟨G2, 0, none⟩) (n + 2) (n + 2)) (n + 2) (iels (L.take (k + 1) ++ List.replicate (n + 2 - (k + 1)) zeroT))) := q2.1
      have fr1 : ∀ j, wr.frozen? ⟨w.heap.size, j, none⟩ = false := o1.frozenAt
      have fr2 : ∀ j, (put4k wr w.heap.size k t).frozen? ⟨G2, j, none⟩ = false := o2'.frozenAt
      obtain ⟨y0, y1, y2, y3⟩ := itok_cell o2' hzt2
      obtain ⟨g, o0, rfl, p0, p1, p2, p3⟩ := HR.out wr hB k t ht
      obtain ⟨g', o0', hgg, r0, r1, r2, r3⟩ := HR.out _ hB1 k t ht
      obtain ⟨rfl, rfl⟩ : g = g' ∧ o0 = o0' := by
        injection hgg with hgg
        injection hgg with h1 h2
        exact ⟨h1, h2⟩
      obtain ⟨a, x, ln, cl⟩ := t
      simp only at p0 p1 p2 p3 r0 r1 r2 r3
      clear q1 q2 o1 o2 o2' f1 f2 e1 e2 htl l1 l2 ht hgg hzt1 hzt2
      unfold put4k at r0 r1 r2 r3 fr2 y0 y1 y2 y3
      simp only at r0 r1 r2 r3 fr2 y0 y1 y2 y3
      go_wp2_with fail
      go_roundw
      case rel => exact ⟨k + 1, by omega, by go_num, Q1.out, Q2.out, hB2.out⟩
      case measure => simp [intOf]; omega
    · obtain rfl : k = n := by omega
      have j1 : ¬ (k : Int) < (k : Int) := by omega
      have jn0 : (0 : Int) ≤ (k : Int) := by omega
      have jn1 : (k : Int) ≤ (k : Int) + 2 := by omega
      have jn2 : (k : Int) < (k : Int) + 2 := by omega
      have jn3 : (k : Int) + 1 < (k : Int) + 2 := by omega
      have jn4 : (0 : Int) ≤ (k : Int) + 1 := by omega
      have c1 : L.take k ++ List.replicate (k - k) zeroT = L := by
        rw [Nat.sub_self, List.take_of_length_le (by rw [HLN.out]; exact Nat.le_refl _)]
        simp
      have c2 : L.take k ++ List.replicate (k + 2 - k) zeroT = L ++ [zeroT, zeroT] := by
        rw [List.take_of_length_le (by rw [HLN.out]; exact Nat.le_refl _), show k + 2 - k = 2 by omega]
        rfl
      rw [c1] at o1
      rw [c2] at o2
      have O1 : Hid (wr.ownsRow w.heap.size 24 4 (.slice (some ⟨w.heap.size, 0, none⟩) k k) k (iels L)) := o1
      have O2 : Hid (wr.ownsRow w.heap.size 24 4 (.slice (some ⟨G2, 0, none⟩) (k + 2) (k + 2)) (k + 2) (iels (L ++ [zeroT, zeroT]))) := o2
      clear o1 o2 c1 c2
      go_wp2_with fail
      refine (mark_1 _).mono ?_
      rintro e W1 ⟨rfl, hb1⟩
      have a1 := owns_below O1.out hb1
      have a2 := owns_below O2.out hb1
      have hB1 := bel0 hB hb1
      obtain ⟨x0, x1, x2, x3⟩ := itok_cell a2 (k := k) (t := zeroT) (by rw [List.getElem?_append_right (by rw [HLN.out]; exact Nat.le_refl _), HLN.out, Nat.sub_self]; rfl)
      have fr1 : ∀ j, W1.frozen? ⟨G2, j, none⟩ = false := a2.frozenAt
      have q1 := put4k_own (k := k) mark1 a2 (by rw [List.length_append, HLN.out]; simp)
      rw [show (L ++ [zeroT, zeroT]).set k mark1 = L ++ [mark1, zeroT] by rw [List.set_append_right _ _ (by rw [HLN.out]; exact Nat.le_refl _), HLN.out, Nat.sub_self]; rfl] at q1
      have A1 : Hid ((put4k W1 G2 k mark1).ownsRow w.heap.size 24 4 (.slice (some ⟨w.heap.size, 0, none⟩) k k) k (iels L)) := a1.kept q1.2 (.inr (by simp [Value.ownBlock]; omega))
      have A2 : Hid ((put4k W1 G2 k mark1).ownsRow w.heap.size 24 4 (.slice (some ⟨G2, 0, none⟩) (k + 2) (k + 2)) (k + 2) (iels (L ++ [mark1, zeroT]))) := q1.1
      have AB : Hid (Below w.heap.size w (put4k W1 G2 k mark1)) := hB1.grown q1.2 hB1.size (fun k e => by injection e with e; omega)
      clear a1 a2 q1 hb1 hB1 hB
      go_wp2_with fail
      refine (mark_2 _).mono ?_
      rintro e W2 ⟨rfl, hb2⟩
      have hb2' : Below (put4k W1 G2 k mark1).heap.size (put4k W1 G2 k mark1) W2 := hb2
      have a1 := owns_below A1.out hb2'
      have a2 := owns_below A2.out hb2'
      have hB2 := bel0 AB.out hb2'
      clear x0 x1 x2 x3 fr1 hb2 hb2'
      obtain ⟨x0, x1, x2, x3⟩ := itok_cell a2 (k := k + 1) (t := zeroT) (by rw [List.getElem?_append_right (by rw [HLN.out]; omega), HLN.out, Nat.add_sub_cancel_left]; rfl)
      have fr2 : ∀ j, W2.frozen? ⟨G2, j, none⟩ = false := a2.frozenAt
      have q2 := put4k_own (k := k + 1) mark2 a2 (by rw [List.length_append, HLN.out]; simp)
      rw [show (L ++ [mark1, zeroT]).set (k + 1) mark2 = L ++ [mark1, mark2] by rw [List.set_append_right _ _ (by rw [HLN.out]; omega), HLN.out, Nat.add_sub_cancel_left]; rfl] at q2
      have C1 : Hid ((put4k W2 G2 (k + 1) mark2).ownsRow w.heap.size 24 4 (.slice (some ⟨w.heap.size, 0, none⟩) k k) k (iels L)) := a1.kept q2.2 (.inr (by simp [Value.ownBlock]; omega))
      have C2 : Hid ((put4k W2 G2 (k + 1) mark2).ownsRow w.heap.size 24 4 (.slice (some ⟨G2, 0, none⟩) (k + 2) (k + 2)) (k + 2) (iels (L ++ [mark1, mark2]))) := q2.1
      have CB : Hid (Below w.heap.size w (put4k W2 G2 (k + 1) mark2)) := hB2.grown q2.2 hB2.size (fun k e => by injection e with e; omega)
      have HIRR : Hid (∀ W : World, W.ownsRow w.heap.size 24 4 (.slice (some ⟨G2, 0, none⟩) (k + 2) (k + 2)) (k + 2) (iels (L ++ [mark1, mark2])) → IR W (some ⟨G2, 0, none⟩) L) := fun W h => IR_own h (fun j t ht => by rw [List.getElem?_append_left (List.getElem?_eq_some_iff.1 ht).1]; exact ht)
      have HIRW : Hid (∀ W : World, W.ownsRow w.heap.size 24 4 (.slice (some ⟨w.heap.size, 0, none⟩) k k) k (iels L) → IR W (some ⟨w.heap.size, 0, none⟩) L) := fun W h => IR_own h (fun j t ht => ht)
      obtain ⟨r, hr⟩ : ∃ r, printM L = r := ⟨_, rfl⟩
      have HP : Hid (∀ (W : World) (o : Option Addr) (c : Nat), Below w.heap.size w W → IR W o L → Calls Tryz.prog 5 #[.slice o k c] W fun e w' => e = .returned (.tuple #[.string ⟨r.1.toArray⟩, .int .i64 (r.2 : Int)]) ∧ Below W.heap.size W w') := fun W o c hW hI => by
        obtain ⟨g1, g2, g3, g4, g5⟩ := HV.out
        rw [← HLN.out, ← hr]
        exact print_any L o c W (by rw [HLN.out]; omega) HX.out hI (g1.below hW) (g2.below hW) (g3.below hW) (g5.below hW)
      have HF : Hid (∀ (W : World) (o : Option Addr) (c : Nat), Below w.heap.size w W → IR W o L → Calls Tryz.prog 6 #[.slice o k c] W fun e w' => e = .returned (.tuple #[.string ⟨r.1.toArray⟩, .int .i64 (r.2 : Int)]) ∧ Below W.heap.size W w') := fun W o c hW hI => by
        obtain ⟨g1, g2, g3, g4, g5⟩ := HV.out
        rw [← HLN.out, ← hr]
        exact refPrint_any L o c W (by rw [HLN.out]; omega) HX.out hI (g4.below hW)
      have HSA : Hid (∀ (W : World), IR W (some ⟨G2, 0, none⟩) L → IR W (some ⟨w.heap.size, 0, none⟩) L → Calls Tryz.prog 7 #[.slice (some ⟨G2, 0, none⟩) k (k + 2), .slice (some ⟨w.heap.size, 0, none⟩) k k] W fun e w' => e = .returned (.bool true) ∧ Below W.heap.size W w') := fun W i1 i2 => by
        have := sameAllI_any L (some ⟨G2, 0, none⟩) (some ⟨w.heap.size, 0, none⟩) (k + 2) k W (by rw [HLN.out]; omega) i1 i2
        rw [HLN.out] at this
        exact this
      obtain ⟨ps, pe⟩ := r
      simp only at HP HF
      clear a1 a2 q2 hB2 hr A1 A2 AB O1 O2
      go_wp2_with fail
      refine (HP.out _ _ _ CB.out (HIRR.out _ C2.out)).mono ?_
      rintro e W4 ⟨rfl, hb4⟩
      have D1 : Hid (W4.ownsRow w.heap.size 24 4 (.slice (some ⟨w.heap.size, 0, none⟩) k k) k (iels L)) := owns_below C1.out hb4
      have D2 : Hid (W4.ownsRow w.heap.size 24 4 (.slice (some ⟨G2, 0, none⟩) (k + 2) (k + 2)) (k + 2) (iels (L ++ [mark1, mark2]))) := owns_below C2.out hb4
      have DB : Hid (Below w.heap.size w W4) := bel0 CB.out hb4
      clear C1 C2 CB hb4 x0 x1 x2 x3 fr2
      go_wp2_with fail
      refine (HF.out _ _ _ DB.out (HIRW.out _ D1.out)).mono ?_
      rintro e W5 ⟨rfl, hb5⟩
      have E1 : Hid (W5.ownsRow w.heap.size 24 4 (.slice (some ⟨w.heap.size, 0, none⟩) k k) k (iels L)) := owns_below D1.out hb5
      have E2 : Hid (W5.ownsRow w.heap.size 24 4 (.slice (some ⟨G2, 0, none⟩) (k + 2) (k + 2)) (k + 2) (iels (L ++ [mark1, mark2]))) := owns_below D2.out hb5
      have EB : Hid (Below w.heap.size w W5) := bel0 DB.out hb5
      have XM1 : Hid (∀ W : World, Below W5.heap.size W5 W → W.cell? ⟨G2, k * 4, none⟩ = some (.int .i64 101) ∧ W.cell? ⟨G2, k * 4 + 1, none⟩ = some (.string ⟨#[109, 97, 114, 107]⟩) ∧ W.cell? ⟨G2, k * 4 + 2, none⟩ = some (.int .i64 1) ∧ W.cell? ⟨G2, k * 4 + 3, none⟩ = some (.int .i64 (-1))) := fun W hW => itok_cell (owns_below E2.out hW) (k := k) (t := mark1) (by rw [List.getElem?_append_right (by rw [HLN.out]; exact Nat.le_refl _), HLN.out, Nat.sub_self]; rfl)
      have XM2 : Hid (∀ W : World, Below W5.heap.size W5 W → W.cell? ⟨G2, (k + 1) * 4, none⟩ = some (.int .i64 102) ∧ W.cell? ⟨G2, (k + 1) * 4 + 1, none⟩ = some (.string ⟨#[109, 97, 114, 107]⟩) ∧ W.cell? ⟨G2, (k + 1) * 4 + 2, none⟩ = some (.int .i64 2) ∧ W.cell? ⟨G2, (k + 1) * 4 + 3, none⟩ = some (.int .i64 (-2))) := fun W hW => itok_cell (owns_below E2.out hW) (k := k + 1) (t := mark2) (by rw [List.getElem?_append_right (by rw [HLN.out]; omega), HLN.out, Nat.add_sub_cancel_left]; rfl)
      have HS1 : Hid (∀ W : World, Calls Tryz.prog 8 #[.agg #[.int .i64 101, .string ⟨#[109, 97, 114, 107]⟩, .int .i64 1, .int .i64 (-1)], .agg #[.int .i64 101, .string ⟨#[109, 97, 114, 107]⟩, .int .i64 1, .int .i64 (-1)]] W fun e w' => e = .returned (.bool true) ∧ Below W.heap.size W w') := fun W => sameI_any mark1 W
      have HS2 : Hid (∀ W : World, Calls Tryz.prog 8 #[.agg #[.int .i64 102, .string ⟨#[109, 97, 114, 107]⟩, .int .i64 2, .int .i64 (-2)], .agg #[.int .i64 102, .string ⟨#[109, 97, 114, 107]⟩, .int .i64 2, .int .i64 (-2)]] W fun e w' => e = .returned (.bool true) ∧ Below W.heap.size W w') := fun W => sameI_any mark2 W
      have ys : (ps != ps) = false := by simp
      clear D1 D2 DB hb5 HP HF
      go_wp2_with fail
      refine quiet_lit3 (C := fun W => Below W5.heap.size W5 W) (by kernel_rfl) (by kernel_rfl) (show Below _ _ _ from (Below.refl _ _).drew) ?_
      go_big_quiet_want
      go_big_quiet_op
      go_big_quiet_on
      go_big_quiet_want
      go_big_quiet_op
      go_big_quiet_on
      go_big_quiet_want
      refine ⟨.bool false, fun W hW => ?_, ?_⟩
      · go_simp
      go_big_quiet_on
      simp only [Act.put, List.setIfInBounds_toArray, List.set_cons_zero, List.set_cons_succ]
      go_big_quiet_want
      go_big_quiet_op
      go_big_quiet_on
      go_big_quiet_want
      go_big_quiet_op
      go_big_quiet_on
      go_big_quiet_want
      go_big_quiet_op
      go_big_quiet_on
      go_big_quiet_want
      refine ⟨.bool false, fun W hW => ?_, ?_⟩
      · go_simp
      go_big_quiet_on
      simp only [Act.put, List.setIfInBounds_toArray, List.set_cons_zero, List.set_cons_succ]
      go_big_quiet_want
      refine ⟨.bool false, fun W hW => ?_, ?_⟩
      · go_simp
      go_big_quiet_on
      simp only [Act.put, List.setIfInBounds_toArray, List.set_cons_zero, List.set_cons_succ]
      go_big_quiet_want
      go_big_quiet_op
      go_big_quiet_on
      go_big_quiet_want
      go_big_quiet_op
      go_big_quiet_on
      go_big_quiet_want
      go_big_quiet_op
      go_big_quiet_on
      go_big_quiet_want
      refine ⟨.int .i64 (k : Int), fun W hW => ?_, ?_⟩
      · go_simp
      go_big_quiet_on
      simp only [Act.put, List.setIfInBounds_toArray, List.set_cons_zero, List.set_cons_succ]
      go_big_quiet_want
      refine ⟨.slice (some ⟨G2, 0, none⟩) k (k + 2), fun W hW => ?_, ?_⟩
      · go_simp
      go_big_quiet_on
      simp only [Act.put, List.setIfInBounds_toArray, List.set_cons_zero, List.set_cons_succ]
      go_big_quiet_want
      go_big_quiet_op
      go_big_quiet_on
      go_big_quiet_want
      refine ⟨.bool true, fun W hW => ?_, ?_⟩
      · go_simp
        refine (HSA.out W (HIRR.out _ (owns_below E2.out hW)) (HIRW.out _ (owns_below E1.out hW))).mono ?_
        rintro e w7 ⟨rfl, hb⟩
        exact ⟨rfl, bel0 hW hb⟩
      go_big_quiet_on
      simp only [Act.put, List.setIfInBounds_toArray, List.set_cons_zero, List.set_cons_succ]
      go_big_quiet_want
      refine ⟨.bool false, fun W hW => ?_, ?_⟩
      · go_simp
      go_big_quiet_on
      simp only [Act.put, List.setIfInBounds_toArray, List.set_cons_zero, List.set_cons_succ]
      go_big_quiet_want
      refine ⟨.bool false, fun W hW => ?_, ?_⟩
      · go_simp
      go_big_quiet_on
      simp only [Act.put, List.setIfInBounds_toArray, List.set_cons_zero, List.set_cons_succ]
      go_big_quiet_want
      go_big_quiet_op
      go_big_quiet_on
      go_big_quiet_want
      go_big_quiet_op
      go_big_quiet_on
      go_big_quiet_want
      go_big_quiet_op
      go_big_quiet_on
      go_big_quiet_want
      refine ⟨.int .i64 (k : Int), fun W hW => ?_, ?_⟩
      · go_simp
      go_big_quiet_on
      simp only [Act.put, List.setIfInBounds_toArray, List.set_cons_zero, List.set_cons_succ]
      go_big_quiet_want
      refine ⟨.pointer (some ⟨G2, k * 4, none⟩), fun W hW => ?_, ?_⟩
      · go_simp
      go_big_quiet_on
      simp only [Act.put, List.setIfInBounds_toArray, List.set_cons_zero, List.set_cons_succ]
      go_big_quiet_want
      refine ⟨.agg #[.int .i64 101, .string ⟨#[109, 97, 114, 107]⟩, .int .i64 1, .int .i64 (-1)], fun W hW => ?_, ?_⟩
      · obtain ⟨z0, z1, z2, z3⟩ := XM1.out W hW
        go_simp
      go_big_quiet_on
      simp only [Act.put, List.setIfInBounds_toArray, List.set_cons_zero, List.set_cons_succ]
      go_big_quiet_want
      refine ⟨.agg #[.int .i64 101, .string ⟨#[109, 97, 114, 107]⟩, .int .i64 1, .int .i64 (-1)], fun W hW => ?_, ?_⟩
      · go_simp
        refine (mark_1 W).mono ?_
        rintro e w7 ⟨rfl, hb⟩
        exact ⟨rfl, bel0 hW hb⟩
      go_big_quiet_on
      simp only [Act.put, List.setIfInBounds_toArray, List.set_cons_zero, List.set_cons_succ]
      go_big_quiet_want
      refine ⟨.bool true, fun W hW => ?_, ?_⟩
      · go_simp
        refine (HS1.out W).mono ?_
        rintro e w7 ⟨rfl, hb⟩
        exact ⟨rfl, bel0 hW hb⟩
      go_big_quiet_on
      simp only [Act.put, List.setIfInBounds_toArray, List.set_cons_zero, List.set_cons_succ]
      go_big_quiet_want
      refine ⟨.bool false, fun W hW => ?_, ?_⟩
      · go_simp
      go_big_quiet_on
      simp only [Act.put, List.setIfInBounds_toArray, List.set_cons_zero, List.set_cons_succ]
      go_big_quiet_want
      refine ⟨.bool false, fun W hW => ?_, ?_⟩
      · go_simp
      go_big_quiet_on
      simp only [Act.put, List.setIfInBounds_toArray, List.set_cons_zero, List.set_cons_succ]
      go_big_quiet_want
      go_big_quiet_op
      go_big_quiet_on
      go_big_quiet_want
      go_big_quiet_op
      go_big_quiet_on
      go_big_quiet_want
      go_big_quiet_op
      go_big_quiet_on
      go_big_quiet_want
      refine ⟨.int .i64 (k : Int), fun W hW => ?_, ?_⟩
      · go_simp
      go_big_quiet_on
      simp only [Act.put, List.setIfInBounds_toArray, List.set_cons_zero, List.set_cons_succ]
      go_big_quiet_want
      refine ⟨.int .i64 ((k : Int) + 1), fun W hW => ?_, ?_⟩
      · go_simp
        rw [IntKind.wrap_i64]
        omega
      go_big_quiet_on
      simp only [Act.put, List.setIfInBounds_toArray, List.set_cons_zero, List.set_cons_succ]
      go_big_quiet_want
      refine ⟨.pointer (some ⟨G2, (k + 1) * 4, none⟩), fun W hW => ?_, ?_⟩
      · go_simp
      go_big_quiet_on
      simp only [Act.put, List.setIfInBounds_toArray, List.set_cons_zero, List.set_cons_succ]
      go_big_quiet_want
      refine ⟨.agg #[.int .i64 102, .string ⟨#[109, 97, 114, 107]⟩, .int .i64 2, .int .i64 (-2)], fun W hW => ?_, ?_⟩
      · obtain ⟨z0, z1, z2, z3⟩ := XM2.out W hW
        go_simp
      go_big_quiet_on
      simp only [Act.put, List.setIfInBounds_toArray, List.set_cons_zero, List.set_cons_succ]
      go_big_quiet_want
      refine ⟨.agg #[.int .i64 102, .string ⟨#[109, 97, 114, 107]⟩, .int .i64 2, .int .i64 (-2)], fun W hW => ?_, ?_⟩
      · go_simp
        refine (mark_2 W).mono ?_
        rintro e w7 ⟨rfl, hb⟩
        exact ⟨rfl, bel0 hW hb⟩
      go_big_quiet_on
      simp only [Act.put, List.setIfInBounds_toArray, List.set_cons_zero, List.set_cons_succ]
      go_big_quiet_want
      refine ⟨.bool true, fun W hW => ?_, ?_⟩
      · go_simp
        refine (HS2.out W).mono ?_
        rintro e w7 ⟨rfl, hb⟩
        exact ⟨rfl, bel0 hW hb⟩
      go_big_quiet_on
      simp only [Act.put, List.setIfInBounds_toArray, List.set_cons_zero, List.set_cons_succ]
      go_big_quiet_want
      refine ⟨.bool false, fun W hW => ?_, ?_⟩
      · go_simp
      go_big_quiet_on
      simp only [Act.put, List.setIfInBounds_toArray, List.set_cons_zero, List.set_cons_succ]
      go_big_quiet_want
      refine ⟨.bool false, fun W hW => ?_, ?_⟩
      · go_simp
      go_big_quiet_on
      simp only [Act.put, List.setIfInBounds_toArray, List.set_cons_zero, List.set_cons_succ]
      refine wpQuiet_nil ?_
      intro W hW
      have hBW := bel0 EB.out hW
      have HP7 : Calls Tryz.prog 5 #[.slice (some ⟨W.heap.size, 0, none⟩) 2 2] (W.alloc (Obj.cells #[.int .i64 4, .string ⟨#[55]⟩, .int .i64 0, .int .i64 0, .int .i64 1, .string ⟨#[10]⟩, .int .i64 0, .int .i64 0] 24)) fun e w' => e = .returned (.tuple #[.string ⟨#[55, 10]⟩, .int .i64 0]) ∧ Below (W.alloc (Obj.cells #[.int .i64 4, .string ⟨#[55]⟩, .int .i64 0, .int .i64 0, .int .i64 1, .string ⟨#[10]⟩, .int .i64 0, .int .i64 0] 24)).heap.size (W.alloc (Obj.cells #[.int .i64 4, .string ⟨#[55]⟩, .int .i64 0, .int .i64 0, .int .i64 1, .string ⟨#[10]⟩, .int .i64 0, .int .i64 0] 24)) w' := by
        obtain ⟨g1, g2, g3, g4, g5⟩ := HV.out
        have hA := hBW.alloc hBW.size (Obj.cells #[.int .i64 4, .string ⟨#[55]⟩, .int .i64 0, .int .i64 0, .int .i64 1, .string ⟨#[10]⟩, .int .i64 0, .int .i64 0] 24)
        have := print_any headL (some ⟨W.heap.size, 0, none⟩) 2 _ (by decide) (by decide) (IR_head W) (g1.below hA) (g2.below hA) (g3.below hA) (g5.below hA)
        rw [print_head] at this
        exact this
      clear XM1 XM2 HS1 HS2 HSA
      go_wp2_with fail
      refine HP7.mono ?_
      rintro e W6 ⟨rfl, hb6⟩
      go_wp2_with fail
      go_ret
      exact ⟨rfl, bel0 (hBW.alloc hBW.size _) hb6⟩
end Go.Proofs.YtggifkdgkjmljaaGreatDoor
