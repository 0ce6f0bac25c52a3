import Derived.Test.YtfcdaljhbeogeaaRQ
import Derived.Test.YtfcdaljhbeogeaaRK
namespace Go.Proofs.Ytfcdaljhbeogeaa
open Go.RowKit
set_option maxRecDepth 100000 in
set_option maxHeartbeats 4000000 in
theorem firstEdges_any {N : Nat} {E : List IRt} {D : List Nat} (hG : Grf N E D) {G : List Int} (hGl : G.length = N) (hGb : ∀ u, gF G u ≤ 159984) (oe : Option Addr) (ce ne gf wb : Nat) (w : World) (hne : E.length = ne) (hE : IRR w oe E) (hF : w.ownsRow wb 3 1 (.slice (some ⟨gf, 0, none⟩) N N) N (iv G)) :
    Calls Try.prog 33 #[.slice oe ne ce, .slice (some ⟨gf, 0, none⟩) N N] w fun e w' => ∃ A : List Int, e = .returned (.slice (some ⟨w.heap.size, 0, none⟩) N N) ∧ Fst E G A ∧ w'.ownsRow w.heap.size 3 1 (.slice (some ⟨w.heap.size, 0, none⟩) N N) N (iv A) ∧ Below w.heap.size w w' := by
  obtain ⟨i0, hi, hz0, hz1, hz2⟩ := info_parts info_int8
  have HG : Hid (Grf N E D ∧ G.length = N ∧ ∀ u, gF G u ≤ 159984) := ⟨hG, hGl, hGb⟩
  have HE : Hid (IRR w oe E) := hE
  have HF : Hid (∀ W, Below w.heap.size w W → W.ownsRow wb 3 1 (.slice (some ⟨gf, 0, none⟩) N N) N (iv G)) := fun W hW => owns_below hF hW
  have HNE : Hid (E.length = ne) := hne
  have hN : N ≤ 16 := hG.nn
  have he48 : ne ≤ 48 := hne ▸ hG.el
  have hgl := (hF.lt gf rfl).2
  clear hG hGl hGb hE hF hne
  go_enter Try.func33, Try.ntmps33
  go_wp2_with (at_make; refine wpList_make_full _ rfl _ _ 23 rfl w.heap.size 3 i0 (.int .i64 0) 1 Try.underlying23 hi hz0 hz1 .i64 .i64 _ _ N rfl rfl rfl rfl (by rw [hz2]; omega) (by unfold maxLen; omega) (Nat.le_refl _) ?_; intro w5 hO5 hg5)
  rw [iv_made, rowF_zero (fun _ => (-1 : Int)) N] at hO5
  have O5 : Hid (w5.ownsRow w.heap.size 3 1 (.slice (some ⟨w.heap.size, 0, none⟩) N N) N (iv (rowF (fun _ => (-1 : Int)) N 0))) := hO5
  have B5 : Hid (Below w.heap.size w w5) := (Below.refl _ _).grown hg5 (Nat.le_refl _) (fun k e => by cases e)
  clear hO5 hg5 hz0 hz1 hz2 hi
  go_loopw [14] (fun vk wr => ∃ k : Nat, vk = .int .i64 (k : Int) ∧ k ≤ N ∧ Hid (wr.ownsRow w.heap.size 3 1 (.slice (some ⟨w.heap.size, 0, none⟩) N N) N (iv (rowF (fun _ => (-1 : Int)) N k))) ∧ Below w.heap.size w wr) (fun vk _ => N - (intOf vk).toNat)
  case atStart => exact ⟨0, rfl, Nat.zero_le _, O5, B5.out⟩
  case round =>
    clear O5 B5
    obtain ⟨k, rfl, hk, hO, hB⟩ := hrel
    by_cases hlt : k < N
    · have j1 : (k : Int) < (N : Int) := by omega
      have j0 : (0 : Int) ≤ (k : Int) := by omega
      have q2 := iv_at hO.out (rowF_at hlt)
      have z2 := hO.out.frozenAt k
      have hst := hO.out.stored k (.int .i64 (-1))
      rw [iv_set, rowF_succ (fun _ => (-1 : Int)) N k] at hst
      have H5 : Hid ((wr.setCell ⟨w.heap.size, k, none⟩ (.int .i64 (-1))).ownsRow w.heap.size 3 1 (.slice (some ⟨w.heap.size, 0, none⟩) N N) N (iv (rowF (fun _ => (-1 : Int)) N (k + 1))) ∧ Below w.heap.size w (wr.setCell ⟨w.heap.size, k, none⟩ (.int .i64 (-1)))) := ⟨hst.1, hB.grown hst.2 hB.size (fun j e => by injection e with e; omega)⟩
      clear hst hO
      go_wp2_with fail
      go_roundw
      case rel => exact ⟨k + 1, by go_num, by omega, H5.out.1, H5.out.2⟩
      case measure => simp [intOf]; omega
    · have j1 : ¬ (k : Int) < (N : Int) := by omega
      obtain rfl : k = N := by omega
      have hO1 := hO.out
      rw [rowF_neg] at hO1
      have HO1 : Hid (wr.ownsRow w.heap.size 3 1 (.slice (some ⟨w.heap.size, 0, none⟩) k k) k (iv (List.replicate k (-1)))) := hO1
      clear hO hO1
      go_wp2_with fail
      go_loopw [23] (fun vi wz => ∃ (i : Nat) (A : List Int), vi = .int .i64 (i : Int) ∧ i ≤ ne ∧ Hid (A.length = k ∧ (∀ v, v < k → IsF E G 0 i v (gF A v)) ∧ wz.ownsRow w.heap.size 3 1 (.slice (some ⟨w.heap.size, 0, none⟩) k k) k (iv A)) ∧ Below w.heap.size w wz) (fun vi _ => ne - (intOf vi).toNat)
      case atStart => exact ⟨0, _, rfl, Nat.zero_le _, ⟨by simp, fun v _ => by rw [gF_rep]; exact IsF.none E G 0 v, HO1.out⟩, hB⟩
      case round =>
        clear HO1 hB
        obtain ⟨i, A, rfl, hin, hA, hB⟩ := hrel
        by_cases hlt2 : i < ne
        · have m1 : (i : Int) < (ne : Int) := by omega
          have m0 : (0 : Int) ≤ (i : Int) := by omega
          obtain ⟨e, hei⟩ : ∃ e, E[i]? = some e := ⟨_, List.getElem?_eq_getElem (by rw [HNE.out]; omega)⟩
          obtain ⟨g1, g2, g3, g4, g5, g6⟩ := HG.out.1.ed e (List.mem_of_getElem? hei)
          obtain ⟨n, hn⟩ : ∃ n : Nat, e.1 = (n : Int) := ⟨e.1.toNat, by omega⟩
          obtain ⟨m, hm⟩ : ∃ m : Nat, e.2.1 = (m : Int) := ⟨e.2.1.toNat, by omega⟩
          have hnk : n < k := by omega
          have hmk : m < k := by omega
          obtain ⟨ge, oo, rfl, -⟩ := HE.out wr hB i e hei
          obtain ⟨p0, p1, p2, p3⟩ := irr_cells HE.out hei hB
          obtain ⟨OB, hOB⟩ : ∃ OB : Obj, Obj.cells #[.int .i64 e.1, .int .i64 e.2.1, .int .i64 e.2.2.1, .int .i64 e.2.2.2] 34 = OB := ⟨_, rfl⟩
          have hR : (wr.alloc OB).heap[wr.heap.size]? = some (.cells #[.int .i64 e.1, .int .i64 e.2.1, .int .i64 e.2.2.1, .int .i64 e.2.2.2] 34 (0, 0)) := by rw [← hOB]; exact alloc_get _ _
          have hBA : Below w.heap.size w (wr.alloc OB) := hB.alloc hB.size _
          have HA3 : Hid ((wr.alloc OB).ownsRow w.heap.size 3 1 (.slice (some ⟨w.heap.size, 0, none⟩) k k) k (iv A)) := hA.out.2.2.alloc _
          have HEI : Hid (E[i]? = some e ∧ e.1.toNat = n ∧ e.2.1.toNat = m) := ⟨hei, by rw [hn]; rfl, by rw [hm]; rfl⟩
          rw [hn] at p0 hR hOB
          rw [hm] at p1 hR hOB
          obtain ⟨c, hc⟩ : ∃ c, e.2.2.1 = c := ⟨_, rfl⟩
          obtain ⟨ou, hou⟩ : ∃ ou, e.2.2.2 = ou := ⟨_, rfl⟩
          have hcb : 1 ≤ c ∧ c ≤ 9999 := by omega
          rw [hc] at p2 hR hOB
          rw [hou] at p3 hR hOB
          have HTG : Hid (tgh G e = (decide (0 ≤ gF G m) && decide (gF G n = gF G m + c))) := by unfold Hid tgh; rw [HEI.out.2.1, HEI.out.2.2, hc]
          clear g1 g2 g3 g4 g5 g6 hei hn hm hc hou
          go_upto_region 10 with fail
          try rw [hOB]
          generalize wr.alloc OB = w3 at hR HA3 hBA ⊢
          generalize wr.heap.size = R at hR ⊢
          clear hOB p0 p1 p2 p3 hB
          obtain ⟨x, hx⟩ : ∃ x, gF A n = x := ⟨_, rfl⟩
          obtain ⟨y, hy⟩ : ∃ y, gF G m = y := ⟨_, rfl⟩
          obtain ⟨z, hz⟩ : ∃ z, gF G n = z := ⟨_, rfl⟩
          have hyb : y ≤ 159984 := hy ▸ HG.out.2.2 m
          have HL : Hid (∀ W, Below w3.heap.size w3 W → W.cell? ⟨R, 0, none⟩ = some (.int .i64 (n : Int)) ∧ W.cell? ⟨R, 1, none⟩ = some (.int .i64 (m : Int)) ∧ W.cell? ⟨R, 2, none⟩ = some (.int .i64 c) ∧ W.cell? ⟨w.heap.size, n, none⟩ = some (.int .i64 x) ∧ W.cell? ⟨gf, m, none⟩ = some (.int .i64 y) ∧ W.cell? ⟨gf, n, none⟩ = some (.int .i64 z)) := fun W hW => by
            have r1 := iv_at (owns_below HA3.out hW) (gF_at (F := A) (v := n) (by rw [hA.out.1]; exact hnk))
            have r2 := iv_at (HF.out W (bel0 hBA hW)) (gF_at (F := G) (v := m) (by rw [HG.out.2.1]; exact hmk))
            have r3 := iv_at (HF.out W (bel0 hBA hW)) (gF_at (F := G) (v := n) (by rw [HG.out.2.1]; exact hnk))
            rw [hx] at r1
            rw [hy] at r2
            rw [hz] at r3
            exact ⟨cell_of_row _ _ 0 _ _ _ (keepblk hW hR), cell_of_row _ _ 1 _ _ _ (keepblk hW hR), cell_of_row _ _ 2 _ _ _ (keepblk hW hR), r1, r2, r3⟩
          rw [hy, hz] at HTG
          have HX : Hid (gF A n = x) := hx
          have n0 : (0 : Int) ≤ (n : Int) := by omega
          have n1 : (n : Int) < (k : Int) := by omega
          have n2 : (0 : Int) ≤ (m : Int) := by omega
          have n3 : (m : Int) < (k : Int) := by omega
          clear hx hy hz
          have HNO : Hid (0 ≤ x ∨ tgh G e = false → ∀ v, v < k → IsF E G 0 (i + 1) v (gF A v)) := fun h v hv => by
            refine (hA.out.2.1 v hv).on_no HEI.out.1 ?_
            by_cases ev : n = v
            · subst ev
              rcases h with h | h
              · exact .inl (by rw [HX.out]; exact h)
              · exact .inr (.inr h)
            · exact .inr (.inl (by rw [HEI.out.2.1]; exact ev))
          by_cases c1 : x < 0
          · by_cases c2 : 0 ≤ y
            · obtain ⟨sm, hsm⟩ : ∃ sm : Int, c + y = sm := ⟨_, rfl⟩
              have esm : IntKind.i64.wrap (c + y) = sm := by rw [IntKind.wrap_i64]; omega
              by_cases c3 : z = sm
              · have e3 : (z == sm) = true := by rw [c3]; exact beq_self_eq_true _
                have HYS : Hid (tgh G e = true) := by unfold Hid; rw [HTG.out, decide_eq_true c2, decide_eq_true (show z = y + c by omega)]; rfl
                clear hsm c3
                refine quiet_lit3 (C := fun W => Below w3.heap.size w3 W) (by kernel_rfl) (by kernel_rfl) (show Below _ _ _ from (Below.refl _ _).drew) ?_
                go_big_quiet_want
                go_big_quiet_op
                go_big_quiet_on
                go_big_quiet_want
                refine ⟨.pointer (some ⟨R, 0, none⟩), fun W hW => ?_, ?_⟩
                · go_simp
                go_big_quiet_on
                simp only [Act.put, List.setIfInBounds_toArray, List.set_cons_zero, List.set_cons_succ]
                go_big_quiet_want
                refine ⟨.int .i64 (n : Int), fun W hW => ?_, ?_⟩
                · obtain ⟨r0, r1, r2, r3, r4, r5⟩ := HL.out W hW
                  go_simp
                go_big_quiet_on
                simp only [Act.put, List.setIfInBounds_toArray, List.set_cons_zero, List.set_cons_succ]
                go_big_quiet_want
                refine ⟨.pointer (some ⟨w.heap.size, n, none⟩), fun W hW => ?_, ?_⟩
                · go_simp
                go_big_quiet_on
                simp only [Act.put, List.setIfInBounds_toArray, List.set_cons_zero, List.set_cons_succ]
                go_big_quiet_want
                refine ⟨.int .i64 x, fun W hW => ?_, ?_⟩
                · obtain ⟨r0, r1, r2, r3, r4, r5⟩ := HL.out W hW
                  go_simp
                go_big_quiet_on
                simp only [Act.put, List.setIfInBounds_toArray, List.set_cons_zero, List.set_cons_succ]
                go_big_quiet_want
                refine ⟨.bool true, fun W hW => ?_, ?_⟩
                · go_simp
                go_big_quiet_on
                simp only [Act.put, List.setIfInBounds_toArray, List.set_cons_zero, List.set_cons_succ]
                go_big_quiet_want
                go_big_quiet_op
                go_big_quiet_on
                go_big_quiet_want
                go_big_quiet_op
                go_big_quiet_on
                go_big_quiet_want
                refine ⟨.pointer (some ⟨R, 1, none⟩), fun W hW => ?_, ?_⟩
                · go_simp
                go_big_quiet_on
                simp only [Act.put, List.setIfInBounds_toArray, List.set_cons_zero, List.set_cons_succ]
                go_big_quiet_want
                refine ⟨.int .i64 (m : Int), fun W hW => ?_, ?_⟩
                · obtain ⟨r0, r1, r2, r3, r4, r5⟩ := HL.out W hW
                  go_simp
                go_big_quiet_on
                simp only [Act.put, List.setIfInBounds_toArray, List.set_cons_zero, List.set_cons_succ]
                go_big_quiet_want
                refine ⟨.pointer (some ⟨gf, m, none⟩), fun W hW => ?_, ?_⟩
                · go_simp
                go_big_quiet_on
                simp only [Act.put, List.setIfInBounds_toArray, List.set_cons_zero, List.set_cons_succ]
                go_big_quiet_want
                refine ⟨.int .i64 y, fun W hW => ?_, ?_⟩
                · obtain ⟨r0, r1, r2, r3, r4, r5⟩ := HL.out W hW
                  go_simp
                go_big_quiet_on
                simp only [Act.put, List.setIfInBounds_toArray, List.set_cons_zero, List.set_cons_succ]
                go_big_quiet_want
                refine ⟨.bool true, fun W hW => ?_, ?_⟩
                · go_simp
                go_big_quiet_on
                simp only [Act.put, List.setIfInBounds_toArray, List.set_cons_zero, List.set_cons_succ]
                go_big_quiet_want
                refine ⟨.bool true, fun W hW => ?_, ?_⟩
                · go_simp
                go_big_quiet_on
                simp only [Act.put, List.setIfInBounds_toArray, List.set_cons_zero, List.set_cons_succ]
                go_big_quiet_want
                go_big_quiet_op
                go_big_quiet_on
                go_big_quiet_want
                go_big_quiet_op
                go_big_quiet_on
                go_big_quiet_want
                refine ⟨.pointer (some ⟨R, 0, none⟩), fun W hW => ?_, ?_⟩
                · go_simp
                go_big_quiet_on
                simp only [Act.put, List.setIfInBounds_toArray, List.set_cons_zero, List.set_cons_succ]
                go_big_quiet_want
                refine ⟨.int .i64 (n : Int), fun W hW => ?_, ?_⟩
                · obtain ⟨r0, r1, r2, r3, r4, r5⟩ := HL.out W hW
                  go_simp
                go_big_quiet_on
                simp only [Act.put, List.setIfInBounds_toArray, List.set_cons_zero, List.set_cons_succ]
                go_big_quiet_want
                refine ⟨.pointer (some ⟨gf, n, none⟩), fun W hW => ?_, ?_⟩
                · go_simp
                go_big_quiet_on
                simp only [Act.put, List.setIfInBounds_toArray, List.set_cons_zero, List.set_cons_succ]
                go_big_quiet_want
                refine ⟨.int .i64 z, fun W hW => ?_, ?_⟩
                · obtain ⟨r0, r1, r2, r3, r4, r5⟩ := HL.out W hW
                  go_simp
                go_big_quiet_on
                simp only [Act.put, List.setIfInBounds_toArray, List.set_cons_zero, List.set_cons_succ]
                go_big_quiet_want
                refine ⟨.pointer (some ⟨R, 2, none⟩), fun W hW => ?_, ?_⟩
                · go_simp
                go_big_quiet_on
                simp only [Act.put, List.setIfInBounds_toArray, List.set_cons_zero, List.set_cons_succ]
                go_big_quiet_want
                refine ⟨.int .i64 c, fun W hW => ?_, ?_⟩
                · obtain ⟨r0, r1, r2, r3, r4, r5⟩ := HL.out W hW
                  go_simp
                go_big_quiet_on
                simp only [Act.put, List.setIfInBounds_toArray, List.set_cons_zero, List.set_cons_succ]
                go_big_quiet_want
                go_big_quiet_op
                go_big_quiet_on
                go_big_quiet_want
                refine ⟨.pointer (some ⟨R, 1, none⟩), fun W hW => ?_, ?_⟩
                · go_simp
                go_big_quiet_on
                simp only [Act.put, List.setIfInBounds_toArray, List.set_cons_zero, List.set_cons_succ]
                go_big_quiet_want
                refine ⟨.int .i64 (m : Int), fun W hW => ?_, ?_⟩
                · obtain ⟨r0, r1, r2, r3, r4, r5⟩ := HL.out W hW
                  go_simp
                go_big_quiet_on
                simp only [Act.put, List.setIfInBounds_toArray, List.set_cons_zero, List.set_cons_succ]
                go_big_quiet_want
                refine ⟨.pointer (some ⟨gf, m, none⟩), fun W hW => ?_, ?_⟩
                · go_simp
                go_big_quiet_on
                simp only [Act.put, List.setIfInBounds_toArray, List.set_cons_zero, List.set_cons_succ]
                go_big_quiet_want
                refine ⟨.int .i64 y, fun W hW => ?_, ?_⟩
                · obtain ⟨r0, r1, r2, r3, r4, r5⟩ := HL.out W hW
                  go_simp
                go_big_quiet_on
                simp only [Act.put, List.setIfInBounds_toArray, List.set_cons_zero, List.set_cons_succ]
                go_big_quiet_want
                refine ⟨.int .i64 sm, fun W hW => ?_, ?_⟩
                · go_simp
                go_big_quiet_on
                simp only [Act.put, List.setIfInBounds_toArray, List.set_cons_zero, List.set_cons_succ]
                go_big_quiet_want
                refine ⟨.bool true, fun W hW => ?_, ?_⟩
                · go_simp
                go_big_quiet_on
                simp only [Act.put, List.setIfInBounds_toArray, List.set_cons_zero, List.set_cons_succ]
                go_big_quiet_want
                refine ⟨.bool true, fun W hW => ?_, ?_⟩
                · go_simp
                go_big_quiet_on
                simp only [Act.put, List.setIfInBounds_toArray, List.set_cons_zero, List.set_cons_succ]
                refine wpQuiet_nil ?_
                intro W hW
                have o4 := owns_below HA3.out hW
                have hB4 := bel0 hBA hW
                obtain ⟨y0, -, -, q4, -⟩ := HL.out W hW
                have z4 := o4.frozenAt n
                have hs4 := o4.stored n (.int .i64 (i : Int))
                rw [iv_set] at hs4
                have H5 : Hid ((A.set n (i : Int)).length = k ∧ (∀ v, v < k → IsF E G 0 (i + 1) v (gF (A.set n (i : Int)) v)) ∧ (W.setCell ⟨w.heap.size, n, none⟩ (.int .i64 (i : Int))).ownsRow w.heap.size 3 1 (.slice (some ⟨w.heap.size, 0, none⟩) k k) k (iv (A.set n (i : Int)))) := by
                  refine ⟨by rw [List.length_set]; exact hA.out.1, fun v hv => ?_, hs4.1⟩
                  rw [gF_set (by rw [hA.out.1]; exact hnk)]
                  split
                  · rename_i ev
                    exact (hA.out.2.1 v hv).on_yes HEI.out.1 (by rw [ev, HX.out]; exact c1) (by rw [HEI.out.2.1, ev]) HYS.out
                  · rename_i ev
                    exact (hA.out.2.1 v hv).on_no HEI.out.1 (.inr (.inl (by rw [HEI.out.2.1]; exact fun h => ev h.symm)))
                have HB5 : Hid (Below w.heap.size w (W.setCell ⟨w.heap.size, n, none⟩ (.int .i64 (i : Int)))) := hB4.grown hs4.2 hB4.size (fun j e => by injection e with e; omega)
                clear hs4 o4
                go_wp2_with fail
                go_roundw
                case rel => exact ⟨i + 1, A.set n (i : Int), by go_num, by omega, H5, HB5.out⟩
                case measure => simp [intOf]; omega
              · have e3 : (z == sm) = false := beq_eq_false_iff_ne.2 c3
                have HNX := HNO.out (.inr (by rw [HTG.out, decide_eq_false (show ¬ z = y + c by omega), Bool.and_false]))
                have HNX2 : Hid (∀ v, v < k → IsF E G 0 (i + 1) v (gF A v)) := HNX
                clear hsm c3 HNX
                refine quiet_lit3 (C := fun W => Below w3.heap.size w3 W) (by kernel_rfl) (by kernel_rfl) (show Below _ _ _ from (Below.refl _ _).drew) ?_
                go_big_quiet_want
                go_big_quiet_op
                go_big_quiet_on
                go_big_quiet_want
                refine ⟨.pointer (some ⟨R, 0, none⟩), fun W hW => ?_, ?_⟩
                · go_simp
                go_big_quiet_on
                simp only [Act.put, List.setIfInBounds_toArray, List.set_cons_zero, List.set_cons_succ]
                go_big_quiet_want
                refine ⟨.int .i64 (n : Int), fun W hW => ?_, ?_⟩
                · obtain ⟨r0, r1, r2, r3, r4, r5⟩ := HL.out W hW
                  go_simp
                go_big_quiet_on
                simp only [Act.put, List.setIfInBounds_toArray, List.set_cons_zero, List.set_cons_succ]
                go_big_quiet_want
                refine ⟨.pointer (some ⟨w.heap.size, n, none⟩), fun W hW => ?_, ?_⟩
                · go_simp
                go_big_quiet_on
                simp only [Act.put, List.setIfInBounds_toArray, List.set_cons_zero, List.set_cons_succ]
                go_big_quiet_want
                refine ⟨.int .i64 x, fun W hW => ?_, ?_⟩
                · obtain ⟨r0, r1, r2, r3, r4, r5⟩ := HL.out W hW
                  go_simp
                go_big_quiet_on
                simp only [Act.put, List.setIfInBounds_toArray, List.set_cons_zero, List.set_cons_succ]
                go_big_quiet_want
                refine ⟨.bool true, fun W hW => ?_, ?_⟩
                · go_simp
                go_big_quiet_on
                simp only [Act.put, List.setIfInBounds_toArray, List.set_cons_zero, List.set_cons_succ]
                go_big_quiet_want
                go_big_quiet_op
                go_big_quiet_on
                go_big_quiet_want
                go_big_quiet_op
                go_big_quiet_on
                go_big_quiet_want
                refine ⟨.pointer (some ⟨R, 1, none⟩), fun W hW => ?_, ?_⟩
                · go_simp
                go_big_quiet_on
                simp only [Act.put, List.setIfInBounds_toArray, List.set_cons_zero, List.set_cons_succ]
                go_big_quiet_want
                refine ⟨.int .i64 (m : Int), fun W hW => ?_, ?_⟩
                · obtain ⟨r0, r1, r2, r3, r4, r5⟩ := HL.out W hW
                  go_simp
                go_big_quiet_on
                simp only [Act.put, List.setIfInBounds_toArray, List.set_cons_zero, List.set_cons_succ]
                go_big_quiet_want
                refine ⟨.pointer (some ⟨gf, m, none⟩), fun W hW => ?_, ?_⟩
                · go_simp
                go_big_quiet_on
                simp only [Act.put, List.setIfInBounds_toArray, List.set_cons_zero, List.set_cons_succ]
                go_big_quiet_want
                refine ⟨.int .i64 y, fun W hW => ?_, ?_⟩
                · obtain ⟨r0, r1, r2, r3, r4, r5⟩ := HL.out W hW
                  go_simp
                go_big_quiet_on
                simp only [Act.put, List.setIfInBounds_toArray, List.set_cons_zero, List.set_cons_succ]
                go_big_quiet_want
                refine ⟨.bool true, fun W hW => ?_, ?_⟩
                · go_simp
                go_big_quiet_on
                simp only [Act.put, List.setIfInBounds_toArray, List.set_cons_zero, List.set_cons_succ]
                go_big_quiet_want
                refine ⟨.bool true, fun W hW => ?_, ?_⟩
                · go_simp
                go_big_quiet_on
                simp only [Act.put, List.setIfInBounds_toArray, List.set_cons_zero, List.set_cons_succ]
                go_big_quiet_want
                go_big_quiet_op
                go_big_quiet_on
                go_big_quiet_want
                go_big_quiet_op
                go_big_quiet_on
                go_big_quiet_want
                refine ⟨.pointer (some ⟨R, 0, none⟩), fun W hW => ?_, ?_⟩
                · go_simp
                go_big_quiet_on
                simp only [Act.put, List.setIfInBounds_toArray, List.set_cons_zero, List.set_cons_succ]
                go_big_quiet_want
                refine ⟨.int .i64 (n : Int), fun W hW => ?_, ?_⟩
                · obtain ⟨r0, r1, r2, r3, r4, r5⟩ := HL.out W hW
                  go_simp
                go_big_quiet_on
                simp only [Act.put, List.setIfInBounds_toArray, List.set_cons_zero, List.set_cons_succ]
                go_big_quiet_want
                refine ⟨.pointer (some ⟨gf, n, none⟩), fun W hW => ?_, ?_⟩
                · go_simp
                go_big_quiet_on
                simp only [Act.put, List.setIfInBounds_toArray, List.set_cons_zero, List.set_cons_succ]
                go_big_quiet_want
                refine ⟨.int .i64 z, fun W hW => ?_, ?_⟩
                · obtain ⟨r0, r1, r2, r3, r4, r5⟩ := HL.out W hW
                  go_simp
                go_big_quiet_on
                simp only [Act.put, List.setIfInBounds_toArray, List.set_cons_zero, List.set_cons_succ]
                go_big_quiet_want
                refine ⟨.pointer (some ⟨R, 2, none⟩), fun W hW => ?_, ?_⟩
                · go_simp
                go_big_quiet_on
                simp only [Act.put, List.setIfInBounds_toArray, List.set_cons_zero, List.set_cons_succ]
                go_big_quiet_want
                refine ⟨.int .i64 c, fun W hW => ?_, ?_⟩
                · obtain ⟨r0, r1, r2, r3, r4, r5⟩ := HL.out W hW
                  go_simp
                go_big_quiet_on
                simp only [Act.put, List.setIfInBounds_toArray, List.set_cons_zero, List.set_cons_succ]
                go_big_quiet_want
                go_big_quiet_op
                go_big_quiet_on
                go_big_quiet_want
                refine ⟨.pointer (some ⟨R, 1, none⟩), fun W hW => ?_, ?_⟩
                · go_simp
                go_big_quiet_on
                simp only [Act.put, List.setIfInBounds_toArray, List.set_cons_zero, List.set_cons_succ]
                go_big_quiet_want
                refine ⟨.int .i64 (m : Int), fun W hW => ?_, ?_⟩
                · obtain ⟨r0, r1, r2, r3, r4, r5⟩ := HL.out W hW
                  go_simp
                go_big_quiet_on
                simp only [Act.put, List.setIfInBounds_toArray, List.set_cons_zero, List.set_cons_succ]
                go_big_quiet_want
                refine ⟨.pointer (some ⟨gf, m, none⟩), fun W hW => ?_, ?_⟩
                · go_simp
                go_big_quiet_on
                simp only [Act.put, List.setIfInBounds_toArray, List.set_cons_zero, List.set_cons_succ]
                go_big_quiet_want
                refine ⟨.int .i64 y, fun W hW => ?_, ?_⟩
                · obtain ⟨r0, r1, r2, r3, r4, r5⟩ := HL.out W hW
                  go_simp
                go_big_quiet_on
                simp only [Act.put, List.setIfInBounds_toArray, List.set_cons_zero, List.set_cons_succ]
                go_big_quiet_want
                refine ⟨.int .i64 sm, fun W hW => ?_, ?_⟩
                · go_simp
                go_big_quiet_on
                simp only [Act.put, List.setIfInBounds_toArray, List.set_cons_zero, List.set_cons_succ]
                go_big_quiet_want
                refine ⟨.bool false, fun W hW => ?_, ?_⟩
                · go_simp
                go_big_quiet_on
                simp only [Act.put, List.setIfInBounds_toArray, List.set_cons_zero, List.set_cons_succ]
                go_big_quiet_want
                refine ⟨.bool false, fun W hW => ?_, ?_⟩
                · go_simp
                go_big_quiet_on
                simp only [Act.put, List.setIfInBounds_toArray, List.set_cons_zero, List.set_cons_succ]
                refine wpQuiet_nil ?_
                intro W hW
                go_wp2_with fail
                go_roundw
                case rel => exact ⟨i + 1, A, by go_num, by omega, ⟨hA.out.1, HNX2.out, owns_below HA3.out hW⟩, bel0 hBA hW⟩
                case measure => simp [intOf]; omega
            · have HNX2 : Hid (∀ v, v < k → IsF E G 0 (i + 1) v (gF A v)) := HNO.out (.inr (by rw [HTG.out, decide_eq_false c2, Bool.false_and]))
              refine quiet_lit3 (C := fun W => Below w3.heap.size w3 W) (by kernel_rfl) (by kernel_rfl) (show Below _ _ _ from (Below.refl _ _).drew) ?_
              go_big_quiet_want
              go_big_quiet_op
              go_big_quiet_on
              go_big_quiet_want
              refine ⟨.pointer (some ⟨R, 0, none⟩), fun W hW => ?_, ?_⟩
              · go_simp
              go_big_quiet_on
              simp only [Act.put, List.setIfInBounds_toArray, List.set_cons_zero, List.set_cons_succ]
              go_big_quiet_want
              refine ⟨.int .i64 (n : Int), fun W hW => ?_, ?_⟩
              · obtain ⟨r0, r1, r2, r3, r4, r5⟩ := HL.out W hW
                go_simp
              go_big_quiet_on
              simp only [Act.put, List.setIfInBounds_toArray, List.set_cons_zero, List.set_cons_succ]
              go_big_quiet_want
              refine ⟨.pointer (some ⟨w.heap.size, n, none⟩), fun W hW => ?_, ?_⟩
              · go_simp
              go_big_quiet_on
              simp only [Act.put, List.setIfInBounds_toArray, List.set_cons_zero, List.set_cons_succ]
              go_big_quiet_want
              refine ⟨.int .i64 x, fun W hW => ?_, ?_⟩
              · obtain ⟨r0, r1, r2, r3, r4, r5⟩ := HL.out W hW
                go_simp
              go_big_quiet_on
              simp only [Act.put, List.setIfInBounds_toArray, List.set_cons_zero, List.set_cons_succ]
              go_big_quiet_want
              refine ⟨.bool true, fun W hW => ?_, ?_⟩
              · go_simp
              go_big_quiet_on
              simp only [Act.put, List.setIfInBounds_toArray, List.set_cons_zero, List.set_cons_succ]
              go_big_quiet_want
              go_big_quiet_op
              go_big_quiet_on
              go_big_quiet_want
              go_big_quiet_op
              go_big_quiet_on
              go_big_quiet_want
              refine ⟨.pointer (some ⟨R, 1, none⟩), fun W hW => ?_, ?_⟩
              · go_simp
              go_big_quiet_on
              simp only [Act.put, List.setIfInBounds_toArray, List.set_cons_zero, List.set_cons_succ]
              go_big_quiet_want
              refine ⟨.int .i64 (m : Int), fun W hW => ?_, ?_⟩
              · obtain ⟨r0, r1, r2, r3, r4, r5⟩ := HL.out W hW
                go_simp
              go_big_quiet_on
              simp only [Act.put, List.setIfInBounds_toArray, List.set_cons_zero, List.set_cons_succ]
              go_big_quiet_want
              refine ⟨.pointer (some ⟨gf, m, none⟩), fun W hW => ?_, ?_⟩
              · go_simp
              go_big_quiet_on
              simp only [Act.put, List.setIfInBounds_toArray, List.set_cons_zero, List.set_cons_succ]
              go_big_quiet_want
              refine ⟨.int .i64 y, fun W hW => ?_, ?_⟩
              · obtain ⟨r0, r1, r2, r3, r4, r5⟩ := HL.out W hW
                go_simp
              go_big_quiet_on
              simp only [Act.put, List.setIfInBounds_toArray, List.set_cons_zero, List.set_cons_succ]
              go_big_quiet_want
              refine ⟨.bool false, fun W hW => ?_, ?_⟩
              · go_simp
              go_big_quiet_on
              simp only [Act.put, List.setIfInBounds_toArray, List.set_cons_zero, List.set_cons_succ]
              go_big_quiet_want
              refine ⟨.bool false, fun W hW => ?_, ?_⟩
              · go_simp
              go_big_quiet_on
              simp only [Act.put, List.setIfInBounds_toArray, List.set_cons_zero, List.set_cons_succ]
              go_big_quiet_want
              go_big_quiet_op
              go_big_quiet_on
              go_big_quiet_skip
              go_big_quiet_skip
              go_big_quiet_skip
              go_big_quiet_skip
              go_big_quiet_skip
              go_big_quiet_skip
              go_big_quiet_skip
              go_big_quiet_skip
              go_big_quiet_skip
              go_big_quiet_skip
              go_big_quiet_skip
              go_big_quiet_skip
              go_big_quiet_skip
              go_big_quiet_skip
              go_big_quiet_want
              refine ⟨.bool false, fun W hW => ?_, ?_⟩
              · go_simp
              go_big_quiet_on
              simp only [Act.put, List.setIfInBounds_toArray, List.set_cons_zero, List.set_cons_succ]
              refine wpQuiet_nil ?_
              intro W hW
              go_wp2_with fail
              go_roundw
              case rel => exact ⟨i + 1, A, by go_num, by omega, ⟨hA.out.1, HNX2.out, owns_below HA3.out hW⟩, bel0 hBA hW⟩
              case measure => simp [intOf]; omega
          · have HNX2 : Hid (∀ v, v < k → IsF E G 0 (i + 1) v (gF A v)) := HNO.out (.inl (by omega))
            refine quiet_lit3 (C := fun W => Below w3.heap.size w3 W) (by kernel_rfl) (by kernel_rfl) (show Below _ _ _ from (Below.refl _ _).drew) ?_
            go_big_quiet_want
            go_big_quiet_op
            go_big_quiet_on
            go_big_quiet_want
            refine ⟨.pointer (some ⟨R, 0, none⟩), fun W hW => ?_, ?_⟩
            · go_simp
            go_big_quiet_on
            simp only [Act.put, List.setIfInBounds_toArray, List.set_cons_zero, List.set_cons_succ]
            go_big_quiet_want
            refine ⟨.int .i64 (n : Int), fun W hW => ?_, ?_⟩
            · obtain ⟨r0, r1, r2, r3, r4, r5⟩ := HL.out W hW
              go_simp
            go_big_quiet_on
            simp only [Act.put, List.setIfInBounds_toArray, List.set_cons_zero, List.set_cons_succ]
            go_big_quiet_want
            refine ⟨.pointer (some ⟨w.heap.size, n, none⟩), fun W hW => ?_, ?_⟩
            · go_simp
            go_big_quiet_on
            simp only [Act.put, List.setIfInBounds_toArray, List.set_cons_zero, List.set_cons_succ]
            go_big_quiet_want
            refine ⟨.int .i64 x, fun W hW => ?_, ?_⟩
            · obtain ⟨r0, r1, r2, r3, r4, r5⟩ := HL.out W hW
              go_simp
            go_big_quiet_on
            simp only [Act.put, List.setIfInBounds_toArray, List.set_cons_zero, List.set_cons_succ]
            go_big_quiet_want
            refine ⟨.bool false, fun W hW => ?_, ?_⟩
            · go_simp
            go_big_quiet_on
            simp only [Act.put, List.setIfInBounds_toArray, List.set_cons_zero, List.set_cons_succ]
            go_big_quiet_want
            go_big_quiet_op
            go_big_quiet_on
            go_big_quiet_skip
            go_big_quiet_skip
            go_big_quiet_skip
            go_big_quiet_skip
            go_big_quiet_skip
            go_big_quiet_skip
            go_big_quiet_want
            refine ⟨.bool false, fun W hW => ?_, ?_⟩
            · go_simp
            go_big_quiet_on
            simp only [Act.put, List.setIfInBounds_toArray, List.set_cons_zero, List.set_cons_succ]
            go_big_quiet_want
            go_big_quiet_op
            go_big_quiet_on
            go_big_quiet_skip
            go_big_quiet_skip
            go_big_quiet_skip
            go_big_quiet_skip
            go_big_quiet_skip
            go_big_quiet_skip
            go_big_quiet_skip
            go_big_quiet_skip
            go_big_quiet_skip
            go_big_quiet_skip
            go_big_quiet_skip
            go_big_quiet_skip
            go_big_quiet_skip
            go_big_quiet_skip
            go_big_quiet_want
            refine ⟨.bool false, fun W hW => ?_, ?_⟩
            · go_simp
            go_big_quiet_on
            simp only [Act.put, List.setIfInBounds_toArray, List.set_cons_zero, List.set_cons_succ]
            refine wpQuiet_nil ?_
            intro W hW
            go_wp2_with fail
            go_roundw
            case rel => exact ⟨i + 1, A, by go_num, by omega, ⟨hA.out.1, HNX2.out, owns_below HA3.out hW⟩, bel0 hBA hW⟩
            case measure => simp [intOf]; omega
        · have m1 : ¬ (i : Int) < (ne : Int) := by omega
          obtain rfl : i = ne := by omega
          go_wp2_with fail
          go_ret
          refine ⟨rfl, A, ⟨by rw [hA.out.1, HG.out.2.1], fun v hv => ?_⟩, hA.out.2.2, hB⟩
          rw [HNE.out]
          exact hA.out.2.1 v (HG.out.2.1 ▸ hv)
/-- what Shortest answers -/
def shortR (N : Int) (E : List IRt) (D : List Int) (A B : List Int) : Prop := if gfit N E D = 0 then Cert E (D.map Int.toNat) A ∧ A.length = N.toNat ∧ Fst E A B ∧ ∀ u, gF A u ≤ 159984 else A = [] ∧ B = []
theorem gfit_ok {N : Int} {E : List IRt} {D : List Int} (h : gfit N E D = 0) : 1 ≤ N ∧ Grf N.toNat E (D.map Int.toNat) ∧ D = (D.map Int.toNat).map (fun d : Nat => (d : Int)) := by
  unfold gfit at h
  split at h
  · omega
  · rename_i c1
    split at h
    · omega
    · rename_i c2
      split at h
      · rename_i c3
        split at h
        · rename_i c4
          have hN : 1 ≤ N ∧ N ≤ 16 := Classical.byContradiction c2
          have hd : ∀ d ∈ D, 0 ≤ d ∧ d < N := fun d hd => of_decide_eq_true (List.all_eq_true.1 c4 d hd)
          refine ⟨hN.1, ⟨by omega, by omega, by rw [List.length_map]; omega, fun e he => ?_, fun d hd' => ?_⟩, ?_⟩
          · have := List.all_eq_true.1 c3 e he
            unfold eok at this
            simp only [Bool.and_eq_true, decide_eq_true_eq] at this
            omega
          · obtain ⟨x, hx, rfl⟩ := List.mem_map.1 hd'
            have := hd x hx
            omega
          · rw [List.map_map]
            refine (List.map_id D).symm.trans (List.map_congr_left (fun d hx => ?_))
            have := hd d hx
            show d = ((d.toNat : Nat) : Int)
            omega
        · omega
      · omega
theorem shortR_uniq {N : Int} {E : List IRt} {D A B A' B' : List Int} (h1 : shortR N E D A B) (h2 : shortR N E D A' B') : A = A' ∧ B = B' := by
  unfold shortR at h1 h2
  split at h1
  · rename_i h
    rw [if_pos h] at h2
    obtain ⟨_, hg, _⟩ := gfit_ok h
    have : A = A' := cert_uniq (fun e he => (hg.ed e he).2.2.2.2.1) (by rw [h1.2.1, h2.2.1]) h1.1 h2.1
    subst this
    exact ⟨rfl, h1.2.2.1.uniq h2.2.2.1⟩
  · rename_i h
    rw [if_neg h] at h2
    exact ⟨by rw [h1.1, h2.1], by rw [h1.2, h2.2]⟩
theorem res_bsh (tmps : Array Value) (W : World) (x y z : Value) (h : tmps[6]?.getD undef = x ∧ tmps[7]?.getD undef = y ∧ tmps[8]?.getD undef = z) : (results Try.f10 tmps).run Try.prog W = .ok (.tuple #[x, y, z]) W := by
  simp [results, h.1, h.2.1, h.2.2, go_sem]
set_option maxRecDepth 100000 in
set_option maxHeartbeats 1000000 in
theorem bshort_any (N : Int) (E : List IRt) (D : List Int) (oe od : Option Addr) (ce cd ne nd : Nat) (w : World) (hne : E.length = ne) (hnd : D.length = nd) (hE : IRR w oe E) (hD : IRI w od D) :
    Calls Try.prog 10 #[.int .i64 N, .slice oe ne ce, .slice od nd cd] w fun e w' => ∃ (A B : List Int) (va vb : Value), e = .returned (.tuple #[va, vb, .int .i64 (gfit N E D)]) ∧ shortR N E D A B ∧ w'.ownsRow w.heap.size 3 1 va A.length (iv A) ∧ w'.ownsRow w.heap.size 3 1 vb B.length (iv B) ∧ Below w.heap.size w w' := by
  have HFT0 := graphRefusal_any N E D oe od ce cd ne nd w hne hnd hE hD
  unfold shortR
  obtain ⟨F, hF⟩ : ∃ F, gfit N E D = F := ⟨_, rfl⟩
  simp only [hF]
  rw [hF] at HFT0
  have HFT : Hid (Calls Try.prog 31 #[.int .i64 N, .slice oe ne ce, .slice od nd cd] w fun e w' => e = .returned (.int .i64 F) ∧ Below w.heap.size w w') := HFT0
  clear HFT0
  by_cases f0 : F = 0
  · subst f0
    obtain ⟨h1, hg, hd⟩ := gfit_ok hF
    obtain ⟨n, rfl⟩ : ∃ n : Nat, N = n := ⟨N.toNat, by omega⟩
    rw [Int.toNat_natCast] at hg
    have HLA : Hid (∀ W : World, Below w.heap.size w W → Calls Try.prog 32 #[.int .i64 (n : Int), .slice oe ne ce, .slice od nd cd] W fun e w' => ∃ G : List Int, e = .returned (.slice (some ⟨W.heap.size, 0, none⟩) n n) ∧ Cert E (D.map Int.toNat) G ∧ G.length = n ∧ (∀ u, gF G u ≤ 159984) ∧ w'.ownsRow W.heap.size 3 1 (.slice (some ⟨W.heap.size, 0, none⟩) n n) n (iv G) ∧ Below W.heap.size W w') := fun W hW => lengths_any hg oe ce od cd ne nd W hne (by rw [List.length_map]; exact hnd) (hE.later hW) (by rw [← hd]; exact hD.later hW)
    have HFE : Hid (∀ (W : World) (G : List Int) (gf wb : Nat), G.length = n → (∀ u, gF G u ≤ 159984) → Below w.heap.size w W → W.ownsRow wb 3 1 (.slice (some ⟨gf, 0, none⟩) n n) n (iv G) → Calls Try.prog 33 #[.slice oe ne ce, .slice (some ⟨gf, 0, none⟩) n n] W fun e w' => ∃ A : List Int, e = .returned (.slice (some ⟨W.heap.size, 0, none⟩) n n) ∧ Fst E G A ∧ w'.ownsRow W.heap.size 3 1 (.slice (some ⟨W.heap.size, 0, none⟩) n n) n (iv A) ∧ Below W.heap.size W w') := fun W G gf wb h1 h2 hW ho => firstEdges_any hg h1 h2 oe ce ne gf wb W hne (hE.later hW) ho
    clear hE hD hF hne hnd h1 hg hd
    go_enter Try.func10, Try.ntmps10
    go_wp2_with fail
    refine HFT.out.mono ?_
    rintro e W1 ⟨rfl, hb1⟩
    go_wp2_with fail
    refine (HLA.out _ hb1).mono ?_
    rintro e W2 ⟨G, rfl, g1, g2, g3, g4, hb2⟩
    have hB2 := bel0 hb1 hb2
    have HF2 := HFE.out W2 G W1.heap.size W1.heap.size g2 g3 hB2 g4
    go_wp2_with fail
    refine HF2.mono ?_
    rintro e W3 ⟨A, rfl, a1, a2, hb3⟩
    go_wp2_with fail
    refine bodyPost_ret (res_bsh _ _ _ _ _ ⟨rfl, rfl, rfl⟩) rfl ?_
    have hAl : A.length = n := by rw [a1.1, g2]
    refine ⟨G, A, _, _, rfl, ⟨g1, g2, a1, g3⟩, ?_, ?_, bel0 hB2 hb3⟩
    · rw [g2]
      exact own_base (owns_below g4 hb3) hb1.size
    · rw [hAl]
      exact own_base a2 hB2.size
  · have f1 : (F == 0) = false := beq_eq_false_iff_ne.2 f0
    clear hE hD hF
    go_enter Try.func10, Try.ntmps10
    go_wp2_with fail
    refine HFT.out.mono ?_
    rintro e W1 ⟨rfl, hb1⟩
    go_wp2_with fail
    refine bodyPost_ret (res_bsh _ _ _ _ _ ⟨rfl, rfl, rfl⟩) rfl ?_
    exact ⟨[], [], _, _, rfl, ⟨rfl, rfl⟩, World.ownsRow_nil _ _ _ _, World.ownsRow_nil _ _ _ _, hb1⟩
end Go.Proofs.Ytfcdaljhbeogeaa
