import Derived.Test.YtfcdaljhbeogeaaRZ
namespace Go.Proofs.Ytfcdaljhbeogeaa
open Go.RowKit
theorem iri_cell {w : World} {g o0 : Nat} {V : List Int} (h : IRI w (some ⟨g, o0, none⟩) V) {k : Nat} {v : Int} (hk : V[k]? = some v) {W : World} (hW : Below w.heap.size w W) : W.cell? ⟨g, o0 + k, none⟩ = some (.int .i64 v) := by
  obtain ⟨g3, q3, e, hh⟩ := h W hW k v hk
  injection e with e
  injection e with e1 e2
  subst e1 e2
  exact hh
set_option maxRecDepth 100000 in
set_option maxHeartbeats 2000000 in
theorem way_any (N k : Nat) (E : List IRt) (D A B : List Int) (ga oa gb ob : Nat) (oe od : Option Addr) (c1 c2 ce cd ne nd : Nat) (w : World) (hne : E.length = ne) (hnd : D.length = nd) (ln : ne ≤ 60) (ld : nd ≤ 60) (_hN : N ≤ 16) (lA : A.length = N) (lB : B.length = N) (hA : IRI w (some ⟨ga, oa, none⟩) A) (hBr : IRI w (some ⟨gb, ob, none⟩) B) (hE : IRR w oe E) (hD : IRI w od D) (he : ∀ e ∈ E, 0 ≤ e.1 ∧ e.1 < (N : Int) ∧ 0 ≤ e.2.1 ∧ e.2.1 < (N : Int) ∧ 1 ≤ e.2.2.1 ∧ e.2.2.1 ≤ 9999) (hb : ∀ u, -1 ≤ gF A u ∧ gF A u ≤ 159984) (hk : k < N) (hw : wayP E D A B k) :
    Calls Try.prog 24 #[.slice (some ⟨ga, oa, none⟩) N c1, .slice (some ⟨gb, ob, none⟩) N c2, .slice oe ne ce, .slice od nd cd, .int .i64 (k : Int)] w fun e w' => e = .returned (.bool true) ∧ Below w.heap.size w w' := by
  have ca := gF_at (F := A) (v := k) (by rw [lA]; exact hk)
  have cb := gF_at (F := B) (v := k) (by rw [lB]; exact hk)
  unfold wayP at hw
  obtain ⟨a, ha⟩ : ∃ a, gF A k = a := ⟨_, rfl⟩
  obtain ⟨b, hbk⟩ : ∃ b, gF B k = b := ⟨_, rfl⟩
  rw [ha] at ca
  rw [hbk] at cb
  rw [ha, hbk] at hw
  have HW : Hid ((((k : Int) ∈ D ∨ a < 0) ∧ b = -1 ∧ a ≤ 0) ∨ (¬ (k : Int) ∈ D ∧ 0 ≤ a ∧ ∃ j : Nat, b = (j : Int) ∧ (∃ e, E[j]? = some e ∧ e.1 = (k : Int) ∧ tgh A e = true) ∧ ∀ i e, i < j → E[i]? = some e → e.1 = (k : Int) → tgh A e = false)) := hw
  have HL0 : Hid (∀ W, Below w.heap.size w W → W.cell? ⟨ga, oa + k, none⟩ = some (.int .i64 a) ∧ W.cell? ⟨gb, ob + k, none⟩ = some (.int .i64 b)) := fun W hW => ⟨iri_cell hA ca hW, iri_cell hBr cb hW⟩
  have HE : Hid (IRR w oe E) := hE
  have HD : Hid (IRI w od D) := hD
  have HA : Hid (IRI w (some ⟨ga, oa, none⟩) A ∧ A.length = N ∧ gF A k = a) := ⟨hA, lA, ha⟩
  have HN : Hid (E.length = ne ∧ D.length = nd) := ⟨hne, hnd⟩
  have HM : Hid ((∀ e ∈ E, 0 ≤ e.1 ∧ e.1 < (N : Int) ∧ 0 ≤ e.2.1 ∧ e.2.1 < (N : Int) ∧ 1 ≤ e.2.2.1 ∧ e.2.2.1 ≤ 9999) ∧ ∀ u, -1 ≤ gF A u ∧ gF A u ≤ 159984) := ⟨he, hb⟩
  have k0 : (0 : Int) ≤ (k : Int) := by omega
  have k1 : (k : Int) < (N : Int) := by omega
  clear hE hD hA hBr hne hnd he hb hw ca cb ha hbk lA lB
  go_enter Try.func24, Try.ntmps24
  go_wp2_with fail
  go_loopw [11, 12] (fun vd vi wr => ∃ i : Nat, vi = .int .i64 (i : Int) ∧ i ≤ nd ∧ (((k : Int) ∈ D.take i ∧ vd = .bool true) ∨ (¬ (k : Int) ∈ D.take i ∧ vd = .bool false)) ∧ Below w.heap.size w wr) (fun _ vi _ => nd - (intOf vi).toNat)
  case atStart => exact ⟨0, rfl, Nat.zero_le _, .inr ⟨by simp, rfl⟩, Below.refl _ _⟩
  case round =>
    obtain ⟨i, rfl, hin, hV, hB⟩ := hrel
    by_cases hlt : i < nd
    · have j1 : (i : Int) < (nd : Int) := by omega
      have j0 : (0 : Int) ≤ (i : Int) := by omega
      obtain ⟨d, hdi⟩ : ∃ d, D[i]? = some d := ⟨_, List.getElem?_eq_getElem (by rw [HN.out.2]; omega)⟩
      obtain ⟨gd, oo, rfl, p0⟩ := HD.out _ hB i d hdi
      have ht : ∀ x, x ∈ D.take (i + 1) ↔ x ∈ D.take i ∨ x = d := fun x => by rw [List.take_add_one, hdi]; simp
      rcases hV with ⟨hm, rfl⟩ | ⟨hm, rfl⟩
      · have HX : Hid ((k : Int) ∈ D.take (i + 1)) := (ht _).2 (.inl hm)
        clear hm ht hdi
        go_wp2_with fail
        go_roundw
        case rel => exact ⟨i + 1, by go_num, by omega, .inl ⟨HX.out, rfl⟩, hB⟩
        case measure => simp [intOf]; omega
      · by_cases hdk : d = (k : Int)
        · have HX : Hid ((k : Int) ∈ D.take (i + 1)) := (ht _).2 (.inr hdk.symm)
          have e5 : (d == (k : Int)) = true := by rw [hdk]; exact beq_self_eq_true _
          clear hm ht hdi hdk
          go_wp2_with fail
          go_roundw
          case rel => exact ⟨i + 1, by go_num, by omega, .inl ⟨HX.out, rfl⟩, hB⟩
          case measure => simp [intOf]; omega
        · have HX : Hid (¬ (k : Int) ∈ D.take (i + 1)) := fun h => ((ht _).1 h).elim hm (fun h => hdk h.symm)
          have e5 : (d == (k : Int)) = false := beq_eq_false_iff_ne.2 hdk
          clear hm ht hdi hdk
          go_wp2_with fail
          go_roundw
          case rel => exact ⟨i + 1, by go_num, by omega, .inr ⟨HX.out, rfl⟩, hB⟩
          case measure => simp [intOf]; omega
    · have j1 : ¬ (i : Int) < (nd : Int) := by omega
      rw [List.take_of_length_le (by rw [HN.out.2]; omega)] at hV
      obtain ⟨x0, x1⟩ := HL0.out _ hB
      rcases hV with ⟨hm, rfl⟩ | ⟨hm, rfl⟩
      · have hh : b = -1 ∧ a ≤ 0 := by
          rcases HW.out with h | h
          · exact h.2
          · exact absurd hm h.1
        obtain ⟨rfl, a0⟩ := hh
        clear hm HW HL0 HA
        go_wp2_with fail
        go_ret
        exact ⟨rfl, hB⟩
      · by_cases hn : a < 0
        · have hh : b = -1 ∧ a ≤ 0 := by
            rcases HW.out with h | h
            · exact h.2
            · omega
          obtain ⟨rfl, a0⟩ := hh
          clear hm HW HL0 HA
          go_wp2_with fail
          go_ret
          exact ⟨rfl, hB⟩
        · obtain ⟨j, rfl, ⟨y, hy, hyk, hyt⟩, hmin⟩ : ∃ j : Nat, b = (j : Int) ∧ (∃ e, E[j]? = some e ∧ e.1 = (k : Int) ∧ tgh A e = true) ∧ ∀ i e, i < j → E[i]? = some e → e.1 = (k : Int) → tgh A e = false := by
            rcases HW.out with h | h
            · exact h.1.elim (fun h => absurd h hm) (fun h => absurd h hn)
            · exact h.2.2
          have hjl : j < ne := by rw [← HN.out.1]; exact (List.getElem?_eq_some_iff.1 hy).1
          have m0 : (0 : Int) ≤ (j : Int) := by omega
          have m1 : ¬ (j : Int) < 0 := by omega
          have m2 : (j : Int) < (ne : Int) := by omega
          have m3 : ¬ (ne : Int) ≤ (j : Int) := by omega
          have y1 : ((k : Int) == (k : Int)) = true := beq_self_eq_true _
          obtain ⟨ge, oo, rfl, p0, -, -, -⟩ := HE.out _ hB j y hy
          rw [hyk] at p0
          have HTJ : Hid (∀ i e, i ≤ j → E[i]? = some e → ((e.1 = (k : Int) ∧ tgh A e = true) ↔ i = j)) := fun i e hi hei => by
            by_cases eij : i = j
            · subst eij
              rw [hy] at hei
              injection hei with hei
              subst hei
              exact ⟨fun _ => rfl, fun _ => ⟨hyk, hyt⟩⟩
            · refine ⟨fun h => ?_, fun h => absurd h eij⟩
              have := hmin i e (by omega) hei h.1
              rw [h.2] at this
              cases this
          clear hm HW hy hyk hyt hmin
          go_wp2_with fail
          go_loopw [14] (fun vi wr => ∃ i : Nat, vi = .int .i64 (i : Int) ∧ i ≤ j + 1 ∧ Below w.heap.size w wr) (fun vi _ => j + 1 - (intOf vi).toNat)
          case atStart => exact ⟨0, rfl, Nat.zero_le _, hB⟩
          case round =>
            clear hB x0 x1 p0
            obtain ⟨i, rfl, hij, hB⟩ := hrel
            by_cases hle : i ≤ j
            · have q1 : (i : Int) ≤ (j : Int) := by omega
              have q0 : (0 : Int) ≤ (i : Int) := by omega
              have q2 : (i : Int) < (ne : Int) := by omega
              obtain ⟨e, hei⟩ : ∃ e, E[i]? = some e := ⟨_, List.getElem?_eq_getElem (by rw [HN.out.1]; omega)⟩
              obtain ⟨g1, g2, g3, g4, g5, g6⟩ := HM.out.1 e (List.mem_of_getElem? hei)
              obtain ⟨n, hn⟩ : ∃ n : Nat, e.1 = (n : Int) := ⟨e.1.toNat, by omega⟩
              obtain ⟨m, hm⟩ : ∃ m : Nat, e.2.1 = (m : Int) := ⟨e.2.1.toNat, by omega⟩
              have hmk : m < N := by omega
              obtain ⟨p0, p1, p2, p3⟩ := irr_cells HE.out hei hB
              obtain ⟨OB, hOB⟩ : ∃ OB : Obj, Obj.cells #[.int .i64 e.1, .int .i64 e.2.1, .int .i64 e.2.2.1, .int .i64 e.2.2.2] 34 = OB := ⟨_, rfl⟩
              have hR : (wr.alloc OB).heap[wr.heap.size]? = some (.cells #[.int .i64 e.1, .int .i64 e.2.1, .int .i64 e.2.2.1, .int .i64 e.2.2.2] 34 (0, 0)) := by rw [← hOB]; exact alloc_get _ _
              have hBA : Below w.heap.size w (wr.alloc OB) := hB.alloc hB.size _
              have HTE : Hid ((n = k ∧ 0 ≤ gF A m ∧ gF A k = gF A m + e.2.2.1) ↔ i = j) := by
                unfold Hid
                rw [← HTJ.out i e hle hei, hn]
                unfold tgh
                rw [hn, hm]
                simp only [Int.toNat_natCast, Bool.and_eq_true, decide_eq_true_eq]
                constructor
                · rintro ⟨rfl, h1, h2⟩
                  exact ⟨rfl, h1, h2⟩
                · rintro ⟨h0, h1, h2⟩
                  have : n = k := by omega
                  subst this
                  exact ⟨rfl, h1, h2⟩
              rw [HA.out.2.2] at HTE
              rw [hn] at p0 hR hOB
              rw [hm] at p1 hR hOB
              obtain ⟨c, hc⟩ : ∃ c, e.2.2.1 = c := ⟨_, rfl⟩
              obtain ⟨ou, hou⟩ : ∃ ou, e.2.2.2 = ou := ⟨_, rfl⟩
              have hcb : 1 ≤ c ∧ c ≤ 9999 := by omega
              rw [hc] at p2 hR hOB HTE
              rw [hou] at p3 hR hOB
              clear g1 g2 g3 g4 g5 g6 hei hn hm hc hou
              go_upto_region 15 with fail
              try rw [hOB]
              generalize wr.alloc OB = w3 at hR hBA ⊢
              generalize wr.heap.size = R at hR ⊢
              clear hOB p0 p1 p2 p3 hB
              obtain ⟨y, hy⟩ : ∃ y, gF A m = y := ⟨_, rfl⟩
              have hyb : y ≤ 159984 := hy ▸ (HM.out.2 m).2
              have HL : Hid (∀ W, Below w3.heap.size w3 W → W.cell? ⟨R, 0, none⟩ = some (.int .i64 (n : Int)) ∧ W.cell? ⟨R, 1, none⟩ = some (.int .i64 (m : Int)) ∧ W.cell? ⟨R, 2, none⟩ = some (.int .i64 c) ∧ W.cell? ⟨ga, oa + m, none⟩ = some (.int .i64 y) ∧ W.cell? ⟨ga, oa + k, none⟩ = some (.int .i64 a)) := fun W hW => by
                have r2 := iri_cell HA.out.1 (gF_at (F := A) (v := m) (by rw [HA.out.2.1]; exact hmk)) (bel0 hBA hW)
                rw [hy] at r2
                exact ⟨cell_of_row _ _ 0 _ _ _ (keepblk hW hR), cell_of_row _ _ 1 _ _ _ (keepblk hW hR), cell_of_row _ _ 2 _ _ _ (keepblk hW hR), r2, (HL0.out W (bel0 hBA hW)).1⟩
              rw [hy] at HTE
              have n2 : (0 : Int) ≤ (m : Int) := by omega
              have n3 : (m : Int) < (N : Int) := by omega
              clear hy
              by_cases d1 : n = k
              · have e1 : ((n : Int) == (k : Int)) = true := by rw [d1]; exact beq_self_eq_true _
                have D1 : Hid (n = k) := d1
                clear d1
                by_cases d2 : 0 ≤ y
                · obtain ⟨sm, hsm⟩ : ∃ sm : Int, y + c = sm := ⟨_, rfl⟩
                  have esm : IntKind.i64.wrap (y + c) = sm := by rw [IntKind.wrap_i64]; omega
                  by_cases d3 : sm = a
                  · have e3 : (sm == a) = true := by rw [d3]; exact beq_self_eq_true _
                    have e9 : ((i : Int) == (j : Int)) = true := by
                      have hij2 := HTE.out.1 ⟨D1.out, d2, by omega⟩
                      rw [hij2]
                      exact beq_self_eq_true _
                    clear hsm d3
                    refine quiet_lit3 (C := fun W => Below w3.heap.size w3 W) (by kernel_rfl) (by kernel_rfl) (show Below _ _ _ from (Below.refl _ _).drew) ?_
                    go_big_quiet_want
                    refine ⟨.pointer (some ⟨R, 0, none⟩), fun W hW => ?_, ?_⟩
                    · go_simp
                    go_big_quiet_on
                    simp only [Act.put, List.setIfInBounds_toArray, List.set_cons_zero, List.set_cons_succ]
                    go_big_quiet_want
                    refine ⟨.int .i64 (n : Int), fun W hW => ?_, ?_⟩
                    · obtain ⟨z0, z1, z2, z3, z4⟩ := HL.out W hW
                      go_simp
                    go_big_quiet_on
                    simp only [Act.put, List.setIfInBounds_toArray, List.set_cons_zero, List.set_cons_succ]
                    go_big_quiet_want
                    go_big_quiet_op
                    go_big_quiet_on
                    go_big_quiet_want
                    refine ⟨.bool true, fun W hW => ?_, ?_⟩
                    · go_simp
                    go_big_quiet_on
                    simp only [Act.put, List.setIfInBounds_toArray, List.set_cons_zero, List.set_cons_succ]
                    go_big_quiet_want
                    go_big_quiet_op
                    go_big_quiet_on
                    go_big_quiet_want
                    go_big_quiet_op
                    go_big_quiet_on
                    go_big_quiet_want
                    refine ⟨.pointer (some ⟨R, 1, none⟩), fun W hW => ?_, ?_⟩
                    · go_simp
                    go_big_quiet_on
                    simp only [Act.put, List.setIfInBounds_toArray, List.set_cons_zero, List.set_cons_succ]
                    go_big_quiet_want
                    refine ⟨.int .i64 (m : Int), fun W hW => ?_, ?_⟩
                    · obtain ⟨z0, z1, z2, z3, z4⟩ := HL.out W hW
                      go_simp
                    go_big_quiet_on
                    simp only [Act.put, List.setIfInBounds_toArray, List.set_cons_zero, List.set_cons_succ]
                    go_big_quiet_want
                    refine ⟨.pointer (some ⟨ga, oa + m, none⟩), fun W hW => ?_, ?_⟩
                    · go_simp
                    go_big_quiet_on
                    simp only [Act.put, List.setIfInBounds_toArray, List.set_cons_zero, List.set_cons_succ]
                    go_big_quiet_want
                    refine ⟨.int .i64 y, fun W hW => ?_, ?_⟩
                    · obtain ⟨z0, z1, z2, z3, z4⟩ := HL.out W hW
                      go_simp
                    go_big_quiet_on
                    simp only [Act.put, List.setIfInBounds_toArray, List.set_cons_zero, List.set_cons_succ]
                    go_big_quiet_want
                    refine ⟨.bool true, fun W hW => ?_, ?_⟩
                    · go_simp
                    go_big_quiet_on
                    simp only [Act.put, List.setIfInBounds_toArray, List.set_cons_zero, List.set_cons_succ]
                    go_big_quiet_want
                    refine ⟨.bool true, fun W hW => ?_, ?_⟩
                    · go_simp
                    go_big_quiet_on
                    simp only [Act.put, List.setIfInBounds_toArray, List.set_cons_zero, List.set_cons_succ]
                    go_big_quiet_want
                    go_big_quiet_op
                    go_big_quiet_on
                    go_big_quiet_want
                    go_big_quiet_op
                    go_big_quiet_on
                    go_big_quiet_want
                    refine ⟨.pointer (some ⟨R, 1, none⟩), fun W hW => ?_, ?_⟩
                    · go_simp
                    go_big_quiet_on
                    simp only [Act.put, List.setIfInBounds_toArray, List.set_cons_zero, List.set_cons_succ]
                    go_big_quiet_want
                    refine ⟨.int .i64 (m : Int), fun W hW => ?_, ?_⟩
                    · obtain ⟨z0, z1, z2, z3, z4⟩ := HL.out W hW
                      go_simp
                    go_big_quiet_on
                    simp only [Act.put, List.setIfInBounds_toArray, List.set_cons_zero, List.set_cons_succ]
                    go_big_quiet_want
                    refine ⟨.pointer (some ⟨ga, oa + m, none⟩), fun W hW => ?_, ?_⟩
                    · go_simp
                    go_big_quiet_on
                    simp only [Act.put, List.setIfInBounds_toArray, List.set_cons_zero, List.set_cons_succ]
                    go_big_quiet_want
                    refine ⟨.int .i64 y, fun W hW => ?_, ?_⟩
                    · obtain ⟨z0, z1, z2, z3, z4⟩ := HL.out W hW
                      go_simp
                    go_big_quiet_on
                    simp only [Act.put, List.setIfInBounds_toArray, List.set_cons_zero, List.set_cons_succ]
                    go_big_quiet_want
                    refine ⟨.pointer (some ⟨R, 2, none⟩), fun W hW => ?_, ?_⟩
                    · go_simp
                    go_big_quiet_on
                    simp only [Act.put, List.setIfInBounds_toArray, List.set_cons_zero, List.set_cons_succ]
                    go_big_quiet_want
                    refine ⟨.int .i64 c, fun W hW => ?_, ?_⟩
                    · obtain ⟨z0, z1, z2, z3, z4⟩ := HL.out W hW
                      go_simp
                    go_big_quiet_on
                    simp only [Act.put, List.setIfInBounds_toArray, List.set_cons_zero, List.set_cons_succ]
                    go_big_quiet_want
                    refine ⟨.int .i64 sm, fun W hW => ?_, ?_⟩
                    · go_simp
                    go_big_quiet_on
                    simp only [Act.put, List.setIfInBounds_toArray, List.set_cons_zero, List.set_cons_succ]
                    go_big_quiet_want
                    go_big_quiet_op
                    go_big_quiet_on
                    go_big_quiet_want
                    go_big_quiet_op
                    go_big_quiet_on
                    go_big_quiet_want
                    refine ⟨.pointer (some ⟨ga, oa + k, none⟩), fun W hW => ?_, ?_⟩
                    · go_simp
                    go_big_quiet_on
                    simp only [Act.put, List.setIfInBounds_toArray, List.set_cons_zero, List.set_cons_succ]
                    go_big_quiet_want
                    refine ⟨.int .i64 a, fun W hW => ?_, ?_⟩
                    · obtain ⟨z0, z1, z2, z3, z4⟩ := HL.out W hW
                      go_simp
                    go_big_quiet_on
                    simp only [Act.put, List.setIfInBounds_toArray, List.set_cons_zero, List.set_cons_succ]
                    go_big_quiet_want
                    refine ⟨.bool true, fun W hW => ?_, ?_⟩
                    · go_simp
                    go_big_quiet_on
                    simp only [Act.put, List.setIfInBounds_toArray, List.set_cons_zero, List.set_cons_succ]
                    go_big_quiet_want
                    refine ⟨.bool true, fun W hW => ?_, ?_⟩
                    · go_simp
                    go_big_quiet_on
                    simp only [Act.put, List.setIfInBounds_toArray, List.set_cons_zero, List.set_cons_succ]
                    go_big_quiet_want
                    go_big_quiet_op
                    go_big_quiet_on
                    refine wpQuiet_nil ?_
                    intro W hW
                    go_wp2_with fail
                    go_roundw
                    case rel => exact ⟨i + 1, by go_num, by omega, bel0 hBA hW⟩
                    case measure => simp [intOf]; omega
                  · have e3 : (sm == a) = false := beq_eq_false_iff_ne.2 d3
                    have e9 : ((i : Int) == (j : Int)) = false := beq_eq_false_iff_ne.2 (fun h => d3 (by
                      have := (HTE.out.2 (by omega)).2.2
                      omega))
                    clear hsm d3
                    refine quiet_lit3 (C := fun W => Below w3.heap.size w3 W) (by kernel_rfl) (by kernel_rfl) (show Below _ _ _ from (Below.refl _ _).drew) ?_
                    go_big_quiet_want
                    refine ⟨.pointer (some ⟨R, 0, none⟩), fun W hW => ?_, ?_⟩
                    · go_simp
                    go_big_quiet_on
                    simp only [Act.put, List.setIfInBounds_toArray, List.set_cons_zero, List.set_cons_succ]
                    go_big_quiet_want
                    refine ⟨.int .i64 (n : Int), fun W hW => ?_, ?_⟩
                    · obtain ⟨z0, z1, z2, z3, z4⟩ := HL.out W hW
                      go_simp
                    go_big_quiet_on
                    simp only [Act.put, List.setIfInBounds_toArray, List.set_cons_zero, List.set_cons_succ]
                    go_big_quiet_want
                    go_big_quiet_op
                    go_big_quiet_on
                    go_big_quiet_want
                    refine ⟨.bool true, fun W hW => ?_, ?_⟩
                    · go_simp
                    go_big_quiet_on
                    simp only [Act.put, List.setIfInBounds_toArray, List.set_cons_zero, List.set_cons_succ]
                    go_big_quiet_want
                    go_big_quiet_op
                    go_big_quiet_on
                    go_big_quiet_want
                    go_big_quiet_op
                    go_big_quiet_on
                    go_big_quiet_want
                    refine ⟨.pointer (some ⟨R, 1, none⟩), fun W hW => ?_, ?_⟩
                    · go_simp
                    go_big_quiet_on
                    simp only [Act.put, List.setIfInBounds_toArray, List.set_cons_zero, List.set_cons_succ]
                    go_big_quiet_want
                    refine ⟨.int .i64 (m : Int), fun W hW => ?_, ?_⟩
                    · obtain ⟨z0, z1, z2, z3, z4⟩ := HL.out W hW
                      go_simp
                    go_big_quiet_on
                    simp only [Act.put, List.setIfInBounds_toArray, List.set_cons_zero, List.set_cons_succ]
                    go_big_quiet_want
                    refine ⟨.pointer (some ⟨ga, oa + m, none⟩), fun W hW => ?_, ?_⟩
                    · go_simp
                    go_big_quiet_on
                    simp only [Act.put, List.setIfInBounds_toArray, List.set_cons_zero, List.set_cons_succ]
                    go_big_quiet_want
                    refine ⟨.int .i64 y, fun W hW => ?_, ?_⟩
                    · obtain ⟨z0, z1, z2, z3, z4⟩ := HL.out W hW
                      go_simp
                    go_big_quiet_on
                    simp only [Act.put, List.setIfInBounds_toArray, List.set_cons_zero, List.set_cons_succ]
                    go_big_quiet_want
                    refine ⟨.bool true, fun W hW => ?_, ?_⟩
                    · go_simp
                    go_big_quiet_on
                    simp only [Act.put, List.setIfInBounds_toArray, List.set_cons_zero, List.set_cons_succ]
                    go_big_quiet_want
                    refine ⟨.bool true, fun W hW => ?_, ?_⟩
                    · go_simp
                    go_big_quiet_on
                    simp only [Act.put, List.setIfInBounds_toArray, List.set_cons_zero, List.set_cons_succ]
                    go_big_quiet_want
                    go_big_quiet_op
                    go_big_quiet_on
                    go_big_quiet_want
                    go_big_quiet_op
                    go_big_quiet_on
                    go_big_quiet_want
                    refine ⟨.pointer (some ⟨R, 1, none⟩), fun W hW => ?_, ?_⟩
                    · go_simp
                    go_big_quiet_on
                    simp only [Act.put, List.setIfInBounds_toArray, List.set_cons_zero, List.set_cons_succ]
                    go_big_quiet_want
                    refine ⟨.int .i64 (m : Int), fun W hW => ?_, ?_⟩
                    · obtain ⟨z0, z1, z2, z3, z4⟩ := HL.out W hW
                      go_simp
                    go_big_quiet_on
                    simp only [Act.put, List.setIfInBounds_toArray, List.set_cons_zero, List.set_cons_succ]
                    go_big_quiet_want
                    refine ⟨.pointer (some ⟨ga, oa + m, none⟩), fun W hW => ?_, ?_⟩
                    · go_simp
                    go_big_quiet_on
                    simp only [Act.put, List.setIfInBounds_toArray, List.set_cons_zero, List.set_cons_succ]
                    go_big_quiet_want
                    refine ⟨.int .i64 y, fun W hW => ?_, ?_⟩
                    · obtain ⟨z0, z1, z2, z3, z4⟩ := HL.out W hW
                      go_simp
                    go_big_quiet_on
                    simp only [Act.put, List.setIfInBounds_toArray, List.set_cons_zero, List.set_cons_succ]
                    go_big_quiet_want
                    refine ⟨.pointer (some ⟨R, 2, none⟩), fun W hW => ?_, ?_⟩
                    · go_simp
                    go_big_quiet_on
                    simp only [Act.put, List.setIfInBounds_toArray, List.set_cons_zero, List.set_cons_succ]
                    go_big_quiet_want
                    refine ⟨.int .i64 c, fun W hW => ?_, ?_⟩
                    · obtain ⟨z0, z1, z2, z3, z4⟩ := HL.out W hW
                      go_simp
                    go_big_quiet_on
                    simp only [Act.put, List.setIfInBounds_toArray, List.set_cons_zero, List.set_cons_succ]
                    go_big_quiet_want
                    refine ⟨.int .i64 sm, fun W hW => ?_, ?_⟩
                    · go_simp
                    go_big_quiet_on
                    simp only [Act.put, List.setIfInBounds_toArray, List.set_cons_zero, List.set_cons_succ]
                    go_big_quiet_want
                    go_big_quiet_op
                    go_big_quiet_on
                    go_big_quiet_want
                    go_big_quiet_op
                    go_big_quiet_on
                    go_big_quiet_want
                    refine ⟨.pointer (some ⟨ga, oa + k, none⟩), fun W hW => ?_, ?_⟩
                    · go_simp
                    go_big_quiet_on
                    simp only [Act.put, List.setIfInBounds_toArray, List.set_cons_zero, List.set_cons_succ]
                    go_big_quiet_want
                    refine ⟨.int .i64 a, fun W hW => ?_, ?_⟩
                    · obtain ⟨z0, z1, z2, z3, z4⟩ := HL.out W hW
                      go_simp
                    go_big_quiet_on
                    simp only [Act.put, List.setIfInBounds_toArray, List.set_cons_zero, List.set_cons_succ]
                    go_big_quiet_want
                    refine ⟨.bool false, fun W hW => ?_, ?_⟩
                    · go_simp
                    go_big_quiet_on
                    simp only [Act.put, List.setIfInBounds_toArray, List.set_cons_zero, List.set_cons_succ]
                    go_big_quiet_want
                    refine ⟨.bool false, fun W hW => ?_, ?_⟩
                    · go_simp
                    go_big_quiet_on
                    simp only [Act.put, List.setIfInBounds_toArray, List.set_cons_zero, List.set_cons_succ]
                    go_big_quiet_want
                    go_big_quiet_op
                    go_big_quiet_on
                    refine wpQuiet_nil ?_
                    intro W hW
                    go_wp2_with fail
                    go_roundw
                    case rel => exact ⟨i + 1, by go_num, by omega, bel0 hBA hW⟩
                    case measure => simp [intOf]; omega
                · have e9 : ((i : Int) == (j : Int)) = false := beq_eq_false_iff_ne.2 (fun h => d2 (HTE.out.2 (by omega)).2.1)
                  refine quiet_lit3 (C := fun W => Below w3.heap.size w3 W) (by kernel_rfl) (by kernel_rfl) (show Below _ _ _ from (Below.refl _ _).drew) ?_
                  go_big_quiet_want
                  refine ⟨.pointer (some ⟨R, 0, none⟩), fun W hW => ?_, ?_⟩
                  · go_simp
                  go_big_quiet_on
                  simp only [Act.put, List.setIfInBounds_toArray, List.set_cons_zero, List.set_cons_succ]
                  go_big_quiet_want
                  refine ⟨.int .i64 (n : Int), fun W hW => ?_, ?_⟩
                  · obtain ⟨z0, z1, z2, z3, z4⟩ := HL.out W hW
                    go_simp
                  go_big_quiet_on
                  simp only [Act.put, List.setIfInBounds_toArray, List.set_cons_zero, List.set_cons_succ]
                  go_big_quiet_want
                  go_big_quiet_op
                  go_big_quiet_on
                  go_big_quiet_want
                  refine ⟨.bool true, fun W hW => ?_, ?_⟩
                  · go_simp
                  go_big_quiet_on
                  simp only [Act.put, List.setIfInBounds_toArray, List.set_cons_zero, List.set_cons_succ]
                  go_big_quiet_want
                  go_big_quiet_op
                  go_big_quiet_on
                  go_big_quiet_want
                  go_big_quiet_op
                  go_big_quiet_on
                  go_big_quiet_want
                  refine ⟨.pointer (some ⟨R, 1, none⟩), fun W hW => ?_, ?_⟩
                  · go_simp
                  go_big_quiet_on
                  simp only [Act.put, List.setIfInBounds_toArray, List.set_cons_zero, List.set_cons_succ]
                  go_big_quiet_want
                  refine ⟨.int .i64 (m : Int), fun W hW => ?_, ?_⟩
                  · obtain ⟨z0, z1, z2, z3, z4⟩ := HL.out W hW
                    go_simp
                  go_big_quiet_on
                  simp only [Act.put, List.setIfInBounds_toArray, List.set_cons_zero, List.set_cons_succ]
                  go_big_quiet_want
                  refine ⟨.pointer (some ⟨ga, oa + m, none⟩), fun W hW => ?_, ?_⟩
                  · go_simp
                  go_big_quiet_on
                  simp only [Act.put, List.setIfInBounds_toArray, List.set_cons_zero, List.set_cons_succ]
                  go_big_quiet_want
                  refine ⟨.int .i64 y, fun W hW => ?_, ?_⟩
                  · obtain ⟨z0, z1, z2, z3, z4⟩ := HL.out W hW
                    go_simp
                  go_big_quiet_on
                  simp only [Act.put, List.setIfInBounds_toArray, List.set_cons_zero, List.set_cons_succ]
                  go_big_quiet_want
                  refine ⟨.bool false, fun W hW => ?_, ?_⟩
                  · go_simp
                  go_big_quiet_on
                  simp only [Act.put, List.setIfInBounds_toArray, List.set_cons_zero, List.set_cons_succ]
                  go_big_quiet_want
                  refine ⟨.bool false, fun W hW => ?_, ?_⟩
                  · go_simp
                  go_big_quiet_on
                  simp only [Act.put, List.setIfInBounds_toArray, List.set_cons_zero, List.set_cons_succ]
                  go_big_quiet_want
                  go_big_quiet_op
                  go_big_quiet_on
                  go_big_quiet_skip
                  go_big_quiet_skip
                  go_big_quiet_skip
                  go_big_quiet_skip
                  go_big_quiet_skip
                  go_big_quiet_skip
                  go_big_quiet_skip
                  go_big_quiet_skip
                  go_big_quiet_skip
                  go_big_quiet_skip
                  go_big_quiet_skip
                  go_big_quiet_skip
                  go_big_quiet_skip
                  go_big_quiet_want
                  refine ⟨.bool false, fun W hW => ?_, ?_⟩
                  · go_simp
                  go_big_quiet_on
                  simp only [Act.put, List.setIfInBounds_toArray, List.set_cons_zero, List.set_cons_succ]
                  go_big_quiet_want
                  go_big_quiet_op
                  go_big_quiet_on
                  refine wpQuiet_nil ?_
                  intro W hW
                  go_wp2_with fail
                  go_roundw
                  case rel => exact ⟨i + 1, by go_num, by omega, bel0 hBA hW⟩
                  case measure => simp [intOf]; omega
              · have e1 : ((n : Int) == (k : Int)) = false := beq_eq_false_iff_ne.2 (fun h => d1 (by omega))
                have e9 : ((i : Int) == (j : Int)) = false := beq_eq_false_iff_ne.2 (fun h => d1 (HTE.out.2 (by omega)).1)
                clear d1
                refine quiet_lit3 (C := fun W => Below w3.heap.size w3 W) (by kernel_rfl) (by kernel_rfl) (show Below _ _ _ from (Below.refl _ _).drew) ?_
                go_big_quiet_want
                refine ⟨.pointer (some ⟨R, 0, none⟩), fun W hW => ?_, ?_⟩
                · go_simp
                go_big_quiet_on
                simp only [Act.put, List.setIfInBounds_toArray, List.set_cons_zero, List.set_cons_succ]
                go_big_quiet_want
                refine ⟨.int .i64 (n : Int), fun W hW => ?_, ?_⟩
                · obtain ⟨z0, z1, z2, z3, z4⟩ := HL.out W hW
                  go_simp
                go_big_quiet_on
                simp only [Act.put, List.setIfInBounds_toArray, List.set_cons_zero, List.set_cons_succ]
                go_big_quiet_want
                go_big_quiet_op
                go_big_quiet_on
                go_big_quiet_want
                refine ⟨.bool false, fun W hW => ?_, ?_⟩
                · go_simp
                go_big_quiet_on
                simp only [Act.put, List.setIfInBounds_toArray, List.set_cons_zero, List.set_cons_succ]
                go_big_quiet_want
                go_big_quiet_op
                go_big_quiet_on
                go_big_quiet_skip
                go_big_quiet_skip
                go_big_quiet_skip
                go_big_quiet_skip
                go_big_quiet_skip
                go_big_quiet_skip
                go_big_quiet_want
                refine ⟨.bool false, fun W hW => ?_, ?_⟩
                · go_simp
                go_big_quiet_on
                simp only [Act.put, List.setIfInBounds_toArray, List.set_cons_zero, List.set_cons_succ]
                go_big_quiet_want
                go_big_quiet_op
                go_big_quiet_on
                go_big_quiet_skip
                go_big_quiet_skip
                go_big_quiet_skip
                go_big_quiet_skip
                go_big_quiet_skip
                go_big_quiet_skip
                go_big_quiet_skip
                go_big_quiet_skip
                go_big_quiet_skip
                go_big_quiet_skip
                go_big_quiet_skip
                go_big_quiet_skip
                go_big_quiet_skip
                go_big_quiet_want
                refine ⟨.bool false, fun W hW => ?_, ?_⟩
                · go_simp
                go_big_quiet_on
                simp only [Act.put, List.setIfInBounds_toArray, List.set_cons_zero, List.set_cons_succ]
                go_big_quiet_want
                go_big_quiet_op
                go_big_quiet_on
                refine wpQuiet_nil ?_
                intro W hW
                go_wp2_with fail
                go_roundw
                case rel => exact ⟨i + 1, by go_num, by omega, bel0 hBA hW⟩
                case measure => simp [intOf]; omega
            · have q1 : ¬ (i : Int) ≤ (j : Int) := by omega
              go_wp2_with fail
              go_ret
              exact ⟨rfl, hB⟩
end Go.Proofs.Ytfcdaljhbeogeaa
