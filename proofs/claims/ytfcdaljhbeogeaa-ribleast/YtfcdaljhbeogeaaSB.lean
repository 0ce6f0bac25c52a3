import Derived.Test.YtfcdaljhbeogeaaSA
namespace Go.Proofs.Ytfcdaljhbeogeaa
open Go.RowKit
set_option maxRecDepth 100000 in
set_option maxHeartbeats 4000000 in
theorem ribWays_walk (N : Int) (E : List IRt) (D : List Int) (ne nd : Nat) (oe od : Option Addr) (ce cd : Nat) (w : World) (hne : E.length = ne) (hnd : D.length = nd) (hE : IRR w oe E) (hD : IRI w od D) :
    Calls Try.prog 5 #[.int .i64 N, .slice oe ne ce, .slice od nd cd] w fun e w' => e = .returned (.bool true) ∧ Below w.heap.size w w' := by
  have HAW : Hid (Calls Try.prog 22 #[] w fun e w' => e = .returned (.bool true) ∧ Below w.heap.size w w') := awake_any w
  by_cases h60 : 60 < ne
  · have i1 : (60 : Int) < (ne : Int) := by omega
    clear hE hD
    go_enter Try.func5, Try.ntmps5
    go_wp2_with fail
    refine HAW.out.mono ?_
    rintro e W0 ⟨rfl, hb0⟩
    go_wp2_with fail
    go_ret
    exact ⟨rfl, hb0⟩
  have i1 : ¬ (60 : Int) < (ne : Int) := by omega
  by_cases k60 : 60 < nd
  · have i2 : (60 : Int) < (nd : Int) := by omega
    clear hE hD
    go_enter Try.func5, Try.ntmps5
    go_wp2_with fail
    refine HAW.out.mono ?_
    rintro e W0 ⟨rfl, hb0⟩
    go_wp2_with fail
    go_ret
    exact ⟨rfl, hb0⟩
  have i2 : ¬ (60 : Int) < (nd : Int) := by omega
  by_cases hF : gfit N E D = 0
  · obtain ⟨h1, -, -⟩ := gfit_ok hF
    obtain ⟨n, rfl⟩ : ∃ n : Nat, N = n := ⟨N.toNat, by omega⟩
    have hn0 : 0 < n := by omega
    have HB : Hid (∀ W, Below w.heap.size w W → Calls Try.prog 10 #[.int .i64 (n : Int), .slice oe ne ce, .slice od nd cd] W fun e w' => ∃ (A B : List Int) (va vb : Value), e = .returned (.tuple #[va, vb, .int .i64 0]) ∧ shortR (n : Int) E D A B ∧ w'.ownsRow W.heap.size 3 1 va A.length (iv A) ∧ w'.ownsRow W.heap.size 3 1 vb B.length (iv B) ∧ Below W.heap.size W w') := fun W hW => by
      have := bshort_any (n : Int) E D oe od ce cd ne nd W hne hnd (hE.later hW) (hD.later hW)
      rw [hF] at this
      exact this
    have HK : Hid (∀ A B, shortR (n : Int) E D A B → ((A.length : Int) = (n : Int) ∧ (B.length : Int) = (n : Int)) ∧ (n : Int) ≤ 16 ∧ (∀ e ∈ E, 0 ≤ e.1 ∧ e.1 < (n : Int) ∧ 0 ≤ e.2.1 ∧ e.2.1 < (n : Int) ∧ 1 ≤ e.2.2.1 ∧ e.2.2.1 ≤ 9999) ∧ (∀ d ∈ D, 0 ≤ d ∧ d < (n : Int) ∧ gF A d.toNat = 0) ∧ (∀ u, -1 ≤ gF A u ∧ gF A u ≤ 159984) ∧ (∀ e ∈ E, 0 ≤ gF A e.2.1.toNat → 0 ≤ gF A e.1.toNat ∧ gF A e.1.toNat ≤ gF A e.2.1.toNat + e.2.2.1) ∧ ∀ k : Nat, (k : Int) < (n : Int) → wayP E D A B k) := fun A B h => way_ok h hF
    have HE : Hid (IRR w oe E) := hE
    have HD : Hid (IRI w od D) := hD
    have HN : Hid (E.length = ne ∧ D.length = nd) := ⟨hne, hnd⟩
    have y0 : ((0 : Int) == 0) = true := rfl
    have y1 : ((n : Int) == (n : Int)) = true := beq_self_eq_true _
    clear hE hD hne hnd hF
    go_enter Try.func5, Try.ntmps5
    go_wp2_with fail
    refine HAW.out.mono ?_
    rintro e W0 ⟨rfl, hb0⟩
    have HB0 : Hid (Calls Try.prog 10 #[.int .i64 (n : Int), .slice oe ne ce, .slice od nd cd] W0 fun e w' => ∃ (A B : List Int) (va vb : Value), e = .returned (.tuple #[va, vb, .int .i64 0]) ∧ shortR (n : Int) E D A B ∧ w'.ownsRow W0.heap.size 3 1 va A.length (iv A) ∧ w'.ownsRow W0.heap.size 3 1 vb B.length (iv B) ∧ Below W0.heap.size W0 w') := HB.out W0 hb0
    clear HB HAW
    go_wp2_with fail
    refine HB0.out.mono ?_
    rintro e W1 ⟨A, B, va, vb, rfl, hs, ra, rb, hb1⟩
    obtain ⟨⟨la, lb⟩, hn16, f1, f2, f3, f4, f5⟩ := HK.out A B hs
    have la' : A.length = n := by omega
    have lb' : B.length = n := by omega
    rw [la'] at ra
    rw [lb'] at rb
    obtain ⟨qa, ca, rfl⟩ := shapeP ra
    obtain ⟨ga, rfl⟩ := rown_at ra hn0
    obtain ⟨qb, cb, rfl⟩ := shapeP rb
    obtain ⟨gb, rfl⟩ := rown_at rb hn0
    have hb1' := bel0 hb0 hb1
    have HA : Hid (IRI W1 (some ⟨ga, 0, none⟩) A ∧ A.length = n ∧ IRI W1 (some ⟨gb, 0, none⟩) B ∧ B.length = n) := ⟨IRI_of ra, la', IRI_of rb, lb'⟩
    have HE1 : Hid (IRR W1 oe E ∧ IRI W1 od D) := ⟨HE.out.later hb1', HD.out.later hb1'⟩
    have HP : Hid ((∀ e ∈ E, 0 ≤ e.1 ∧ e.1 < (n : Int) ∧ 0 ≤ e.2.1 ∧ e.2.1 < (n : Int) ∧ 1 ≤ e.2.2.1 ∧ e.2.2.1 ≤ 9999) ∧ (∀ d ∈ D, 0 ≤ d ∧ d < (n : Int) ∧ gF A d.toNat = 0) ∧ (∀ u, -1 ≤ gF A u ∧ gF A u ≤ 159984) ∧ (∀ e ∈ E, 0 ≤ gF A e.2.1.toNat → 0 ≤ gF A e.1.toNat ∧ gF A e.1.toNat ≤ gF A e.2.1.toNat + e.2.2.1) ∧ ∀ k : Nat, (k : Int) < (n : Int) → wayP E D A B k) := ⟨f1, f2, f3, f4, f5⟩
    have HBL : Hid (Calls Try.prog 23 #[.int .i64 (n : Int), .slice oe ne ce, .slice od nd cd] W1 fun e w' => e = .returned (.bool true) ∧ Below W1.heap.size W1 w') := below_any (n : Int) E D oe od ce cd ne nd W1 HN.out.1 HN.out.2 (by omega) (by omega) HE1.out.1 HE1.out.2 (fun e he => ⟨(f1 e he).1, (f1 e he).2.1, (f1 e he).2.2.1, (f1 e he).2.2.2.1⟩) (fun d hd => ⟨(f2 d hd).1, (f2 d hd).2.1⟩)
    have HWY : Hid (∀ (k : Nat) (W : World), k < n → Below W1.heap.size W1 W → Calls Try.prog 24 #[.slice (some ⟨ga, 0, none⟩) n ca, .slice (some ⟨gb, 0, none⟩) n cb, .slice oe ne ce, .slice od nd cd, .int .i64 (k : Int)] W fun e w' => e = .returned (.bool true) ∧ Below W.heap.size W w') := fun k W hk hW => way_any n k E D A B ga 0 gb 0 oe od ca cb ce cd ne nd W HN.out.1 HN.out.2 (by omega) (by omega) (by omega) HA.out.2.1 HA.out.2.2.2 (HA.out.1.later hW) (HA.out.2.2.1.later hW) (HE1.out.1.later hW) (HE1.out.2.later hW) HP.out.1 HP.out.2.2.1 hk (HP.out.2.2.2.2 k (by omega))
    clear HB0 HK hs ra rb la lb la' lb' f1 f2 f3 f4 f5 HE HD hb0 hb1
    go_wp2_with fail
    refine HBL.out.mono ?_
    rintro e W2 ⟨rfl, hb2⟩
    clear HBL
    go_wp2_with fail
    go_loopw [10] (fun vi wr => ∃ i : Nat, vi = .int .i64 (i : Int) ∧ i ≤ nd ∧ Below W1.heap.size W1 wr) (fun vi _ => nd - (intOf vi).toNat)
    case atStart => exact ⟨0, rfl, Nat.zero_le _, hb2⟩
    case round =>
      clear hb2
      obtain ⟨i, rfl, hin, hB⟩ := hrel
      by_cases hlt : i < nd
      · have j1 : (i : Int) < (nd : Int) := by omega
        have j0 : (0 : Int) ≤ (i : Int) := by omega
        obtain ⟨d, hdi⟩ : ∃ d, D[i]? = some d := ⟨_, List.getElem?_eq_getElem (by rw [HN.out.2]; omega)⟩
        obtain ⟨m1, m2, m3⟩ := HP.out.2.1 d (List.mem_of_getElem? hdi)
        obtain ⟨m, rfl⟩ : ∃ m : Nat, d = m := ⟨d.toNat, by omega⟩
        obtain ⟨gd, oo, rfl, p0⟩ := HE1.out.2 _ hB i _ hdi
        rw [Int.toNat_natCast] at m3
        have p1 := iri_cell HA.out.1 (gF_at (F := A) (v := m) (by rw [HA.out.2.1]; omega)) hB
        rw [m3] at p1
        simp only [Nat.zero_add] at p1
        clear hdi m3
        go_wp2_with fail
        go_roundw
        case rel => exact ⟨i + 1, by go_num, by omega, hB⟩
        case measure => simp [intOf]; omega
      · have j1 : ¬ (i : Int) < (nd : Int) := by omega
        go_wp2_with fail
        obtain ⟨W3, rfl⟩ : ∃ W3, W3 = wr := ⟨wr, rfl⟩
        go_loopw [11] (fun vi wr => ∃ i : Nat, vi = .int .i64 (i : Int) ∧ i ≤ ne ∧ Below W1.heap.size W1 wr) (fun vi _ => ne - (intOf vi).toNat)
        case atStart => exact ⟨0, rfl, Nat.zero_le _, hB⟩
        case round =>
          clear hB
          obtain ⟨i, rfl, hin, hB⟩ := hrel
          by_cases hlt : i < ne
          · have q2 : (i : Int) < (ne : Int) := by omega
            have q0 : (0 : Int) ≤ (i : Int) := by omega
            obtain ⟨e, hei⟩ : ∃ e, E[i]? = some e := ⟨_, List.getElem?_eq_getElem (by rw [HN.out.1]; omega)⟩
            obtain ⟨g1, g2, g3, g4, g5, g6⟩ := HP.out.1 e (List.mem_of_getElem? hei)
            have g7 := HP.out.2.2.2.1 e (List.mem_of_getElem? hei)
            obtain ⟨t, hn⟩ : ∃ t : Nat, e.1 = (t : Int) := ⟨e.1.toNat, by omega⟩
            obtain ⟨m, hm⟩ : ∃ m : Nat, e.2.1 = (m : Int) := ⟨e.2.1.toNat, by omega⟩
            have htk : t < n := by omega
            have hmk : m < n := by omega
            obtain ⟨ge, oo, rfl, -⟩ := HE1.out.1 wr hB i e hei
            obtain ⟨p0, p1, p2, p3⟩ := irr_cells HE1.out.1 hei hB
            obtain ⟨OB, hOB⟩ : ∃ OB : Obj, Obj.cells #[.int .i64 e.1, .int .i64 e.2.1, .int .i64 e.2.2.1, .int .i64 e.2.2.2] 34 = OB := ⟨_, rfl⟩
            have hR : (wr.alloc OB).heap[wr.heap.size]? = some (.cells #[.int .i64 e.1, .int .i64 e.2.1, .int .i64 e.2.2.1, .int .i64 e.2.2.2] 34 (0, 0)) := by rw [← hOB]; exact alloc_get _ _
            have hBA : Below W1.heap.size W1 (wr.alloc OB) := hB.alloc hB.size _
            obtain ⟨c, hc⟩ : ∃ c, e.2.2.1 = c := ⟨_, rfl⟩
            obtain ⟨ou, hou⟩ : ∃ ou, e.2.2.2 = ou := ⟨_, rfl⟩
            have hcb : 1 ≤ c ∧ c ≤ 9999 := by omega
            rw [hn, hm, hc, Int.toNat_natCast, Int.toNat_natCast] at g7
            rw [hn] at p0 hR hOB
            rw [hm] at p1 hR hOB
            rw [hc] at p2 hR hOB
            rw [hou] at p3 hR hOB
            obtain ⟨x, hx⟩ : ∃ x, gF A t = x := ⟨_, rfl⟩
            obtain ⟨y, hy⟩ : ∃ y, gF A m = y := ⟨_, rfl⟩
            have hyb : y ≤ 159984 := hy ▸ (HP.out.2.2.1 m).2
            rw [hx, hy] at g7
            have G7 : Hid (0 ≤ y → 0 ≤ x ∧ x ≤ y + c) := g7
            clear g1 g2 g3 g4 g5 g6 g7 hei hn hm hc hou
            go_upto_region 19 with fail
            try rw [hOB]
            generalize wr.alloc OB = w3 at hR hBA ⊢
            generalize wr.heap.size = R at hR ⊢
            clear hOB p0 p1 p2 p3 hB
            have HL : Hid (∀ W, Below w3.heap.size w3 W → W.cell? ⟨R, 0, none⟩ = some (.int .i64 (t : Int)) ∧ W.cell? ⟨R, 1, none⟩ = some (.int .i64 (m : Int)) ∧ W.cell? ⟨R, 2, none⟩ = some (.int .i64 c) ∧ W.cell? ⟨ga, m, none⟩ = some (.int .i64 y) ∧ W.cell? ⟨ga, t, none⟩ = some (.int .i64 x)) := fun W hW => by
              have r2 := iri_cell HA.out.1 (gF_at (F := A) (v := m) (by rw [HA.out.2.1]; exact hmk)) (bel0 hBA hW)
              have r3 := iri_cell HA.out.1 (gF_at (F := A) (v := t) (by rw [HA.out.2.1]; exact htk)) (bel0 hBA hW)
              rw [hy, Nat.zero_add] at r2
              rw [hx, Nat.zero_add] at r3
              exact ⟨cell_of_row _ _ 0 _ _ _ (keepblk hW hR), cell_of_row _ _ 1 _ _ _ (keepblk hW hR), cell_of_row _ _ 2 _ _ _ (keepblk hW hR), r2, r3⟩
            have n0 : (0 : Int) ≤ (t : Int) := by omega
            have n1 : (t : Int) < (n : Int) := by omega
            have n2 : (0 : Int) ≤ (m : Int) := by omega
            have n3 : (m : Int) < (n : Int) := by omega
            clear hx hy
            by_cases c1 : 0 ≤ y
            · obtain ⟨sm, hsm⟩ : ∃ sm : Int, c + y = sm := ⟨_, rfl⟩
              have esm : IntKind.i64.wrap (c + y) = sm := by rw [IntKind.wrap_i64]; omega
              have c2 : ¬ x < 0 := by have := G7.out c1; omega
              have c3 : ¬ sm < x := by have := G7.out c1; omega
              clear hsm
              refine quiet_lit3 (C := fun W => Below w3.heap.size w3 W) (by kernel_rfl) (by kernel_rfl) (show Below _ _ _ from (Below.refl _ _).drew) ?_
              go_big_quiet_want
              go_big_quiet_op
              go_big_quiet_on
              go_big_quiet_want
              refine ⟨.pointer (some ⟨R, 1, none⟩), fun W hW => ?_, ?_⟩
              · go_simp
              go_big_quiet_on
              simp only [Act.put, List.setIfInBounds_toArray, List.set_cons_zero, List.set_cons_succ]
              go_big_quiet_want
              refine ⟨.int .i64 (m : Int), fun W hW => ?_, ?_⟩
              · obtain ⟨z0, z1, z2, z3, z4⟩ := HL.out W hW
                go_simp
              go_big_quiet_on
              simp only [Act.put, List.setIfInBounds_toArray, List.set_cons_zero, List.set_cons_succ]
              go_big_quiet_want
              refine ⟨.pointer (some ⟨ga, m, none⟩), fun W hW => ?_, ?_⟩
              · go_simp
              go_big_quiet_on
              simp only [Act.put, List.setIfInBounds_toArray, List.set_cons_zero, List.set_cons_succ]
              go_big_quiet_want
              refine ⟨.int .i64 y, fun W hW => ?_, ?_⟩
              · obtain ⟨z0, z1, z2, z3, z4⟩ := HL.out W hW
                go_simp
              go_big_quiet_on
              simp only [Act.put, List.setIfInBounds_toArray, List.set_cons_zero, List.set_cons_succ]
              go_big_quiet_want
              refine ⟨.bool true, fun W hW => ?_, ?_⟩
              · go_simp
              go_big_quiet_on
              simp only [Act.put, List.setIfInBounds_toArray, List.set_cons_zero, List.set_cons_succ]
              go_big_quiet_want
              go_big_quiet_op
              go_big_quiet_on
              go_big_quiet_want
              go_big_quiet_op
              go_big_quiet_on
              go_big_quiet_want
              refine ⟨.pointer (some ⟨R, 0, none⟩), fun W hW => ?_, ?_⟩
              · go_simp
              go_big_quiet_on
              simp only [Act.put, List.setIfInBounds_toArray, List.set_cons_zero, List.set_cons_succ]
              go_big_quiet_want
              refine ⟨.int .i64 (t : Int), fun W hW => ?_, ?_⟩
              · obtain ⟨z0, z1, z2, z3, z4⟩ := HL.out W hW
                go_simp
              go_big_quiet_on
              simp only [Act.put, List.setIfInBounds_toArray, List.set_cons_zero, List.set_cons_succ]
              go_big_quiet_want
              refine ⟨.pointer (some ⟨ga, t, none⟩), fun W hW => ?_, ?_⟩
              · go_simp
              go_big_quiet_on
              simp only [Act.put, List.setIfInBounds_toArray, List.set_cons_zero, List.set_cons_succ]
              go_big_quiet_want
              refine ⟨.int .i64 x, fun W hW => ?_, ?_⟩
              · obtain ⟨z0, z1, z2, z3, z4⟩ := HL.out W hW
                go_simp
              go_big_quiet_on
              simp only [Act.put, List.setIfInBounds_toArray, List.set_cons_zero, List.set_cons_succ]
              go_big_quiet_want
              refine ⟨.bool false, fun W hW => ?_, ?_⟩
              · go_simp
              go_big_quiet_on
              simp only [Act.put, List.setIfInBounds_toArray, List.set_cons_zero, List.set_cons_succ]
              go_big_quiet_want
              go_big_quiet_op
              go_big_quiet_on
              go_big_quiet_want
              go_big_quiet_op
              go_big_quiet_on
              go_big_quiet_want
              refine ⟨.pointer (some ⟨R, 0, none⟩), fun W hW => ?_, ?_⟩
              · go_simp
              go_big_quiet_on
              simp only [Act.put, List.setIfInBounds_toArray, List.set_cons_zero, List.set_cons_succ]
              go_big_quiet_want
              refine ⟨.int .i64 (t : Int), fun W hW => ?_, ?_⟩
              · obtain ⟨z0, z1, z2, z3, z4⟩ := HL.out W hW
                go_simp
              go_big_quiet_on
              simp only [Act.put, List.setIfInBounds_toArray, List.set_cons_zero, List.set_cons_succ]
              go_big_quiet_want
              refine ⟨.pointer (some ⟨ga, t, none⟩), fun W hW => ?_, ?_⟩
              · go_simp
              go_big_quiet_on
              simp only [Act.put, List.setIfInBounds_toArray, List.set_cons_zero, List.set_cons_succ]
              go_big_quiet_want
              refine ⟨.int .i64 x, fun W hW => ?_, ?_⟩
              · obtain ⟨z0, z1, z2, z3, z4⟩ := HL.out W hW
                go_simp
              go_big_quiet_on
              simp only [Act.put, List.setIfInBounds_toArray, List.set_cons_zero, List.set_cons_succ]
              go_big_quiet_want
              refine ⟨.pointer (some ⟨R, 2, none⟩), fun W hW => ?_, ?_⟩
              · go_simp
              go_big_quiet_on
              simp only [Act.put, List.setIfInBounds_toArray, List.set_cons_zero, List.set_cons_succ]
              go_big_quiet_want
              refine ⟨.int .i64 c, fun W hW => ?_, ?_⟩
              · obtain ⟨z0, z1, z2, z3, z4⟩ := HL.out W hW
                go_simp
              go_big_quiet_on
              simp only [Act.put, List.setIfInBounds_toArray, List.set_cons_zero, List.set_cons_succ]
              go_big_quiet_want
              go_big_quiet_op
              go_big_quiet_on
              go_big_quiet_want
              refine ⟨.pointer (some ⟨R, 1, none⟩), fun W hW => ?_, ?_⟩
              · go_simp
              go_big_quiet_on
              simp only [Act.put, List.setIfInBounds_toArray, List.set_cons_zero, List.set_cons_succ]
              go_big_quiet_want
              refine ⟨.int .i64 (m : Int), fun W hW => ?_, ?_⟩
              · obtain ⟨z0, z1, z2, z3, z4⟩ := HL.out W hW
                go_simp
              go_big_quiet_on
              simp only [Act.put, List.setIfInBounds_toArray, List.set_cons_zero, List.set_cons_succ]
              go_big_quiet_want
              refine ⟨.pointer (some ⟨ga, m, none⟩), fun W hW => ?_, ?_⟩
              · go_simp
              go_big_quiet_on
              simp only [Act.put, List.setIfInBounds_toArray, List.set_cons_zero, List.set_cons_succ]
              go_big_quiet_want
              refine ⟨.int .i64 y, fun W hW => ?_, ?_⟩
              · obtain ⟨z0, z1, z2, z3, z4⟩ := HL.out W hW
                go_simp
              go_big_quiet_on
              simp only [Act.put, List.setIfInBounds_toArray, List.set_cons_zero, List.set_cons_succ]
              go_big_quiet_want
              refine ⟨.int .i64 sm, fun W hW => ?_, ?_⟩
              · go_simp
              go_big_quiet_on
              simp only [Act.put, List.setIfInBounds_toArray, List.set_cons_zero, List.set_cons_succ]
              go_big_quiet_want
              refine ⟨.bool false, fun W hW => ?_, ?_⟩
              · go_simp
              go_big_quiet_on
              simp only [Act.put, List.setIfInBounds_toArray, List.set_cons_zero, List.set_cons_succ]
              go_big_quiet_want
              refine ⟨.bool false, fun W hW => ?_, ?_⟩
              · go_simp
              go_big_quiet_on
              simp only [Act.put, List.setIfInBounds_toArray, List.set_cons_zero, List.set_cons_succ]
              go_big_quiet_want
              refine ⟨.bool false, fun W hW => ?_, ?_⟩
              · go_simp
              go_big_quiet_on
              simp only [Act.put, List.setIfInBounds_toArray, List.set_cons_zero, List.set_cons_succ]
              refine wpQuiet_nil ?_
              intro W hW
              go_wp2_with fail
              go_roundw
              case rel => exact ⟨i + 1, by go_num, by omega, bel0 hBA hW⟩
              case measure => simp [intOf]; omega
            · have c2 : ¬ 0 ≤ y := c1
              clear c1
              refine quiet_lit3 (C := fun W => Below w3.heap.size w3 W) (by kernel_rfl) (by kernel_rfl) (show Below _ _ _ from (Below.refl _ _).drew) ?_
              go_big_quiet_want
              go_big_quiet_op
              go_big_quiet_on
              go_big_quiet_want
              refine ⟨.pointer (some ⟨R, 1, none⟩), fun W hW => ?_, ?_⟩
              · go_simp
              go_big_quiet_on
              simp only [Act.put, List.setIfInBounds_toArray, List.set_cons_zero, List.set_cons_succ]
              go_big_quiet_want
              refine ⟨.int .i64 (m : Int), fun W hW => ?_, ?_⟩
              · obtain ⟨z0, z1, z2, z3, z4⟩ := HL.out W hW
                go_simp
              go_big_quiet_on
              simp only [Act.put, List.setIfInBounds_toArray, List.set_cons_zero, List.set_cons_succ]
              go_big_quiet_want
              refine ⟨.pointer (some ⟨ga, m, none⟩), fun W hW => ?_, ?_⟩
              · go_simp
              go_big_quiet_on
              simp only [Act.put, List.setIfInBounds_toArray, List.set_cons_zero, List.set_cons_succ]
              go_big_quiet_want
              refine ⟨.int .i64 y, fun W hW => ?_, ?_⟩
              · obtain ⟨z0, z1, z2, z3, z4⟩ := HL.out W hW
                go_simp
              go_big_quiet_on
              simp only [Act.put, List.setIfInBounds_toArray, List.set_cons_zero, List.set_cons_succ]
              go_big_quiet_want
              refine ⟨.bool false, fun W hW => ?_, ?_⟩
              · go_simp
              go_big_quiet_on
              simp only [Act.put, List.setIfInBounds_toArray, List.set_cons_zero, List.set_cons_succ]
              go_big_quiet_want
              go_big_quiet_op
              go_big_quiet_on
              go_big_quiet_skip
              go_big_quiet_skip
              go_big_quiet_skip
              go_big_quiet_skip
              go_big_quiet_skip
              go_big_quiet_skip
              go_big_quiet_skip
              go_big_quiet_skip
              go_big_quiet_skip
              go_big_quiet_skip
              go_big_quiet_skip
              go_big_quiet_skip
              go_big_quiet_skip
              go_big_quiet_skip
              go_big_quiet_skip
              go_big_quiet_skip
              go_big_quiet_skip
              go_big_quiet_skip
              go_big_quiet_skip
              go_big_quiet_skip
              go_big_quiet_skip
              go_big_quiet_skip
              go_big_quiet_want
              refine ⟨.bool false, fun W hW => ?_, ?_⟩
              · go_simp
              go_big_quiet_on
              simp only [Act.put, List.setIfInBounds_toArray, List.set_cons_zero, List.set_cons_succ]
              refine wpQuiet_nil ?_
              intro W hW
              go_wp2_with fail
              go_roundw
              case rel => exact ⟨i + 1, by go_num, by omega, bel0 hBA hW⟩
              case measure => simp [intOf]; omega
          · have q2 : ¬ (i : Int) < (ne : Int) := by omega
            go_wp2_with fail
            obtain ⟨W4, rfl⟩ : ∃ W4, W4 = wr := ⟨wr, rfl⟩
            go_loopw [13] (fun vi wr => ∃ i : Nat, vi = .int .i64 (i : Int) ∧ i ≤ n ∧ Below W1.heap.size W1 wr) (fun vi _ => n - (intOf vi).toNat)
            case atStart => exact ⟨0, rfl, Nat.zero_le _, hB⟩
            case round =>
              clear hB
              obtain ⟨i, rfl, hin, hB⟩ := hrel
              by_cases hlt : i < n
              · have q3 : (i : Int) < (n : Int) := by omega
                go_wp2_with fail
                refine (HWY.out i _ hlt hB).mono ?_
                rintro e W5 ⟨rfl, hb5⟩
                go_wp2_with fail
                go_roundw
                case rel => exact ⟨i + 1, by go_num, by omega, bel0 hB hb5⟩
                case measure => simp [intOf]; omega
              · have q3 : ¬ (i : Int) < (n : Int) := by omega
                go_wp2_with fail
                go_ret
                exact ⟨rfl, bel0 hb1' hB⟩
  · obtain ⟨F, hFF⟩ : ∃ F, gfit N E D = F := ⟨_, rfl⟩
    have HB : Hid (∀ W, Below w.heap.size w W → Calls Try.prog 10 #[.int .i64 N, .slice oe ne ce, .slice od nd cd] W fun e w' => ∃ (A B : List Int) (va vb : Value), e = .returned (.tuple #[va, vb, .int .i64 F]) ∧ shortR N E D A B ∧ w'.ownsRow W.heap.size 3 1 va A.length (iv A) ∧ w'.ownsRow W.heap.size 3 1 vb B.length (iv B) ∧ Below W.heap.size W w') := fun W hW => by
      have := bshort_any N E D oe od ce cd ne nd W hne hnd (hE.later hW) (hD.later hW)
      rw [hFF] at this
      exact this
    have HK : Hid (∀ A B, shortR N E D A B → A = [] ∧ B = []) := fun A B h => by
      unfold shortR at h
      rw [if_neg hF] at h
      exact h
    have y0 : (F == 0) = false := beq_eq_false_iff_ne.2 (by rw [← hFF]; exact hF)
    clear hE hD hne hnd hF hFF
    go_enter Try.func5, Try.ntmps5
    go_wp2_with fail
    refine HAW.out.mono ?_
    rintro e W0 ⟨rfl, hb0⟩
    have HB0 : Hid (Calls Try.prog 10 #[.int .i64 N, .slice oe ne ce, .slice od nd cd] W0 fun e w' => ∃ (A B : List Int) (va vb : Value), e = .returned (.tuple #[va, vb, .int .i64 F]) ∧ shortR N E D A B ∧ w'.ownsRow W0.heap.size 3 1 va A.length (iv A) ∧ w'.ownsRow W0.heap.size 3 1 vb B.length (iv B) ∧ Below W0.heap.size W0 w') := HB.out W0 hb0
    clear HB HAW
    go_wp2_with fail
    refine HB0.out.mono ?_
    rintro e W1 ⟨A, B, va, vb, rfl, hs, ra, rb, hb1⟩
    obtain ⟨rfl, rfl⟩ := HK.out A B hs
    obtain ⟨qa, ca, rfl⟩ := shapeP (n := 0) ra
    obtain ⟨qb, cb, rfl⟩ := shapeP (n := 0) rb
    have hB := bel0 hb0 hb1
    clear HB0 HK hs ra rb
    go_wp2_with fail
    go_ret
    exact ⟨rfl, hB⟩
end Go.Proofs.Ytfcdaljhbeogeaa
