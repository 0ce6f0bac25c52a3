import Derived.Test.YtfcdaljhbeogeaaBS
namespace Go.Proofs.Ytfcdaljhbeogeaa
open Go.RowKit
/-- two rows of one's own lie apart -/
def AP (a b : Value) : Prop := ∀ k, a.ownBlock = some k → b.ownBlock ≠ some k
theorem AP.kept {a b : Value} (h : AP a b) : a.ownBlock = none ∨ a.ownBlock ≠ b.ownBlock := by
  cases e : a.ownBlock with
  | none => exact .inl rfl
  | some k => exact .inr (fun e2 => h k e e2.symm)
def slen (v : Value) : Nat := match v with
  | .slice _ n _ => n
  | _ => 0
theorem slen_own {W : World} {B n sz : Nat} {e : TypeId} {v : Value} {xs : List Value} (h : W.ownsRow B e sz v n xs) : slen v = n := by
  obtain ⟨p, c, rfl⟩ := shapeP h
  rfl
theorem rel_at {W : World} {B g n c : Nat} {K : List IRt} (h : W.ownsRow B 59 4 (.slice (some ⟨g, 0, none⟩) n c) n (rels K)) {k : Nat} {t : IRt} (ht : K[k]? = some t) : W.cell? ⟨g, k * 4, none⟩ = some (.int .i64 t.1) ∧ W.cell? ⟨g, k * 4 + 1, none⟩ = some (.int .i64 t.2.1) ∧ W.cell? ⟨g, k * 4 + 2, none⟩ = some (.int .i64 t.2.2.1) ∧ W.cell? ⟨g, k * 4 + 3, none⟩ = some (.int .i64 t.2.2.2) := by
  obtain ⟨g3, o3, e, h0, h1, h2, h3⟩ := IRR_own h _ (Below.refl _ _) k t ht
  injection e with e
  injection e with e1 e2
  subst e1 e2
  simp only [Nat.zero_add] at h0 h1 h2 h3
  exact ⟨h0, h1, h2, h3⟩
theorem flt_take {R : List IRt} {q : IRt → Bool} {i : Nat} {x : IRt} (hx : R[i]? = some x) : (R.take (i + 1)).filter q = (R.take i).filter q ++ (if q x = true then [x] else []) := by
  rw [List.take_add_one, hx, List.filter_append]
  congr 1
  simp [List.filter]
  split <;> simp_all
set_option maxRecDepth 100000 in
set_option maxHeartbeats 4000000 in
theorem qorder_any (L : List IRt) (o : Option Addr) (c : Nat) (w : World) (hL : L.length ≤ 270) (hr : IRR w o L) :
    Calls Try.prog 38 #[.slice o L.length c] w fun e w' => ∃ (O : List IRt) (v : Value), e = .returned v ∧ OrdOf L O ∧ w'.ownsRow w.heap.size 59 4 v O.length (rels O) ∧ Below w.heap.size w w' := by
  obtain ⟨i0, hi, hz0, hz1, hz2⟩ := info_parts info_rt
  have hlr := rels_len L
  cases o with
  | none =>
    have h0 : L = [] := by
      cases L with
      | nil => rfl
      | cons r L =>
        obtain ⟨g, o0, e, -⟩ := hr w (Below.refl _ _) 0 r rfl
        cases e
    subst h0
    show Calls Try.prog 38 #[.slice none 0 c] w _
    go_enter Try.func38, Try.ntmps38
    go_wp2_with fail
    go_loopw [3, 4] (fun v3 v4 wr => v3 = .slice none 0 0 ∧ v4 = .slice none 0 0 ∧ wr = w) (fun _ _ _ => 0)
    case atStart => exact ⟨rfl, rfl, rfl⟩
    case round =>
      obtain ⟨rfl, rfl, rfl⟩ := hrel
      go_wp2_with fail
      go_ret
      exact ⟨[], _, rfl, RInv.done (RInv.start []), World.ownsRow_nil _ _ _ _, Below.refl _ _⟩
  | some ad =>
    have HNW : Hid (∀ (j : Nat) (u : Value), (rels L)[j]? = some u → w.cell? (ad.add j) = some u) := fun j u h => by
      cases L with
      | nil => simp [rels] at h
      | cons r L =>
        obtain ⟨g, o0, e, -⟩ := hr w (Below.refl _ _) 0 r rfl
        injection e with e
        subst e
        have := rels_news hr j u h
        unfold Addr.add
        split
        · rename_i e
          subst e
          simpa using this
        · exact this
    have HON : Hid (∀ u ∈ rels L, u.oneCell' = true) := rels_one
    obtain ⟨n, hn⟩ : ∃ n, L.length = n := ⟨_, rfl⟩
    have HN : Hid (L.length = n) := hn
    rw [hn] at hlr hL ⊢
    clear hr hn
    obtain ⟨v0, hv0⟩ : ∃ v0, Value.slice none 0 0 = v0 := ⟨_, rfl⟩
    have oZ : w.ownsRow w.heap.size 59 4 v0 0 [] := by rw [← hv0]; exact World.ownsRow_nil _ _ _ _
    have nZ : v0.ownBlock = none := by rw [← hv0]; rfl
    have HV0 : Hid (Value.slice none 0 0 = v0) := hv0
    go_enter Try.func38, Try.ntmps38
    go_upto_region 2 with fail
    simp only [hv0]
    go_wp2_with (at_builtin; refine wpList_append_own _ rfl _ _ 36 rfl w.heap.size 59 i0 _ 4 32 Try.underlying36 hi hz0 hz1 hz2 rfl (by decide) _ 0 [] rfl oZ ad n c (rels L) rfl hlr HNW.out HON.out (by unfold maxLen; omega) (by omega) (Nat.le_refl _) ?_; intro v5 w5 oA hg5 _)
    have hB5 : Below w.heap.size w w5 := (Below.refl _ _).grown hg5 (Nat.le_refl _) (fun k e => (oZ.lt k e).1)
    rw [Nat.zero_add, List.nil_append] at oA
    try simp only [hv0]
    go_loopw [3, 4] (fun v3 v4 wr => ∃ R O : List IRt, Hid (RInv L R O) ∧ Hid (wr.ownsRow w.heap.size 59 4 v3 R.length (rels R)) ∧ Hid (wr.ownsRow w.heap.size 59 4 v4 O.length (rels O)) ∧ Hid (AP v3 v4) ∧ Below w.heap.size w wr) (fun v3 _ _ => slen v3)
    case atStart => exact ⟨L, [], RInv.start L, by unfold Hid; rw [HN.out]; exact oA, by unfold Hid; first | (rw [hv0]; exact World.ownsRow_nil _ _ _ _) | exact World.ownsRow_nil _ _ _ _ | (rw [← hv0]; exact World.ownsRow_nil _ _ _ _), (show Hid (AP _ _) from fun k _ e => (by first | (rw [nZ] at e; cases e) | cases e)), hB5⟩
    case round =>
      clear oA hg5 hB5 hv0 oZ nZ
      obtain ⟨wo, rfl⟩ : ∃ wo, wo = wr := ⟨wr, rfl⟩
      obtain ⟨R, O, hI, hR, hO, hAP, hB⟩ := hrel
      have HRL : Hid (R.length ≤ n) := by
        unfold Hid
        rw [hI.out.rst, ← HN.out]
        exact List.length_filter_le _ _
      have HOL : Hid (O.length ≤ 270) := by
        unfold Hid
        refine Nat.le_trans (ord_len hI.out.srt (fun o ho => (bst_some (hI.out.own o ho)).1)) ?_
        rw [HN.out]
        exact hL
      by_cases hR0 : R.length = 0
      · obtain rfl : R = [] := List.length_eq_zero_iff.1 hR0
        obtain ⟨p3, c3, rfl⟩ := shapeP hR.out
        show Code.wp _ _ _ _ _
        go_wp2_with fail
        go_ret
        exact ⟨O, _, rfl, hI.out.done, hO.out, hB⟩
      · obtain ⟨m, hm⟩ : ∃ m, R.length = m + 1 := ⟨R.length - 1, by omega⟩
        obtain ⟨g3, c3, rfl⟩ : ∃ g3 c3, u3 = .slice (some ⟨g3, 0, none⟩) (m + 1) c3 := by
          have := rown_form hR.out (by omega)
          rw [hm] at this
          exact this
        have hRm := hR.out
        rw [hm] at hRm
        have HRM : Hid (wo.ownsRow w.heap.size 59 4 (.slice (some ⟨g3, 0, none⟩) (m + 1) c3) (m + 1) (rels R)) := hRm
        have HM1 : Hid (R.length = m + 1) := hm
        have hm270 : m + 1 ≤ 270 := by have := HRL.out; omega
        have k0 : (0 : Int) < (m : Int) + 1 := by omega
        clear hRm hm hR0 hR
        go_wp2_with fail
        go_loopw [5, 6] (fun vk vi wr => ∃ kk i : Nat, vk = .int .i64 (kk : Int) ∧ vi = .int .i64 (i : Int) ∧ 1 ≤ i ∧ i ≤ m + 1 ∧ kk ≤ m ∧ Hid (kk = rmin R (i - 1)) ∧ Below wo.heap.size wo wr) (fun _ vi _ => m + 1 - (intOf vi).toNat)
        case atStart => exact ⟨0, 1, rfl, rfl, Nat.le_refl _, by omega, Nat.zero_le _, rfl, Below.refl _ _⟩
        case round =>
          obtain ⟨kk, i, rfl, rfl, h1, h2, h3, hk, hBi⟩ := hrel
          by_cases hlt : i < m + 1
          · have j1 : (i : Int) < (m : Int) + 1 := by omega
            have j0 : (0 : Int) ≤ (i : Int) := by omega
            have j2 : (0 : Int) ≤ (kk : Int) := by omega
            have j3 : (kk : Int) < (m : Int) + 1 := by omega
            obtain ⟨x, hx⟩ : ∃ x, R[i]? = some x := ⟨_, List.getElem?_eq_getElem (by rw [HM1.out]; omega)⟩
            obtain ⟨y, hy⟩ : ∃ y, R[kk]? = some y := ⟨_, List.getElem?_eq_getElem (by rw [HM1.out]; omega)⟩
            have HL : Hid (∀ W, Below wr.heap.size wr W → (W.cell? ⟨g3, i * 4, none⟩ = some (.int .i64 x.1) ∧ W.cell? ⟨g3, i * 4 + 1, none⟩ = some (.int .i64 x.2.1) ∧ W.cell? ⟨g3, i * 4 + 2, none⟩ = some (.int .i64 x.2.2.1) ∧ W.cell? ⟨g3, i * 4 + 3, none⟩ = some (.int .i64 x.2.2.2)) ∧ W.cell? ⟨g3, kk * 4, none⟩ = some (.int .i64 y.1) ∧ W.cell? ⟨g3, kk * 4 + 1, none⟩ = some (.int .i64 y.2.1) ∧ W.cell? ⟨g3, kk * 4 + 2, none⟩ = some (.int .i64 y.2.2.1) ∧ W.cell? ⟨g3, kk * 4 + 3, none⟩ = some (.int .i64 y.2.2.2)) := fun W hW => by
              have h4 := owns_below HRM.out (bel0 hBi hW)
              exact ⟨rel_at h4 hx, rel_at h4 hy⟩
            have HQ := fun W => qahead_any x y W
            have hst : rmin R i = if rahead x y = true then i else kk := by
              obtain ⟨j, rfl⟩ : ∃ j, i = j + 1 := ⟨i - 1, by omega⟩
              rw [rmin]
              have e0 : rmin R j = kk := hk.out.symm
              rw [e0, show R.getD (j + 1) (0, 0, 0, 0) = x by simp [List.getD, hx], show R.getD kk (0, 0, 0, 0) = y by simp [List.getD, hy]]
            obtain ⟨D, hD⟩ : ∃ D, rahead x y = D := ⟨_, rfl⟩
            simp only [hD] at HQ
            rw [hD] at hst
            obtain ⟨x0, x1, x2, x3⟩ := x
            obtain ⟨y0, y1, y2, y3⟩ := y
            simp only at HL
            have HQD : Hid (∀ W : World, Calls Try.prog 54 #[.agg #[.int .i64 x0, .int .i64 x1, .int .i64 x2, .int .i64 x3], .agg #[.int .i64 y0, .int .i64 y1, .int .i64 y2, .int .i64 y3]] W fun e w' => e = .returned (.bool D) ∧ Below W.heap.size W w') := HQ
            clear HQ hD hx hy hk
            cases D with
            | true =>
              have HK : Hid (i = rmin R (i + 1 - 1)) := by unfold Hid; rw [Nat.add_sub_cancel, hst]; rfl
              clear hst
              go_wp2_with fail
              refine quiet_lit3 (C := fun W => Below wr.heap.size wr W) (by kernel_rfl) (by kernel_rfl) (show Below _ _ _ from (Below.refl _ _).drew) ?_
              go_big_quiet_want
              go_big_quiet_op
              go_big_quiet_on
              go_big_quiet_want
              go_big_quiet_op
              go_big_quiet_on
              go_big_quiet_want
              refine ⟨.pointer (some ⟨g3, i * 4, none⟩), fun W hW => ?_, ?_⟩
              · go_simp
              go_big_quiet_on
              simp only [Act.put, List.setIfInBounds_toArray, List.set_cons_zero, List.set_cons_succ]
              go_big_quiet_want
              refine ⟨.agg #[.int .i64 x0, .int .i64 x1, .int .i64 x2, .int .i64 x3], fun W hW => ?_, ?_⟩
              · obtain ⟨⟨z0, z1, z2, z3⟩, n0, n1, n2, n3⟩ := HL.out W hW
                go_simp
              go_big_quiet_on
              simp only [Act.put, List.setIfInBounds_toArray, List.set_cons_zero, List.set_cons_succ]
              go_big_quiet_want
              go_big_quiet_op
              go_big_quiet_on
              go_big_quiet_want
              go_big_quiet_op
              go_big_quiet_on
              go_big_quiet_want
              refine ⟨.pointer (some ⟨g3, kk * 4, none⟩), fun W hW => ?_, ?_⟩
              · go_simp
              go_big_quiet_on
              simp only [Act.put, List.setIfInBounds_toArray, List.set_cons_zero, List.set_cons_succ]
              go_big_quiet_want
              refine ⟨.agg #[.int .i64 y0, .int .i64 y1, .int .i64 y2, .int .i64 y3], fun W hW => ?_, ?_⟩
              · obtain ⟨⟨z0, z1, z2, z3⟩, n0, n1, n2, n3⟩ := HL.out W hW
                go_simp
              go_big_quiet_on
              simp only [Act.put, List.setIfInBounds_toArray, List.set_cons_zero, List.set_cons_succ]
              go_big_quiet_want
              refine ⟨.bool true, fun W hW => ?_, ?_⟩
              · go_simp
                refine (HQD.out W).mono ?_
                rintro e w7 ⟨rfl, hb⟩
                exact ⟨rfl, bel0 hW hb⟩
              go_big_quiet_on
              simp only [Act.put, List.setIfInBounds_toArray, List.set_cons_zero, List.set_cons_succ]
              refine wpQuiet_nil ?_
              intro W hW
              go_wp2_with fail
              go_roundw
              case rel => exact ⟨i, i + 1, rfl, by go_num, by omega, by omega, by omega, HK, bel0 hBi hW⟩
              case measure => simp [intOf]; omega
            | false =>
              have HK : Hid (kk = rmin R (i + 1 - 1)) := by unfold Hid; rw [Nat.add_sub_cancel, hst]; rfl
              clear hst
              go_wp2_with fail
              refine quiet_lit3 (C := fun W => Below wr.heap.size wr W) (by kernel_rfl) (by kernel_rfl) (show Below _ _ _ from (Below.refl _ _).drew) ?_
              go_big_quiet_want
              go_big_quiet_op
              go_big_quiet_on
              go_big_quiet_want
              go_big_quiet_op
              go_big_quiet_on
              go_big_quiet_want
              refine ⟨.pointer (some ⟨g3, i * 4, none⟩), fun W hW => ?_, ?_⟩
              · go_simp
              go_big_quiet_on
              simp only [Act.put, List.setIfInBounds_toArray, List.set_cons_zero, List.set_cons_succ]
              go_big_quiet_want
              refine ⟨.agg #[.int .i64 x0, .int .i64 x1, .int .i64 x2, .int .i64 x3], fun W hW => ?_, ?_⟩
              · obtain ⟨⟨z0, z1, z2, z3⟩, n0, n1, n2, n3⟩ := HL.out W hW
                go_simp
              go_big_quiet_on
              simp only [Act.put, List.setIfInBounds_toArray, List.set_cons_zero, List.set_cons_succ]
              go_big_quiet_want
              go_big_quiet_op
              go_big_quiet_on
              go_big_quiet_want
              go_big_quiet_op
              go_big_quiet_on
              go_big_quiet_want
              refine ⟨.pointer (some ⟨g3, kk * 4, none⟩), fun W hW => ?_, ?_⟩
              · go_simp
              go_big_quiet_on
              simp only [Act.put, List.setIfInBounds_toArray, List.set_cons_zero, List.set_cons_succ]
              go_big_quiet_want
              refine ⟨.agg #[.int .i64 y0, .int .i64 y1, .int .i64 y2, .int .i64 y3], fun W hW => ?_, ?_⟩
              · obtain ⟨⟨z0, z1, z2, z3⟩, n0, n1, n2, n3⟩ := HL.out W hW
                go_simp
              go_big_quiet_on
              simp only [Act.put, List.setIfInBounds_toArray, List.set_cons_zero, List.set_cons_succ]
              go_big_quiet_want
              refine ⟨.bool false, fun W hW => ?_, ?_⟩
              · go_simp
                refine (HQD.out W).mono ?_
                rintro e w7 ⟨rfl, hb⟩
                exact ⟨rfl, bel0 hW hb⟩
              go_big_quiet_on
              simp only [Act.put, List.setIfInBounds_toArray, List.set_cons_zero, List.set_cons_succ]
              refine wpQuiet_nil ?_
              intro W hW
              go_wp2_with fail
              go_roundw
              case rel => exact ⟨kk, i + 1, rfl, by go_num, by omega, by omega, by omega, HK, bel0 hBi hW⟩
              case measure => simp [intOf]; omega
          · have j1 : ¬ (i : Int) < (m : Int) + 1 := by omega
            obtain rfl : i = m + 1 := by omega
            obtain ⟨r, hrk⟩ : ∃ r, R[kk]? = some r := ⟨_, List.getElem?_eq_getElem (by rw [HM1.out]; omega)⟩
            have HNX : Hid (RInv L (R.filter (fun x => !rsame r x)) (O ++ [r])) := by
              refine hI.out.step hrk (fun j x hx => ?_)
              have := rmin_min hx
              have e1 : rmin R (R.length - 1) = kk := by rw [HM1.out]; exact hk.out.symm
              rw [e1, show R.getD kk (0, 0, 0, 0) = r by simp [List.getD, hrk]] at this
              exact this
            have HLT : Hid ((R.filter (fun x => !rsame r x)).length < m + 1) := by
              unfold Hid
              rw [← HM1.out]
              refine Nat.lt_of_le_of_ne (List.length_filter_le _ _) (fun e => ?_)
              have := List.filter_eq_self.1 (List.Sublist.eq_of_length List.filter_sublist e) r (List.mem_of_getElem? hrk)
              simp [rsame] at this
            have j2 : (0 : Int) ≤ (kk : Int) := by omega
            have j3 : (kk : Int) < (m : Int) + 1 := by omega
            have HW : Hid (wr.ownsRow w.heap.size 59 4 (.slice (some ⟨g3, 0, none⟩) (m + 1) c3) (m + 1) (rels R) ∧ wr.ownsRow w.heap.size 59 4 u4 O.length (rels O) ∧ Below w.heap.size w wr) := ⟨owns_below HRM.out hBi, owns_below hO.out hBi, bel0 hB hBi⟩
            obtain ⟨p0, p1, p2, p3⟩ := rel_at HW.out.1 hrk
            obtain ⟨r0, r1, r2, r3⟩ := r
            simp only at p0 p1 p2 p3
            clear hk hrk hBi HRM hO hB hI
            obtain ⟨q4, c4, rfl⟩ := shapeP HW.out.2.1
            have hRN : ∀ k, (Value.slice q4 O.length c4).ownBlock = some k → k < wr.heap.size := fun k e => (HW.out.2.1.lt k e).2
            have HRN : Hid (∀ k, (Value.slice q4 O.length c4).ownBlock = some k → k < wr.heap.size) := hRN
            clear hRN
            obtain ⟨OB, hOB⟩ : ∃ OB : Obj, Obj.cells #[.int .i64 r0, .int .i64 r1, .int .i64 r2, .int .i64 r3] 59 = OB := ⟨_, rfl⟩
            have hRB : (wr.alloc OB).heap[wr.heap.size]? = some (.cells #[.int .i64 r0, .int .i64 r1, .int .i64 r2, .int .i64 r3] 59 (0, 0)) := by rw [← hOB]; exact alloc_get _ _
            have HW2 : Hid ((wr.alloc OB).ownsRow w.heap.size 59 4 (.slice (some ⟨g3, 0, none⟩) (m + 1) c3) (m + 1) (rels R) ∧ (wr.alloc OB).ownsRow w.heap.size 59 4 (.slice q4 O.length c4) O.length (rels O) ∧ Below w.heap.size w (wr.alloc OB)) := ⟨HW.out.1.alloc _, HW.out.2.1.alloc _, HW.out.2.2.alloc HW.out.2.2.size _⟩
            go_upto_region 12 with fail
            try rw [hOB]
            have hszR := lt_of_get hRB
            generalize wr.alloc OB = W3 at hRB HW2 hszR ⊢
            generalize wr.heap.size = RB at hRB hszR HRN ⊢
            clear p0 p1 p2 p3 HW hOB
            have y0 := cell_of_row _ _ 0 _ _ _ hRB
            have y1 := cell_of_row _ _ 1 _ _ _ hRB
            have y2 := cell_of_row _ _ 2 _ _ _ hRB
            have y3 := cell_of_row _ _ 3 _ _ _ hRB
            simp only [List.getElem?_toArray, List.getElem?_cons_zero, List.getElem?_cons_succ] at y0 y1 y2 y3
            have ow := HW2.out.2.1.alloc (.cells #[.int .i64 r0, .int .i64 r1, .int .i64 r2, .int .i64 r3] 59)
            have hbw : w.heap.size ≤ (W3.alloc (.cells #[.int .i64 r0, .int .i64 r1, .int .i64 r2, .int .i64 r3] 59)).heap.size := ((HW2.out.2.2).alloc HW2.out.2.2.size _).size
            have h270 := HOL.out
            go_upto_region 13 with (at_builtin; refine wpList_append_lies _ rfl _ _ 36 rfl w.heap.size 59 i0 _ 4 32 Try.underlying36 hi hz0 hz1 hz2 rfl (by decide) _ _ _ rfl ow ⟨_, 0, none⟩ 1 1 [.int .i64 r0, .int .i64 r1, .int .i64 r2, .int .i64 r3] rfl rfl (World.news_of_block (cs := #[.int .i64 r0, .int .i64 r1, .int .i64 r2, .int .i64 r3]) (t := 59) (fr := (0, 0)) (alloc_get _ _)) (by simp [Value.oneCell']) (by omega) (by unfold maxLen; omega) (by omega) hbw _ rfl ?_; intro g6 c6 w6 oB hg6 hgo hgl)
            have H6 : Hid (w6.ownsRow w.heap.size 59 4 (.slice (some ⟨g6, 0, none⟩) (O ++ [(r0, r1, r2, r3)]).length c6) (O ++ [(r0, r1, r2, r3)]).length (rels (O ++ [(r0, r1, r2, r3)]))) := by
              unfold Hid
              rw [rels_app, List.length_append]
              exact oB
            have H7 : Hid (w6.ownsRow w.heap.size 59 4 (.slice (some ⟨g3, 0, none⟩) (m + 1) c3) (m + 1) (rels R)) := (HW2.out.1.alloc _).kept hg6 hAP.out.kept
            have H8 : Hid (w6.heap[RB]? = some (.cells #[.int .i64 r0, .int .i64 r1, .int .i64 r2, .int .i64 r3] 59 (0, 0))) := (hg6.block RB (Nat.lt_trans hszR (by simp)) (fun e => absurd (HRN.out RB e.symm) (Nat.lt_irrefl _))).trans (allocblk hRB _)
            have H9 : Hid (Below w.heap.size w w6) := ((HW2.out.2.2).alloc HW2.out.2.2.size _).grown hg6 hbw (fun k e => (ow.lt k e).1)
            have HGL : Hid (g6 < w6.heap.size) := hgl
            clear oB hg6 hgo hgl ow hbw HW2 y0 y1 y2 y3 hRB hszR HRN hAP
            have hl1 : (O ++ [(r0, r1, r2, r3)]).length = O.length + 1 := by simp
            rw [hl1] at H6
            go_wp2_with fail
            go_loopw [8, 9] (fun v8 v9 wr => ∃ (i : Nat) (LF : List IRt), v9 = .int .i64 (i : Int) ∧ i ≤ m + 1 ∧ Hid (LF = (R.take i).filter (fun x => !rsame (r0, r1, r2, r3) x)) ∧ Hid (wr.ownsRow w6.heap.size 59 4 v8 LF.length (rels LF)) ∧ Below w6.heap.size w6 wr) (fun _ v9 _ => m + 1 - (intOf v9).toNat)
            case atStart => exact ⟨0, [], rfl, Nat.zero_le _, rfl, (by unfold Hid; rw [← HV0.out]; exact World.ownsRow_nil _ _ _ _), Below.refl _ _⟩
            case round =>
              obtain ⟨i, LF, rfl, hi9, hLF, hLo, hBL⟩ := hrel
              by_cases hlt9 : i < m + 1
              · have j1 : (i : Int) < (m : Int) + 1 := by omega
                have j0 : (0 : Int) ≤ (i : Int) := by omega
                obtain ⟨x, hx⟩ : ∃ x, R[i]? = some x := ⟨_, List.getElem?_eq_getElem (by rw [HM1.out]; omega)⟩
                have HL : Hid (∀ W, Below wr.heap.size wr W → (W.cell? ⟨g3, i * 4, none⟩ = some (.int .i64 x.1) ∧ W.cell? ⟨g3, i * 4 + 1, none⟩ = some (.int .i64 x.2.1) ∧ W.cell? ⟨g3, i * 4 + 2, none⟩ = some (.int .i64 x.2.2.1) ∧ W.cell? ⟨g3, i * 4 + 3, none⟩ = some (.int .i64 x.2.2.2)) ∧ W.cell? ⟨RB, 1, none⟩ = some (.int .i64 r1) ∧ W.cell? ⟨RB, 2, none⟩ = some (.int .i64 r2)) := fun W hW => by
                  have h4 := bel0 hBL hW
                  exact ⟨rel_at (owns_below H7.out h4) hx, cell_of_row _ _ 1 _ _ _ (keepblk h4 H8.out), cell_of_row _ _ 2 _ _ _ (keepblk h4 H8.out)⟩
                have hft := flt_take (q := fun x => !rsame (r0, r1, r2, r3) x) hx
                rw [← hLF.out] at hft
                have hLl : LF.length ≤ 270 := by
                  rw [hLF.out]
                  refine Nat.le_trans (List.length_filter_le _ _) ?_
                  rw [List.length_take]
                  omega
                obtain ⟨q8, c8, rfl⟩ := shapeP hLo.out
                obtain ⟨x0, x1, x2, x3⟩ := x
                simp only at HL
                clear hx hLF
                by_cases d1 : x2 = r2
                · subst d1
                  have e1 : (x2 == x2) = true := beq_self_eq_true x2
                  by_cases d2 : x1 = r1
                  · subst d2
                    have e2 : (x1 == x1) = true := beq_self_eq_true x1
                    have HFT : Hid (LF = (R.take (i + 1)).filter (fun x => !rsame (r0, x1, x2, r3) x)) := by unfold Hid; rw [hft]; simp [rsame, rpre]
                    clear hft
                    go_wp2_with fail
                    refine quiet_lit3 (C := fun W => Below wr.heap.size wr W) (by kernel_rfl) (by kernel_rfl) (show Below _ _ _ from (Below.refl _ _).drew) ?_
                    go_big_quiet_want
                    go_big_quiet_op
                    go_big_quiet_on
                    go_big_quiet_want
                    go_big_quiet_op
                    go_big_quiet_on
                    go_big_quiet_want
                    refine ⟨.pointer (some ⟨g3, i * 4, none⟩), fun W hW => ?_, ?_⟩
                    · go_simp
                    go_big_quiet_on
                    simp only [Act.put, List.setIfInBounds_toArray, List.set_cons_zero, List.set_cons_succ]
                    go_big_quiet_want
                    refine ⟨.pointer (some ⟨g3, i * 4 + 2, none⟩), fun W hW => ?_, ?_⟩
                    · go_simp
                    go_big_quiet_on
                    simp only [Act.put, List.setIfInBounds_toArray, List.set_cons_zero, List.set_cons_succ]
                    go_big_quiet_want
                    refine ⟨.int .i64 x2, fun W hW => ?_, ?_⟩
                    · obtain ⟨⟨z0, z1, z2, z3⟩, n1, n2⟩ := HL.out W hW
                      go_simp
                    go_big_quiet_on
                    simp only [Act.put, List.setIfInBounds_toArray, List.set_cons_zero, List.set_cons_succ]
                    go_big_quiet_want
                    refine ⟨.pointer (some ⟨RB, 2, none⟩), fun W hW => ?_, ?_⟩
                    · go_simp
                    go_big_quiet_on
                    simp only [Act.put, List.setIfInBounds_toArray, List.set_cons_zero, List.set_cons_succ]
                    go_big_quiet_want
                    refine ⟨.int .i64 x2, fun W hW => ?_, ?_⟩
                    · obtain ⟨⟨z0, z1, z2, z3⟩, n1, n2⟩ := HL.out W hW
                      go_simp
                    go_big_quiet_on
                    simp only [Act.put, List.setIfInBounds_toArray, List.set_cons_zero, List.set_cons_succ]
                    go_big_quiet_want
                    refine ⟨.bool false, fun W hW => ?_, ?_⟩
                    · go_simp
                    go_big_quiet_on
                    simp only [Act.put, List.setIfInBounds_toArray, List.set_cons_zero, List.set_cons_succ]
                    go_big_quiet_want
                    go_big_quiet_op
                    go_big_quiet_on
                    go_big_quiet_want
                    go_big_quiet_op
                    go_big_quiet_on
                    go_big_quiet_want
                    go_big_quiet_op
                    go_big_quiet_on
                    go_big_quiet_want
                    refine ⟨.pointer (some ⟨g3, i * 4, none⟩), fun W hW => ?_, ?_⟩
                    · go_simp
                    go_big_quiet_on
                    simp only [Act.put, List.setIfInBounds_toArray, List.set_cons_zero, List.set_cons_succ]
                    go_big_quiet_want
                    refine ⟨.pointer (some ⟨g3, i * 4 + 1, none⟩), fun W hW => ?_, ?_⟩
                    · go_simp
                    go_big_quiet_on
                    simp only [Act.put, List.setIfInBounds_toArray, List.set_cons_zero, List.set_cons_succ]
                    go_big_quiet_want
                    refine ⟨.int .i64 x1, fun W hW => ?_, ?_⟩
                    · obtain ⟨⟨z0, z1, z2, z3⟩, n1, n2⟩ := HL.out W hW
                      go_simp
                    go_big_quiet_on
                    simp only [Act.put, List.setIfInBounds_toArray, List.set_cons_zero, List.set_cons_succ]
                    go_big_quiet_want
                    refine ⟨.pointer (some ⟨RB, 1, none⟩), fun W hW => ?_, ?_⟩
                    · go_simp
                    go_big_quiet_on
                    simp only [Act.put, List.setIfInBounds_toArray, List.set_cons_zero, List.set_cons_succ]
                    go_big_quiet_want
                    refine ⟨.int .i64 x1, fun W hW => ?_, ?_⟩
                    · obtain ⟨⟨z0, z1, z2, z3⟩, n1, n2⟩ := HL.out W hW
                      go_simp
                    go_big_quiet_on
                    simp only [Act.put, List.setIfInBounds_toArray, List.set_cons_zero, List.set_cons_succ]
                    go_big_quiet_want
                    refine ⟨.bool false, fun W hW => ?_, ?_⟩
                    · go_simp
                    go_big_quiet_on
                    simp only [Act.put, List.setIfInBounds_toArray, List.set_cons_zero, List.set_cons_succ]
                    go_big_quiet_want
                    refine ⟨.bool false, fun W hW => ?_, ?_⟩
                    · go_simp
                    go_big_quiet_on
                    simp only [Act.put, List.setIfInBounds_toArray, List.set_cons_zero, List.set_cons_succ]
                    refine wpQuiet_nil ?_
                    intro W hW
                    go_wp2_with fail
                    go_roundw
                    case rel => exact ⟨i + 1, LF, by go_num, by omega, HFT, owns_below hLo.out hW, bel0 hBL hW⟩
                    case measure => simp [intOf]; omega
                  · have e2 : (x1 == r1) = false := beq_eq_false_iff_ne.2 d2
                    have e3 : (x1 != r1) = true := by rw [bne, e2]; rfl
                    have HFT : Hid (LF ++ [(x0, x1, x2, x3)] = (R.take (i + 1)).filter (fun x => !rsame (r0, r1, x2, r3) x)) := by unfold Hid; rw [hft]; simp [rsame, rpre, d2]
                    clear hft
                    go_wp2_with fail
                    refine quiet_lit3 (C := fun W => Below wr.heap.size wr W) (by kernel_rfl) (by kernel_rfl) (show Below _ _ _ from (Below.refl _ _).drew) ?_
                    go_big_quiet_want
                    go_big_quiet_op
                    go_big_quiet_on
                    go_big_quiet_want
                    go_big_quiet_op
                    go_big_quiet_on
                    go_big_quiet_want
                    refine ⟨.pointer (some ⟨g3, i * 4, none⟩), fun W hW => ?_, ?_⟩
                    · go_simp
                    go_big_quiet_on
                    simp only [Act.put, List.setIfInBounds_toArray, List.set_cons_zero, List.set_cons_succ]
                    go_big_quiet_want
                    refine ⟨.pointer (some ⟨g3, i * 4 + 2, none⟩), fun W hW => ?_, ?_⟩
                    · go_simp
                    go_big_quiet_on
                    simp only [Act.put, List.setIfInBounds_toArray, List.set_cons_zero, List.set_cons_succ]
                    go_big_quiet_want
                    refine ⟨.int .i64 x2, fun W hW => ?_, ?_⟩
                    · obtain ⟨⟨z0, z1, z2, z3⟩, n1, n2⟩ := HL.out W hW
                      go_simp
                    go_big_quiet_on
                    simp only [Act.put, List.setIfInBounds_toArray, List.set_cons_zero, List.set_cons_succ]
                    go_big_quiet_want
                    refine ⟨.pointer (some ⟨RB, 2, none⟩), fun W hW => ?_, ?_⟩
                    · go_simp
                    go_big_quiet_on
                    simp only [Act.put, List.setIfInBounds_toArray, List.set_cons_zero, List.set_cons_succ]
                    go_big_quiet_want
                    refine ⟨.int .i64 x2, fun W hW => ?_, ?_⟩
                    · obtain ⟨⟨z0, z1, z2, z3⟩, n1, n2⟩ := HL.out W hW
                      go_simp
                    go_big_quiet_on
                    simp only [Act.put, List.setIfInBounds_toArray, List.set_cons_zero, List.set_cons_succ]
                    go_big_quiet_want
                    refine ⟨.bool false, fun W hW => ?_, ?_⟩
                    · go_simp
                    go_big_quiet_on
                    simp only [Act.put, List.setIfInBounds_toArray, List.set_cons_zero, List.set_cons_succ]
                    go_big_quiet_want
                    go_big_quiet_op
                    go_big_quiet_on
                    go_big_quiet_want
                    go_big_quiet_op
                    go_big_quiet_on
                    go_big_quiet_want
                    go_big_quiet_op
                    go_big_quiet_on
                    go_big_quiet_want
                    refine ⟨.pointer (some ⟨g3, i * 4, none⟩), fun W hW => ?_, ?_⟩
                    · go_simp
                    go_big_quiet_on
                    simp only [Act.put, List.setIfInBounds_toArray, List.set_cons_zero, List.set_cons_succ]
                    go_big_quiet_want
                    refine ⟨.pointer (some ⟨g3, i * 4 + 1, none⟩), fun W hW => ?_, ?_⟩
                    · go_simp
                    go_big_quiet_on
                    simp only [Act.put, List.setIfInBounds_toArray, List.set_cons_zero, List.set_cons_succ]
                    go_big_quiet_want
                    refine ⟨.int .i64 x1, fun W hW => ?_, ?_⟩
                    · obtain ⟨⟨z0, z1, z2, z3⟩, n1, n2⟩ := HL.out W hW
                      go_simp
                    go_big_quiet_on
                    simp only [Act.put, List.setIfInBounds_toArray, List.set_cons_zero, List.set_cons_succ]
                    go_big_quiet_want
                    refine ⟨.pointer (some ⟨RB, 1, none⟩), fun W hW => ?_, ?_⟩
                    · go_simp
                    go_big_quiet_on
                    simp only [Act.put, List.setIfInBounds_toArray, List.set_cons_zero, List.set_cons_succ]
                    go_big_quiet_want
                    refine ⟨.int .i64 r1, fun W hW => ?_, ?_⟩
                    · obtain ⟨⟨z0, z1, z2, z3⟩, n1, n2⟩ := HL.out W hW
                      go_simp
                    go_big_quiet_on
                    simp only [Act.put, List.setIfInBounds_toArray, List.set_cons_zero, List.set_cons_succ]
                    go_big_quiet_want
                    refine ⟨.bool true, fun W hW => ?_, ?_⟩
                    · go_simp
                    go_big_quiet_on
                    simp only [Act.put, List.setIfInBounds_toArray, List.set_cons_zero, List.set_cons_succ]
                    go_big_quiet_want
                    refine ⟨.bool true, fun W hW => ?_, ?_⟩
                    · go_simp
                    go_big_quiet_on
                    simp only [Act.put, List.setIfInBounds_toArray, List.set_cons_zero, List.set_cons_succ]
                    refine wpQuiet_nil ?_
                    intro W hW
                    obtain ⟨⟨z0, z1, z2, z3⟩, -⟩ := HL.out W hW
                    have ow := (owns_below hLo.out hW).alloc (.cells #[.int .i64 x0, .int .i64 x1, .int .i64 x2, .int .i64 x3] 59)
                    have hBW := bel0 hBL hW
                    have hbw : w6.heap.size ≤ (W.alloc (.cells #[.int .i64 x0, .int .i64 x1, .int .i64 x2, .int .i64 x3] 59)).heap.size := (hBW.alloc hBW.size _).size
                    go_wp2_with (at_builtin; refine wpList_append_own _ rfl _ _ 36 rfl w6.heap.size 59 i0 _ 4 32 Try.underlying36 hi hz0 hz1 hz2 rfl (by decide) _ _ _ rfl ow ⟨_, 0, none⟩ 1 1 [.int .i64 x0, .int .i64 x1, .int .i64 x2, .int .i64 x3] rfl rfl (World.news_of_block (cs := #[.int .i64 x0, .int .i64 x1, .int .i64 x2, .int .i64 x3]) (t := 59) (fr := (0, 0)) (alloc_get _ _)) (by simp [Value.oneCell']) (by unfold maxLen; omega) (by omega) hbw ?_; intro v10 w10 oB hg10 _)
                    have oC : w10.ownsRow w6.heap.size 59 4 v10 (LF ++ [(x0, x1, x2, x3)]).length (rels (LF ++ [(x0, x1, x2, x3)])) := by
                      rw [rels_app, List.length_append]
                      exact oB
                    have hB10 : Below w6.heap.size w6 w10 := (hBW.alloc hBW.size _).grown hg10 hbw (fun k e => (ow.lt k e).1)
                    go_roundw
                    case rel => exact ⟨i + 1, LF ++ [(x0, x1, x2, x3)], by go_num, by omega, HFT, oC, hB10⟩
                    case measure => simp [intOf]; omega
                · have e1 : (x2 == r2) = false := beq_eq_false_iff_ne.2 d1
                  have e3 : (x2 != r2) = true := by rw [bne, e1]; rfl
                  have HFT : Hid (LF ++ [(x0, x1, x2, x3)] = (R.take (i + 1)).filter (fun x => !rsame (r0, r1, r2, r3) x)) := by unfold Hid; rw [hft]; simp [rsame, rpre, d1]
                  clear hft
                  go_wp2_with fail
                  refine quiet_lit3 (C := fun W => Below wr.heap.size wr W) (by kernel_rfl) (by kernel_rfl) (show Below _ _ _ from (Below.refl _ _).drew) ?_
                  go_big_quiet_want
                  go_big_quiet_op
                  go_big_quiet_on
                  go_big_quiet_want
                  go_big_quiet_op
                  go_big_quiet_on
                  go_big_quiet_want
                  refine ⟨.pointer (some ⟨g3, i * 4, none⟩), fun W hW => ?_, ?_⟩
                  · go_simp
                  go_big_quiet_on
                  simp only [Act.put, List.setIfInBounds_toArray, List.set_cons_zero, List.set_cons_succ]
                  go_big_quiet_want
                  refine ⟨.pointer (some ⟨g3, i * 4 + 2, none⟩), fun W hW => ?_, ?_⟩
                  · go_simp
                  go_big_quiet_on
                  simp only [Act.put, List.setIfInBounds_toArray, List.set_cons_zero, List.set_cons_succ]
                  go_big_quiet_want
                  refine ⟨.int .i64 x2, fun W hW => ?_, ?_⟩
                  · obtain ⟨⟨z0, z1, z2, z3⟩, n1, n2⟩ := HL.out W hW
                    go_simp
                  go_big_quiet_on
                  simp only [Act.put, List.setIfInBounds_toArray, List.set_cons_zero, List.set_cons_succ]
                  go_big_quiet_want
                  refine ⟨.pointer (some ⟨RB, 2, none⟩), fun W hW => ?_, ?_⟩
                  · go_simp
                  go_big_quiet_on
                  simp only [Act.put, List.setIfInBounds_toArray, List.set_cons_zero, List.set_cons_succ]
                  go_big_quiet_want
                  refine ⟨.int .i64 r2, fun W hW => ?_, ?_⟩
                  · obtain ⟨⟨z0, z1, z2, z3⟩, n1, n2⟩ := HL.out W hW
                    go_simp
                  go_big_quiet_on
                  simp only [Act.put, List.setIfInBounds_toArray, List.set_cons_zero, List.set_cons_succ]
                  go_big_quiet_want
                  refine ⟨.bool true, fun W hW => ?_, ?_⟩
                  · go_simp
                  go_big_quiet_on
                  simp only [Act.put, List.setIfInBounds_toArray, List.set_cons_zero, List.set_cons_succ]
                  go_big_quiet_want
                  go_big_quiet_op
                  go_big_quiet_on
                  go_big_quiet_skip
                  go_big_quiet_skip
                  go_big_quiet_skip
                  go_big_quiet_skip
                  go_big_quiet_skip
                  go_big_quiet_skip
                  go_big_quiet_skip
                  go_big_quiet_skip
                  go_big_quiet_want
                  refine ⟨.bool true, fun W hW => ?_, ?_⟩
                  · go_simp
                  go_big_quiet_on
                  simp only [Act.put, List.setIfInBounds_toArray, List.set_cons_zero, List.set_cons_succ]
                  refine wpQuiet_nil ?_
                  intro W hW
                  obtain ⟨⟨z0, z1, z2, z3⟩, -⟩ := HL.out W hW
                  have ow := (owns_below hLo.out hW).alloc (.cells #[.int .i64 x0, .int .i64 x1, .int .i64 x2, .int .i64 x3] 59)
                  have hBW := bel0 hBL hW
                  have hbw : w6.heap.size ≤ (W.alloc (.cells #[.int .i64 x0, .int .i64 x1, .int .i64 x2, .int .i64 x3] 59)).heap.size := (hBW.alloc hBW.size _).size
                  go_wp2_with (at_builtin; refine wpList_append_own _ rfl _ _ 36 rfl w6.heap.size 59 i0 _ 4 32 Try.underlying36 hi hz0 hz1 hz2 rfl (by decide) _ _ _ rfl ow ⟨_, 0, none⟩ 1 1 [.int .i64 x0, .int .i64 x1, .int .i64 x2, .int .i64 x3] rfl rfl (World.news_of_block (cs := #[.int .i64 x0, .int .i64 x1, .int .i64 x2, .int .i64 x3]) (t := 59) (fr := (0, 0)) (alloc_get _ _)) (by simp [Value.oneCell']) (by unfold maxLen; omega) (by omega) hbw ?_; intro v10 w10 oB hg10 _)
                  have oC : w10.ownsRow w6.heap.size 59 4 v10 (LF ++ [(x0, x1, x2, x3)]).length (rels (LF ++ [(x0, x1, x2, x3)])) := by
                    rw [rels_app, List.length_append]
                    exact oB
                  have hB10 : Below w6.heap.size w6 w10 := (hBW.alloc hBW.size _).grown hg10 hbw (fun k e => (ow.lt k e).1)
                  go_roundw
                  case rel => exact ⟨i + 1, LF ++ [(x0, x1, x2, x3)], by go_num, by omega, HFT, oC, hB10⟩
                  case measure => simp [intOf]; omega
              · have j1 : ¬ (i : Int) < (m : Int) + 1 := by omega
                obtain rfl : i = m + 1 := by omega
                have hLe : LF = R.filter (fun x => !rsame (r0, r1, r2, r3) x) := by
                  rw [hLF.out, List.take_of_length_le (by rw [HM1.out]; exact Nat.le_refl _)]
                subst hLe
                go_wp2_with fail
                go_roundw
                case rel =>
                  refine ⟨_, _, HNX, own_base hLo.out H9.out.size, ?_, ?_, ?_⟩
                  · have := owns_below H6.out hBL
                    unfold Hid
                    rw [hl1]
                    exact this
                  · refine (show Hid (AP _ _) from fun k e e2 => ?_)
                    have h1 := (hLo.out.lt k e).1
                    have h2 : g6 = k := by injection e2
                    have := HGL.out
                    omega
                  · exact H9.out.trans (hBL.mono H9.out.size)
                case measure =>
                  rw [show slen u8 = _ from slen_own hLo.out]
                  exact HLT.out
theorem res_qord (tmps : Array Value) (W : World) (x y : Value) (h : tmps[4]?.getD undef = x ∧ tmps[5]?.getD undef = y) : (results Try.f17 tmps).run Try.prog W = .ok (.tuple #[x, y]) W := by
  simp [results, h.1, h.2, go_sem]
set_option maxRecDepth 100000 in
set_option maxHeartbeats 1000000 in
theorem qord_any (bits : Int) (L : List IRt) (o : Option Addr) (c : Nat) (w : World) (hL : L.length ≤ 281474976710656) (hr : IRR w o L) :
    Calls Try.prog 17 #[.int .i64 bits, .slice o L.length c] w fun e w' => ∃ (O : List IRt) (v : Value), e = .returned (.tuple #[v, .int .i64 (rfit bits L)]) ∧ ordR bits L O ∧ w'.ownsRow w.heap.size 59 4 v O.length (rels O) ∧ Below w.heap.size w w' := by
  have HFT0 := qfit_any bits L o c w hL hr
  unfold ordR
  obtain ⟨F, hF⟩ : ∃ F, rfit bits L = F := ⟨_, rfl⟩
  simp only [hF]
  rw [hF] at HFT0
  have HFT : Hid (Calls Try.prog 37 #[.int .i64 bits, .slice o L.length c] w fun e w' => e = .returned (.int .i64 F) ∧ Below w.heap.size w w') := HFT0
  clear HFT0
  by_cases f0 : F = 0
  · subst f0
    obtain ⟨b1, b2, b3, b4⟩ := rfit_ok hF
    have HLA : Hid (∀ W : World, Below w.heap.size w W → Calls Try.prog 38 #[.slice o L.length c] W fun e w' => ∃ (O : List IRt) (v : Value), e = .returned v ∧ OrdOf L O ∧ w'.ownsRow W.heap.size 59 4 v O.length (rels O) ∧ Below W.heap.size W w') := fun W hW => qorder_any L o c W (by omega) (hr.later hW)
    clear hr hF b1 b2 b3 b4 hL
    go_enter Try.func17, Try.ntmps17
    go_wp2_with fail
    refine HFT.out.mono ?_
    rintro e W1 ⟨rfl, hb1⟩
    go_wp2_with fail
    refine (HLA.out _ hb1).mono ?_
    rintro e W2 ⟨O, v, rfl, h1, h2, h3⟩
    go_wp2_with fail
    refine bodyPost_ret (res_qord _ _ _ _ ⟨rfl, rfl⟩) rfl ?_
    exact ⟨O, v, rfl, h1, own_base h2 hb1.size, bel0 hb1 h3⟩
  · have f1 : (F == 0) = false := beq_eq_false_iff_ne.2 f0
    clear hr hF
    go_enter Try.func17, Try.ntmps17
    go_wp2_with fail
    refine HFT.out.mono ?_
    rintro e W1 ⟨rfl, hb1⟩
    go_wp2_with fail
    refine bodyPost_ret (res_qord _ _ _ _ ⟨rfl, rfl⟩) rfl ?_
    exact ⟨[], _, rfl, rfl, World.ownsRow_nil _ _ _ _, hb1⟩
end Go.Proofs.Ytfcdaljhbeogeaa
