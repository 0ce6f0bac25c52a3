import Derived.Test.YtffgkjmfeannoaaGreatDoorXBN
namespace Go.Proofs.YtffgkjmfeannoaaGreatDoor.Ex
open Go.RowKit
def toX (t : Tok) : XTok := ((t.1 : Int), t.2.1, (t.2.2.1 : Int), (t.2.2.2 : Int))
def psT (L : List XTok) : Except (Nat × Int) (List Nd) :=
  match rdX (L.map clX) 0 with
  | .error p => .error (p.1, (tokAt L p.2).2.2.2)
  | .ok q => if (tokAt L q.1).1 ≠ 1 then .error (50, (tokAt L q.1).2.2.2) else if q.1 + 1 < L.length then .error (50, (tokAt L (q.1 + 1)).2.2.2) else .ok q.2.2
def psX (l : List UInt8) : Except (Nat × Int) (List Nd) :=
  if (scanM l).2.1 ≠ 0 then .error ((scanM l).2.1, ((scanM l).2.2.2 : Int))
  else if (scanM l).1.length = 0 then .error (50, 0)
  else psT ((scanM l).1.map toX)
def PSQ (r : Except (Nat × Int) (List Nd)) (w : World) (e : Ending) (w' : World) : Prop :=
  (match r with
    | .error p => e = .returned (.tuple #[.slice none 0 0, .int .i64 (p.1 : Int), .int .i64 p.2])
    | .ok out => ∃ v, e = .returned (.tuple #[v, .int .i64 0, .int .i64 0]) ∧ OWN w' w.heap.size v out) ∧ Below w.heap.size w w'
theorem XR_own {W : World} {B g n c : Nat} {D : List Tok} (h : W.ownsRow B 24 4 (.slice (some ⟨g, 0, none⟩) n c) D.length (tcels D)) : XR W (some ⟨g, 0, none⟩) (D.map toX) := fun k t ht => by
  rw [List.getElem?_map] at ht
  cases hq : D[k]? with
  | none => rw [hq] at ht; cases ht
  | some u =>
    rw [hq] at ht
    have ht : toX u = t := Option.some.inj ht
    subst ht
    obtain ⟨a0, a1, a2, a3⟩ := tcels_at D k u hq
    exact ⟨g, 0, rfl, by rw [Nat.zero_add]; exact own_atZ h a0, by rw [Nat.zero_add]; exact own_atZ h a1, by rw [Nat.zero_add]; exact own_atZ h a2, by rw [Nat.zero_add]; exact own_atZ h a3⟩
theorem XR_at {W : World} {g : Nat} {L : List XTok} {k : Nat} (h : XR W (some ⟨g, 0, none⟩) L) (hk : k < L.length) : W.cell? ⟨g, k * 4, none⟩ = some (.int .i64 (tokAt L k).1) ∧ W.cell? ⟨g, k * 4 + 3, none⟩ = some (.int .i64 (tokAt L k).2.2.2) := by
  have ht : L[k]? = some (tokAt L k) := by unfold tokAt; rw [List.getD_eq_getElem?_getD, List.getElem?_eq_getElem hk]; rfl
  obtain ⟨g', o', e, h0, h1, h2, h3⟩ := h k _ ht
  injection e with e
  injection e with e1 e2 e3
  subst e1 e2
  rw [Nat.zero_add] at h0 h3
  exact ⟨h0, h3⟩
theorem shT_scan (l : List UInt8) : shT ((scanM l).1.map toX) := fun t ht => by
  obtain ⟨u, hu, rfl⟩ := List.mem_map.1 ht
  have := scan_texts l u hu
  show u.2.1.length ≤ _
  omega
theorem rd_in (l : List UInt8) (he : (scanM l).2.1 = 0) (hn : (scanM l).1.length ≠ 0) : match rdX (((scanM l).1.map toX).map clX) 0 with
    | .error p => p.2 < ((scanM l).1.map toX).length
    | .ok q => q.1 < ((scanM l).1.map toX).length := by
  have hen := scan_ended l he
  obtain ⟨L, hL⟩ : ∃ L, (scanM l).1.map toX = L := ⟨_, rfl⟩
  have hll : L.length = (scanM l).1.length := by rw [← hL, List.length_map]
  have hE : tk (L.map clX) (L.length - 1) = .oth := by
    rw [tk_cl]
    have h1 : (tokAt L (L.length - 1)).1 = 1 := by
      unfold tokAt
      rw [List.getD_eq_getElem?_getD, ← hL, List.getElem?_map, List.length_map]
      have hg := List.getLast?_eq_getElem? (l := (scanM l).1)
      cases hq : (scanM l).1[(scanM l).1.length - 1]? with
      | none =>
        rw [List.getElem?_eq_none_iff] at hq
        omega
      | some u =>
        have := hen u (by rw [hg, hq])
        show ((u.1 : Nat) : Int) = 1
        omega
    unfold cl
    rw [if_neg (by rw [h1]; decide), if_neg (by rw [h1]; decide), if_neg (by rw [h1]; decide), if_neg (by rw [h1]; decide)]
  rw [hL]
  have := pX_end hE _ _ _ 0 _ _ _ (by omega) (rdX_some (L.map clX) 0)
  unfold leE at this
  cases hr : rdX (L.map clX) 0 with
  | error p => rw [hr] at this; simp only at this ⊢; omega
  | ok q => rw [hr] at this; simp only at this ⊢; omega
def inR (n : Nat) (r : PR) : Prop := match r with
  | .error p => p.2 < n
  | .ok q => q.1 < n
def rdE (B : Nat) (r : PR) (e : Ending) (w' : World) : Prop := match r with
  | .error p => e = .returned (.tuple #[.slice none 0 0, .int .i64 (p.2 : Int), .int .i64 (p.1 : Int)]) ∧ p.1 ≠ 0
  | .ok q => ∃ v, e = .returned (.tuple #[v, .int .i64 (q.1 : Int), .int .i64 0]) ∧ OWN w' B v q.2.2
theorem res_ps (tmps : Array Value) (W : World) (x y z : Value) (h : tmps[2]?.getD undef = x ∧ tmps[3]?.getD undef = y ∧ tmps[4]?.getD undef = z) : (results Tryz.f9 tmps).run Tryz.prog W = .ok (.tuple #[x, y, z]) W := by
  simp [results, h.1, h.2.1, h.2.2, go_sem]
set_option maxRecDepth 100000 in
set_option maxHeartbeats 8000000 in
theorem xparse_any (l : List UInt8) (w : World) (hm : l.length ≤ 281474976710656) (hT : TAB w) (hO : ∀ U, Below w.heap.size w U → OS U) :
    Calls Tryz.prog 9 #[.string ⟨l.toArray⟩] w (PSQ (psX l) w) := by
  have h0 := hT w (Below.refl _ _)
  have HSC := scan_any l w hm h0.1 h0.2.1 (FOK_of h0.2.2)
  have HTB : Hid (TAB w ∧ ∀ U, Below w.heap.size w U → OS U) := ⟨hT, hO⟩
  have HRI := hideL (rd_in l)
  have HCN := hideL (scan_count l)
  have HSH := hideL (shT_scan l)
  have HPX : Hid (psX l = if (scanM l).2.1 ≠ 0 then .error ((scanM l).2.1, ((scanM l).2.2.2 : Int)) else if (scanM l).1.length = 0 then .error (50, 0) else psT ((scanM l).1.map toX)) := rfl
  unfold scR at HSC
  obtain ⟨S, hS⟩ : ∃ S, scanM l = S := ⟨_, rfl⟩
  rw [hS] at HRI HCN HSH HPX HSC
  obtain ⟨D, s1, s2, s3⟩ := S
  obtain ⟨R, hR⟩ : ∃ R, psX l = R := ⟨_, rfl⟩
  rw [hR] at HPX ⊢
  simp only at HSC HRI HCN HSH HPX
  clear hT hO h0 hS hR hm
  by_cases he : s1 = 0
  · subst he
    by_cases hn : D.length = 0
    · have hr : R = .error (50, 0) := by rw [HPX.out, if_neg (by decide), if_pos hn]
      subst hr
      obtain rfl := List.length_eq_zero_iff.1 hn
      clear HPX HRI HSH HCN hn
      go_enter Tryz.func9, Tryz.ntmps9
      go_wp2_with fail
      refine HSC.mono ?_
      rintro e W1 ⟨v, rfl, o1, b1⟩
      obtain ⟨pv, cv, rfl⟩ := shapeZ o1
      have HB := hideL b1
      clear o1 b1 HSC
      go_wp2_with fail
      refine bodyPost_ret (res_ps _ _ _ _ _ ⟨rfl, rfl, rfl⟩) rfl ?_
      exact ⟨rfl, HB.out⟩
    · have hr : R = psT (D.map toX) := by rw [HPX.out, if_neg (by decide), if_neg hn]
      have hri := HRI.out rfl hn
      have y1 : ((D.length : Int) == 0) = false := beq_eq_false_iff_ne.2 (by omega)
      have HD : Hid (D.length ≤ 32769 ∧ D.length ≠ 0) := ⟨HCN.out, hn⟩
      clear HPX HRI HCN hn
      obtain ⟨r, hrd⟩ : ∃ r, rdX ((D.map toX).map clX) 0 = r := ⟨_, rfl⟩
      unfold psT at hr
      rw [hrd] at hri hr
      have HRD := hideL hrd
      have HRR := hideL hr
      have HIN : Hid (inR (D.map toX).length r) := hri
      clear hrd hr hri
      go_enter Tryz.func9, Tryz.ntmps9
      go_wp2_with fail
      refine HSC.mono ?_
      rintro e W1 ⟨v, rfl, o1, b1⟩
      obtain ⟨pv, cv, rfl⟩ := shapeZ o1
      obtain ⟨g, rfl⟩ := own_someZ o1 HD.out.2
      have hxr := XR_own o1
      have HRC := xread (D.map toX) (some ⟨g, 0, none⟩) D.length cv 0 W1 (List.length_map _) (by have := HD.out.1; omega) hxr (fun U hU => HTB.out.1 U (bel0Z b1 hU)) HSH.out (fun U hU => HTB.out.2 U (bel0Z b1 hU))
      have HB := hideL b1
      have HXR := hideL hxr
      obtain ⟨N, hN⟩ : ∃ N, D.length = N := ⟨_, rfl⟩
      rw [hN] at HRC y1 HD ⊢
      have HN : Hid ((D.map toX).length = N) := by show (D.map toX).length = N; rw [List.length_map, hN]
      obtain ⟨L, hL⟩ : ∃ L, D.map toX = L := ⟨_, rfl⟩
      rw [hL] at HRC HRD HRR HIN HXR HN
      clear o1 b1 HSC hxr hN hL HSH
      go_wp2_with fail
      refine HRC.mono ?_
      rintro e W2 ⟨he, b2⟩
      have HE : Hid (rdE W1.heap.size r e W2) := by
        rcases he with ⟨h, _⟩ | ⟨i, hi, _, h⟩
        · exfalso; omega
        · have : i = 0 := by omega
          subst this
          rw [HRD.out] at h
          exact h
      have HB2 := hideL b2
      clear he b2 HRC HRD
      cases r with
      | error p =>
        obtain ⟨pn, pp⟩ := p
        obtain ⟨rfl, hp0⟩ := HE.out
        have y2 : ((pn : Int) == 0) = false := beq_eq_false_iff_ne.2 (by simp only at hp0; omega)
        have y3 : ((pn : Int) != 0) = true := by simp only [bne, y2]; rfl
        have j0 : (pp : Int) < (N : Int) := by have h1 : pp < L.length := HIN.out; have := HN.out; omega
        have j1 : pp < N := by omega
        have hk := (XR_at (HXR.out.below HB2.out) (by have := HN.out; omega : pp < L.length)).2
        have HBF : Hid (Below w.heap.size w W2) := bel0Z HB.out HB2.out
        have HR2 : Hid (R = .error (pn, (tokAt L pp).2.2.2)) := HRR.out
        obtain ⟨cc, hcc⟩ : ∃ cc, (tokAt L pp).2.2.2 = cc := ⟨_, rfl⟩
        rw [hcc] at hk HR2
        clear hp0 HE HIN HRR hcc
        go_wp2_with fail
        go_quiet (fail)
        go_wp2_with fail
        refine bodyPost_ret (res_ps _ _ _ _ _ ⟨rfl, rfl, rfl⟩) rfl ?_
        rw [HR2.out]
        exact ⟨rfl, bel_drewZ nq HBF.out⟩
      | ok q =>
        obtain ⟨qi, qm, qo⟩ := q
        obtain ⟨v, rfl, hv⟩ := HE.out
        simp only at hv
        obtain ⟨qv, qc, rfl⟩ := shapeZ hv
        have HV : Hid (OWN W2 W1.heap.size (.slice qv qo.length qc) qo) := hv
        have hin : qi < L.length := HIN.out
        have j0 : (qi : Int) < (N : Int) := by have := HN.out; omega
        have j1 : qi < N := by omega
        obtain ⟨hk0, hk3⟩ := XR_at (HXR.out.below HB2.out) hin
        have HBF : Hid (Below w.heap.size w W2) := bel0Z HB.out HB2.out
        simp only at HRR
        clear hv HE HIN
        by_cases hkd : (tokAt L qi).1 = 1
        · rw [if_neg (fun h => h hkd)] at HRR
          rw [hkd] at hk0
          by_cases hl : qi + 1 < L.length
          · rw [if_pos hl] at HRR
            obtain ⟨q1, hq1⟩ : ∃ q1, q1 = qi + 1 := ⟨_, rfl⟩
            have y4 : IntKind.i64.wrap ((qi : Int) + 1) = (q1 : Int) := by have := HD.out.1; rw [IntKind.wrap_i64]; omega
            have j2 : (q1 : Int) < (N : Int) := by have := HN.out; omega
            have j3 : q1 < N := by omega
            have hk4 := (XR_at (HXR.out.below HB2.out) hl).2
            rw [← hq1] at hk4 HRR
            obtain ⟨cc, hcc⟩ : ∃ cc, (tokAt L q1).2.2.2 = cc := ⟨_, rfl⟩
            rw [hcc] at hk4 HRR
            clear hq1 hl hkd hk3 hcc hin
            go_wp2_with fail
            go_quiet (fail)
            go_wp2_with fail
            refine bodyPost_ret (res_ps _ _ _ _ _ ⟨rfl, rfl, rfl⟩) rfl ?_
            rw [HRR.out]
            exact ⟨rfl, bel_drewZ nq HBF.out⟩
          · rw [if_neg hl] at HRR
            obtain ⟨q1, hq1⟩ : ∃ q1, q1 = qi + 1 := ⟨_, rfl⟩
            have y4 : IntKind.i64.wrap ((qi : Int) + 1) = (q1 : Int) := by have := HD.out.1; rw [IntKind.wrap_i64]; omega
            have j2 : ¬ (q1 : Int) < (N : Int) := by have := HN.out; omega
            clear hq1 hl hkd hk3 hin
            go_wp2_with fail
            refine bodyPost_ret (res_ps _ _ _ _ _ ⟨rfl, rfl, rfl⟩) rfl ?_
            rw [HRR.out]
            exact ⟨⟨_, rfl, own_baseZ HV.out HB.out.size⟩, HBF.out⟩
        · rw [if_pos hkd] at HRR
          obtain ⟨kk, hkk⟩ : ∃ kk, (tokAt L qi).1 = kk := ⟨_, rfl⟩
          obtain ⟨cc, hcc⟩ : ∃ cc, (tokAt L qi).2.2.2 = cc := ⟨_, rfl⟩
          rw [hkk] at hk0 hkd
          rw [hcc] at hk3 HRR
          have y4 : (kk == 1) = false := beq_eq_false_iff_ne.2 hkd
          clear hkd hkk hcc hin
          go_wp2_with fail
          go_quiet (fail)
          go_wp2_with fail
          refine bodyPost_ret (res_ps _ _ _ _ _ ⟨rfl, rfl, rfl⟩) rfl ?_
          rw [HRR.out]
          exact ⟨rfl, bel_drewZ nq HBF.out⟩
  · have hr : R = .error (s1, (s3 : Int)) := by rw [HPX.out, if_pos he]
    subst hr
    have y1 : ((s1 : Int) == 0) = false := beq_eq_false_iff_ne.2 (by omega)
    have y2 : ((s1 : Int) != 0) = true := by simp only [bne, y1]; rfl
    clear HPX HRI HSH HCN he
    go_enter Tryz.func9, Tryz.ntmps9
    go_wp2_with fail
    refine HSC.mono ?_
    rintro e W1 ⟨v, rfl, o1, b1⟩
    have HB := hideL b1
    clear o1 b1 HSC
    go_wp2_with fail
    refine bodyPost_ret (res_ps _ _ _ _ _ ⟨rfl, rfl, rfl⟩) rfl ?_
    exact ⟨rfl, HB.out⟩
end Go.Proofs.YtffgkjmfeannoaaGreatDoor.Ex
namespace Go.Proofs.YtffgkjmfeannoaaGreatDoor.Ex
open Go.RowKit
def qC (Q : List Nat) : List Value := Q.reverse.map fun (c : Nat) => Value.int .u8 (c : Int)
def OWB (W : World) (B : Nat) (v : Value) (Q : List Nat) : Prop := W.ownsRow B 5 1 v Q.length (qC Q)
def DS (w0 : World) (b : Nat) (pt : Option Addr) (ct : Nat) (L : List XTok) (W : World) (i : Nat) (Q : List Nat) (out : List Nd) (m e : Nat) : Prop :=
  (∃ vo vn, W.heap[b]? = some (.cells #[.slice pt L.length ct, .int .i64 (i : Int), vo, vn, .int .i64 (m : Int), .int .i64 (e : Int)] 44 (0, 0)) ∧ OWB W w0.heap.size vo Q ∧ OWN W w0.heap.size vn out) ∧ Below w0.heap.size w0 W
variable {w0 W X : World} {b : Nat} {pt : Option Addr} {ct : Nat} {L : List XTok} {i m e : Nat} {Q : List Nat} {out : List Nd}
theorem DS.below (h : DS w0 b pt ct L W i Q out m e) (hb : Below W.heap.size W X) : DS w0 b pt ct L X i Q out m e := by
  obtain ⟨⟨vo, vn, h1, h2, h3⟩, h4⟩ := h
  exact ⟨⟨vo, vn, keepZ hb h1, own_belZ h2 hb, own_belZ h3 hb⟩, bel0Z h4 hb⟩
theorem DS.cells (h : DS w0 b pt ct L W i Q out m e) : W.cell? ⟨b, 0, none⟩ = some (.slice pt L.length ct) ∧ W.cell? ⟨b, 1, none⟩ = some (.int .i64 (i : Int)) ∧ W.cell? ⟨b, 4, none⟩ = some (.int .i64 (m : Int)) ∧ W.cell? ⟨b, 5, none⟩ = some (.int .i64 (e : Int)) ∧ ∀ j, W.frozen? ⟨b, j, none⟩ = false := by
  obtain ⟨⟨vo, vn, h1, h2, h3⟩, h4⟩ := h
  have := (cellsZ h1).1
  exact ⟨by rw [this]; rfl, by rw [this]; rfl, by rw [this]; rfl, by rw [this]; rfl, (cellsZ h1).2⟩
theorem DS.set (h : DS w0 b pt ct L W i Q out m e) (hb : w0.heap.size ≤ b) {i' m' e' : Nat} (j : Nat) (u : Value)
    (hj : ∀ vo vn : Value, (#[.slice pt L.length ct, .int .i64 (i : Int), vo, vn, .int .i64 (m : Int), .int .i64 (e : Int)] : Array Value).setIfInBounds j u = #[.slice pt L.length ct, .int .i64 (i' : Int), vo, vn, .int .i64 (m' : Int), .int .i64 (e' : Int)]) : DS w0 b pt ct L (W.setCell ⟨b, j, none⟩ u) i' Q out m' e' := by
  obtain ⟨⟨vo, vn, h1, h2, h3⟩, h4⟩ := h
  refine ⟨⟨vo, vn, ?_, World.ownsRow.kept h2 (gr_setZ _ _ _ _) (.inr (own_box_ne h2 h1 (by decide))), World.ownsRow.kept h3 (gr_setZ _ _ _ _) (.inr (own_box_ne h3 h1 (by decide)))⟩, h4.setCell hb _⟩
  rw [set_getZ u h1, hj]
set_option maxRecDepth 100000 in
set_option maxHeartbeats 4000000 in
theorem sign_any (k : Nat) (sg : List UInt8) (hX : XR w0 pt L) (_hlen : L.length ≤ 100000) (h : DS w0 b pt ct L W i Q out m e) :
    Calls Tryz.prog 21 #[.pointer (some ⟨b, 0, none⟩), .int .i64 (k : Int), .string ⟨sg.toArray⟩] W fun en W' => en = .returned (.bool (isS (tokAt L k) sg)) ∧ W' = W := by
  obtain ⟨c0, c1, c4, c5, cf⟩ := h.cells
  obtain ⟨n, hn⟩ : ∃ n, L.length = n := ⟨_, rfl⟩
  have hx := hX.below h.2
  clear h hX cf c1 c4 c5
  rw [hn] at c0
  by_cases hk : k < n
  · have ht : L[k]? = some (tokAt L k) := by unfold tokAt; rw [List.getD_eq_getElem?_getD, List.getElem?_eq_getElem (by omega)]; rfl
    obtain ⟨g, o, rfl, g0, g1, g2, g3⟩ := hx k _ ht
    obtain ⟨⟨tk, tx, tl, tc⟩, htk⟩ : ∃ t, tokAt L k = t := ⟨_, rfl⟩
    rw [htk] at g0 g1 ⊢
    simp only at g0 g1
    have j0 : (k : Int) < (n : Int) := by omega
    clear hx ht htk g2 g3 hn
    by_cases h7 : tk = 7
    · subst h7
      have HR : Hid (isS (7, tx, tl, tc) sg = (tx == sg)) := by show isS _ _ = _; unfold isS; simp
      rw [HR.out]
      by_cases hs : tx = sg
      · have y2 : (tx == sg) = true := beq_iff_eq.2 hs
        subst hs
        go_enter Tryz.func21, Tryz.ntmps21
        go_wp2_with fail
        go_ret
        exact ⟨by rw [y2]; rfl, rfl⟩
      · have y2 : (tx == sg) = false := beq_eq_false_iff_ne.2 hs
        go_enter Tryz.func21, Tryz.ntmps21
        go_wp2_with fail
        go_ret
        exact ⟨by rw [y2]; rfl, rfl⟩
    · have y1 : (tk == 7) = false := beq_eq_false_iff_ne.2 h7
      have HR : Hid (isS (tk, tx, tl, tc) sg = false) := by show isS _ _ = _; unfold isS; simp [h7]
      rw [HR.out]
      go_enter Tryz.func21, Tryz.ntmps21
      go_wp2_with fail
      go_ret
      exact ⟨rfl, rfl⟩
  · have j0 : ¬ (k : Int) < (n : Int) := by omega
    have HR : Hid (isS (tokAt L k) sg = false) := by
      show isS _ _ = _
      unfold tokAt
      rw [List.getD_eq_getElem?_getD, List.getElem?_eq_none (by omega)]
      unfold isS tok0
      simp
    rw [HR.out]
    clear hx hn
    go_enter Tryz.func21, Tryz.ntmps21
    go_wp2_with fail
    go_ret
    exact ⟨rfl, rfl⟩
def flI (e i at_ : Nat) : Nat := if e = 0 then at_ else i
def flE (e en : Nat) : Nat := if e = 0 then en else e
set_option maxRecDepth 100000 in
set_option maxHeartbeats 4000000 in
theorem fail_any (en k : Nat) (hb : w0.heap.size ≤ b) (h : DS w0 b pt ct L W i Q out m e) :
    Calls Tryz.prog 26 #[.pointer (some ⟨b, 0, none⟩), .int .i64 (en : Int), .int .i64 (k : Int)] W fun en' W' => en' = .returned (.tuple #[]) ∧ DS w0 b pt ct L W' (flI e i k) Q out m (flE e en) := by
  obtain ⟨c0, c1, c4, c5, cf⟩ := h.cells
  by_cases h0 : e = 0
  · subst h0
    have h1 := h.set hb (i' := i) (m' := m) (e' := en) 5 (.int .i64 (en : Int)) (fun vo vn => by simp)
    have h2 := h1.set hb (i' := k) (m' := m) (e' := en) 1 (.int .i64 (k : Int)) (fun vo vn => by simp)
    obtain ⟨d0, d1, d4, d5, df⟩ := h1.cells
    have f5 := cf 5
    have f1 := df 1
    have HS := hideL h2
    clear h h1 h2 c0 c1 c4 cf d0 d4 d5 df
    go_enter Tryz.func26, Tryz.ntmps26
    go_wp2_with fail
    go_end0
    exact ⟨rfl, HS.out⟩
  · have y1 : ((e : Int) == 0) = false := beq_eq_false_iff_ne.2 (by omega)
    have HS : Hid (DS w0 b pt ct L W (flI e i k) Q out m (flE e en)) := by
      show DS _ _ _ _ _ _ _ _ _ _ _
      unfold flI flE
      rw [if_neg h0, if_neg h0]
      exact h
    clear h c0 c1 c4 cf h0
    go_enter Tryz.func26, Tryz.ntmps26
    go_wp2_with fail
    go_end0
    exact ⟨rfl, HS.out⟩
set_option maxRecDepth 100000 in
set_option maxHeartbeats 4000000 in
theorem make1_any (hb : w0.heap.size ≤ b) (hm : m ≤ 1000) (h : DS w0 b pt ct L W i Q out m e) :
    Calls Tryz.prog 23 #[.pointer (some ⟨b, 0, none⟩)] W fun en' W' => en' = .returned (.tuple #[]) ∧ DS w0 b pt ct L W' i Q out (m + 1) (if 64 ≤ m then flE e 51 else e) := by
  obtain ⟨c0, c1, c4, c5, cf⟩ := h.cells
  have y2 : IntKind.i64.wrap ((m : Int) + 1) = (m : Int) + 1 := by rw [IntKind.wrap_i64]; omega
  by_cases h64 : 64 ≤ m
  · have y1 : (64 : Int) ≤ (m : Int) := by omega
    rw [if_pos h64]
    have HF := fail_any 51 i hb h
    have HFI : Hid (flI e i i = i) := by show flI e i i = i; unfold flI; split <;> rfl
    rw [HFI.out] at HF
    have HB := hideL hb
    clear h h64 c0 cf c5 hb
    go_enter Tryz.func23, Tryz.ntmps23
    go_wp2_with fail
    refine HF.mono ?_
    rintro en W1 ⟨rfl, h1⟩
    obtain ⟨d0, d1, d4, d5, df⟩ := h1.cells
    have f4 := df 4
    have HS := hideL (h1.set HB.out (i' := i) (m' := m + 1) (e' := flE e 51) 4 (.int .i64 ((m : Int) + 1)) (fun vo vn => by simp))
    clear h1 d0 d1 d5 df HF
    go_wp2_with fail
    go_end0
    exact ⟨rfl, HS.out⟩
  · have y1 : ¬ (64 : Int) ≤ (m : Int) := by omega
    rw [if_neg h64]
    have f4 := cf 4
    have HS := hideL (h.set hb (i' := i) (m' := m + 1) (e' := e) 4 (.int .i64 ((m : Int) + 1)) (fun vo vn => by simp))
    clear h h64 c0 cf c5 hb
    go_enter Tryz.func23, Tryz.ntmps23
    go_wp2_with fail
    go_end0
    exact ⟨rfl, HS.out⟩
end Go.Proofs.YtffgkjmfeannoaaGreatDoor.Ex
namespace Go.Proofs.YtffgkjmfeannoaaGreatDoor.Ex
open Go.RowKit
variable {w0 W X : World} {b : Nat} {pt : Option Addr} {ct : Nat} {L : List XTok} {i m e : Nat} {Q : List Nat} {out : List Nd}
theorem info_by : (Tryz.prog.info? 5).map (fun i => (i.zero, i.size, i.bytes)) = some (some (.int .u8 0), 1, 1) := by kernel_rfl
theorem qC_cons (c : Nat) (Q : List Nat) : qC (c :: Q) = qC Q ++ [.int .u8 (c : Int)] := by simp [qC]
theorem DS.pushN (x : Nd) (h : DS w0 b pt ct L W i Q out m e) (hb : w0.heap.size ≤ b) (hout : out.length ≤ 1000) : ∃ vn q n c W3, W.cell? ⟨b, 3, none⟩ = some vn ∧
    (Builtin.append_ #[25, 25] 25 #[vn, .slice (some ⟨W.heap.size, 0, none⟩) 1 1]).run Tryz.prog (W.alloc (.cells #[.int .i64 (x.k : Int), .string ⟨x.t.f.toArray⟩, .int .i64 (x.t.o : Int), .int .i64 (x.t.fm : Int), .int .i64 x.t.lo, .int .i64 x.t.hi, .int .i64 x.t.ln, .string ⟨x.t.p.toArray⟩] 50 (0, 0))) = .ok (.slice q n c) W3 ∧
    W3.cell? ⟨b, 3, none⟩ = some vn ∧ W3.frozen? ⟨b, 3, none⟩ = false ∧ DS w0 b pt ct L (W3.setCell ⟨b, 3, none⟩ (.slice q n c)) i Q (out ++ [x]) m e := by
  obtain ⟨⟨vo, vn, h1, h2, h3⟩, h4⟩ := h
  obtain ⟨W2, hW2⟩ : ∃ W2, W.alloc (.cells #[.int .i64 (x.k : Int), .string ⟨x.t.f.toArray⟩, .int .i64 (x.t.o : Int), .int .i64 (x.t.fm : Int), .int .i64 x.t.lo, .int .i64 x.t.hi, .int .i64 x.t.ln, .string ⟨x.t.p.toArray⟩] 50 (0, 0)) = W2 := ⟨_, rfl⟩
  have b2 : Below W.heap.size W W2 := by rw [← hW2]; exact belAZ (Below.refl _ _) _
  have hnb : W2.heap[W.heap.size]? = some (.cells #[.int .i64 (x.k : Int), .string ⟨x.t.f.toArray⟩, .int .i64 (x.t.o : Int), .int .i64 (x.t.fm : Int), .int .i64 x.t.lo, .int .i64 x.t.hi, .int .i64 x.t.ln, .string ⟨x.t.p.toArray⟩] 50 (0, 0)) := by rw [← hW2]; exact alloc_getZ _ _
  have k1 := keepZ b2 h1
  have k2 := own_belZ h2 b2
  have k3 : OWN W2 w0.heap.size vn out := own_belZ h3 b2
  obtain ⟨i0, hi, hz0, hz1, hz2⟩ := info_parts info_nd
  obtain ⟨v', W3, hr, o3, g3, n3⟩ := appZ (TS := 25) (nb := W.heap.size) 25 Tryz.underlying25 hi hz0 hz1 hz2 rfl (by decide) k3 (Nat.le_trans h4.size b2.size) (news := ndC x) rfl (World.news_of_block hnb) (fun u hu => by simp only [ndC, List.mem_cons, List.not_mem_nil, or_false] at hu; rcases hu with rfl | rfl | rfl | rfl | rfl | rfl | rfl | rfl <;> rfl) (by omega) (by decide)
  obtain ⟨q9, c9, hv9⟩ : ∃ q9 c9, v' = .slice q9 (out.length + 1) c9 := shapeZ o3
  subst hv9
  have hbk : W3.heap[b]? = W2.heap[b]? := g3.block b (lt_getZ k1) (fun e => own_box_ne k3 k1 (by decide) e.symm)
  have k4 := hbk.trans k1
  have o3' : OWN W3 w0.heap.size (.slice q9 (out.length + 1) c9) (out ++ [x]) := by
    unfold OWN
    rw [nds_snoc, List.length_append, List.length_singleton]
    exact o3
  have k5 : OWB W3 w0.heap.size vo Q := World.ownsRow.kept k2 g3 (own_neZ k2 k3 (by decide))
  refine ⟨vn, q9, out.length + 1, c9, W3, by rw [(cellsZ h1).1]; rfl, by rw [hW2]; exact hr, by rw [(cellsZ k4).1]; rfl, (cellsZ k4).2 3, ⟨vo, .slice q9 (out.length + 1) c9, by rw [set_getZ _ k4]; simp, World.ownsRow.kept k5 (gr_setZ _ _ _ _) (.inr (own_box_ne k5 k4 (by decide))), World.ownsRow.kept o3' (gr_setZ _ _ _ _) (.inr (own_box_ne o3' k4 (by decide)))⟩, (bel_grZ (bel0Z h4 b2) g3 (fun k e => (World.ownsRow.lt k3 k e).1)).setCell hb _⟩
theorem DS.pushB (x : Nat) (h : DS w0 b pt ct L W i Q out m e) (hb : w0.heap.size ≤ b) (hq : Q.length ≤ 90000) : ∃ vo q n c W3, W.cell? ⟨b, 2, none⟩ = some vo ∧
    (Builtin.append_ #[42, 42] 42 #[vo, .slice (some ⟨W.heap.size, 0, none⟩) 1 1]).run Tryz.prog (W.alloc (.cells #[.int .u8 (x : Int)] 5 (0, 0))) = .ok (.slice q n c) W3 ∧
    W3.cell? ⟨b, 2, none⟩ = some vo ∧ W3.frozen? ⟨b, 2, none⟩ = false ∧ DS w0 b pt ct L (W3.setCell ⟨b, 2, none⟩ (.slice q n c)) i (x :: Q) out m e := by
  obtain ⟨⟨vo, vn, h1, h2, h3⟩, h4⟩ := h
  obtain ⟨W2, hW2⟩ : ∃ W2, W.alloc (.cells #[.int .u8 (x : Int)] 5 (0, 0)) = W2 := ⟨_, rfl⟩
  have b2 : Below W.heap.size W W2 := by rw [← hW2]; exact belAZ (Below.refl _ _) _
  have hnb : W2.heap[W.heap.size]? = some (.cells #[.int .u8 (x : Int)] 5 (0, 0)) := by rw [← hW2]; exact alloc_getZ _ _
  have k1 := keepZ b2 h1
  have k2 : OWB W2 w0.heap.size vo Q := own_belZ h2 b2
  have k3 : OWN W2 w0.heap.size vn out := own_belZ h3 b2
  obtain ⟨i0, hi, hz0, hz1, hz2⟩ := info_parts info_by
  obtain ⟨v', W3, hr, o3, g3, n3⟩ := appZ (TS := 42) (nb := W.heap.size) 42 Tryz.underlying42 hi hz0 hz1 hz2 rfl (by decide) k2 (Nat.le_trans h4.size b2.size) (news := [.int .u8 (x : Int)]) rfl (World.news_of_block hnb) (fun u hu => by simp only [List.mem_cons, List.not_mem_nil, or_false] at hu; rw [hu]; rfl) (by omega) (by decide)
  obtain ⟨q9, c9, hv9⟩ : ∃ q9 c9, v' = .slice q9 (Q.length + 1) c9 := shapeZ o3
  subst hv9
  have hbk : W3.heap[b]? = W2.heap[b]? := g3.block b (lt_getZ k1) (fun e => own_box_ne k2 k1 (by decide) e.symm)
  have k4 := hbk.trans k1
  have o3' : OWB W3 w0.heap.size (.slice q9 (Q.length + 1) c9) (x :: Q) := by
    unfold OWB
    rw [qC_cons, List.length_cons]
    exact o3
  have k5 : OWN W3 w0.heap.size vn out := World.ownsRow.kept k3 g3 (own_neZ k3 k2 (by decide))
  refine ⟨vo, q9, Q.length + 1, c9, W3, by rw [(cellsZ h1).1]; rfl, by rw [hW2]; exact hr, by rw [(cellsZ k4).1]; rfl, (cellsZ k4).2 2, ⟨.slice q9 (Q.length + 1) c9, vn, by rw [set_getZ _ k4]; simp, World.ownsRow.kept o3' (gr_setZ _ _ _ _) (.inr (own_box_ne o3' k4 (by decide))), World.ownsRow.kept k5 (gr_setZ _ _ _ _) (.inr (own_box_ne k5 k4 (by decide)))⟩, (bel_grZ (bel0Z h4 b2) g3 (fun k e => (World.ownsRow.lt k2 k e).1)).setCell hb _⟩
set_option maxRecDepth 100000 in
set_option maxHeartbeats 4000000 in
theorem put_any (k : Nat) (hb : w0.heap.size ≤ b) (hout : out.length ≤ 1000) (h : DS w0 b pt ct L W i Q out m e) :
    Calls Tryz.prog 38 #[.pointer (some ⟨b, 0, none⟩), .int .i64 (k : Int)] W fun en' W' => en' = .returned (.tuple #[]) ∧ DS w0 b pt ct L W' i Q (out ++ [nd k]) m e := by
  obtain ⟨vn, q, n, c, W3, c3, hr, d3, f3, hd⟩ := h.pushN (nd k) hb hout
  unfold nd ts0 at hr
  simp only at hr
  have HR := hideL hr
  have HD := hideL hd
  clear h hr hd hb hout
  go_enter Tryz.func38, Tryz.ntmps38
  go_wp2_with (at_builtin; refine wpList_runZ rfl _ _ 25 rfl rfl rfl HR.out ?_; clear HR)
  go_end0
  exact ⟨rfl, HD.out⟩
end Go.Proofs.YtffgkjmfeannoaaGreatDoor.Ex
