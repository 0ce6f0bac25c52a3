import Derived.Test.YtffgkjmfeannoaaGreatDoorXBR
namespace Go.Proofs.YtffgkjmfeannoaaGreatDoor.Ex
open Go.RowKit
variable {w0 W X : World} {b : Nat} {pt : Option Addr} {ct : Nat} {L : List XTok} {i m e : Nat} {Q : List Nat} {out : List Nd}
def opX (LT : List Tk) (i : Nat) (Q : List Nat) (m : Nat) (out : List Nd) : Except (Nat × Nat) (Bool × Nat × List Nat × Nat × List Nd) :=
  match tk LT i with
  | .bang => if 32 ≤ deep Q then .error (53, i) else if 64 ≤ m then .error (51, i) else .ok (false, i + 1, 33 :: Q, m + 1, out)
  | .opn => if 32 ≤ deep Q then .error (53, i) else .ok (false, i + 1, 40 :: Q, m, out)
  | _ => match lfV LT i m out with
    | .error e => .error e
    | .ok q => .ok (true, q.1, Q, q.2.1, q.2.2)
theorem dM_op {LT : List Tk} (n : Nat) : dM LT (n + 1) true i Q m out = match opX LT i Q m out with
    | .error e => some (.error e)
    | .ok (false, i', Q', m', out') => dM LT n true i' Q' m' out'
    | .ok (true, i', Q', m', out') => dM LT n false i' (dnP Q') m' (out' ++ dnO Q') := by
  rw [dM]
  unfold opX
  cases h : tk LT i with
  | bang =>
    simp only
    split
    · rfl
    · split <;> rfl
  | opn => simp only; split <;> rfl
  | _ => simp only; cases lfV LT i m out <;> rfl
theorem opX_bang (h : isS (tokAt L i) [33] = true) : opX (L.map clX) i Q m out = if 32 ≤ deep Q then .error (53, i) else if 64 ≤ m then .error (51, i) else .ok (false, i + 1, 33 :: Q, m + 1, out) := by
  unfold opX
  rw [tk_cl, (is_bang (nB := ofB 2) (nV := nV0) (pB := ofB 5) _).1 h]
theorem opX_opn (h : isS (tokAt L i) [40] = true) : opX (L.map clX) i Q m out = if 32 ≤ deep Q then .error (53, i) else .ok (false, i + 1, 40 :: Q, m, out) := by
  unfold opX
  rw [tk_cl, (is_opn (nB := ofB 2) (nV := nV0) (pB := ofB 5) _).1 h]
theorem opX_leaf (h1 : isS (tokAt L i) [33] = false) (h2 : isS (tokAt L i) [40] = false) : opX (L.map clX) i Q m out = match lfV (L.map clX) i m out with
    | .error e => .error e
    | .ok q => .ok (true, q.1, Q, q.2.1, q.2.2) := by
  unfold opX
  split
  · rename_i h
    rw [tk_cl] at h
    rw [(is_bang (nB := ofB 2) (nV := nV0) (pB := ofB 5) _).2 h] at h1
    cases h1
  · rename_i h
    rw [tk_cl] at h
    rw [(is_opn (nB := ofB 2) (nV := nV0) (pB := ofB 5) _).2 h] at h2
    cases h2
  · rfl
theorem lfV_no (h : nmB (ofB 2) (tokAt L i) = false) : lfV (L.map clX) i m out = .error (50, i) := by
  obtain ⟨h1, h2, h3⟩ := cl_nm (nV := nV0) (pB := ofB 5) h
  unfold lfV
  rw [tk_cl]
  split
  · rename_i h; exact absurd h h1
  · rename_i h; exact absurd h h2
  · rename_i h; exact absurd h (h3 _)
  · rfl
def OPM (w0 : World) (b : Nat) (pt : Option Addr) (ct : Nat) (L : List XTok) (r : Except (Nat × Nat) (Bool × Nat × List Nat × Nat × List Nd)) (v : Bool) (W' : World) : Prop := match r with
  | .error p => p.1 ≠ 0 ∧ ∃ Q' out' m', DS w0 b pt ct L W' p.2 Q' out' m' p.1
  | .ok q => v = q.1 ∧ DS w0 b pt ct L W' q.2.1 q.2.2.1 q.2.2.2.2 q.2.2.2.1 0
def OPQ (w0 : World) (b : Nat) (pt : Option Addr) (ct : Nat) (L : List XTok) (r : Except (Nat × Nat) (Bool × Nat × List Nat × Nat × List Nd)) (en : Ending) (W' : World) : Prop := ∃ v : Bool, en = .returned (.bool v) ∧ OPM w0 b pt ct L r v W'
set_option maxRecDepth 100000 in
set_option maxHeartbeats 32000000 in
theorem operand_any (hX : XR w0 pt L) (hb : w0.heap.size ≤ b) (hlen : L.length ≤ 100000) (hS : shT L) (hil : i ≤ L.length) (hm : m ≤ 64) (hout : out.length ≤ 1000) (hq : Q.length ≤ 90000) (h : DS w0 b pt ct L W i Q out m 0) :
    Calls Tryz.prog 12 #[.pointer (some ⟨b, 0, none⟩)] W (OPQ w0 b pt ct L (opX (L.map clX) i Q m out)) := by
  obtain ⟨R, hR⟩ : ∃ R, opX (L.map clX) i Q m out = R := ⟨_, rfl⟩
  have HB : Hid (w0.heap.size ≤ b ∧ i ≤ 100000 ∧ m ≤ 64 ∧ out.length ≤ 1000 ∧ Q.length ≤ 90000) := ⟨hb, by omega, hm, hout, hq⟩
  have HSG : Hid (∀ (sg : List UInt8) U, DS w0 b pt ct L U i Q out m 0 → Calls Tryz.prog 21 #[.pointer (some ⟨b, 0, none⟩), .int .i64 (i : Int), .string ⟨sg.toArray⟩] U fun en W' => en = .returned (.bool (isS (tokAt L i) sg)) ∧ DS w0 b pt ct L W' i Q out m 0) := fun sg U hU => (sign_any i sg hX hlen hU).mono fun en W' he => ⟨he.1, by rw [he.2]; exact hU⟩
  have HDP : Hid (∀ U, DS w0 b pt ct L U i Q out m 0 → Calls Tryz.prog 22 #[.pointer (some ⟨b, 0, none⟩)] U fun en W' => en = .returned (.tuple #[]) ∧ DS w0 b pt ct L W' i Q out m (if 32 ≤ deep Q then 53 else 0)) := fun U hU => deep_any hb hq hU
  have HMK : Hid (∀ U e, DS w0 b pt ct L U i Q out m e → Calls Tryz.prog 23 #[.pointer (some ⟨b, 0, none⟩)] U fun en W' => en = .returned (.tuple #[]) ∧ DS w0 b pt ct L W' i Q out (m + 1) (if 64 ≤ m then flE e 51 else e)) := fun U e hU => make1_any hb (by omega) hU
  have HPL : Hid (∀ U (k : Nat), DS w0 b pt ct L U i Q out m 0 → Calls Tryz.prog 24 #[.pointer (some ⟨b, 0, none⟩), .int .i64 (k : Int)] U fun en W' => en = .returned (.tuple #[]) ∧ ((m = 64 ∧ DS w0 b pt ct L W' i Q out (m + 1) 51) ∨ (m ≠ 64 ∧ DS w0 b pt ct L W' (i + 1) Q (out ++ [nd k]) (m + 1) 0))) := fun U k hU => plain_any k hb (by omega) hm hout hU
  have HTS : Hid (∀ U, i < L.length → DS w0 b pt ct L U i Q out (m + 1) 0 → Calls Tryz.prog 25 #[.pointer (some ⟨b, 0, none⟩)] U (TSQ w0 b pt ct L Q (m + 1) out (tsX L (i + 1) (tokAt L i).2.1))) := fun U hi hU => rtest_any hX hb hlen hS hi hout hU
  have HFL : Hid (∀ U, DS w0 b pt ct L U i Q out m 0 → Calls Tryz.prog 26 #[.pointer (some ⟨b, 0, none⟩), .int .i64 50, .int .i64 (i : Int)] U fun en W' => en = .returned (.tuple #[]) ∧ DS w0 b pt ct L W' i Q out m 50) := fun U hU => (fail0_any 50 i hb hU).mono fun en W' he => ⟨he.1, he.2.1⟩
  have HPB : Hid (∀ U (x m' e : Nat), DS w0 b pt ct L U i Q out m' e → ∃ vo q n c W3, U.cell? ⟨b, 2, none⟩ = some vo ∧
    (Builtin.append_ #[42, 42] 42 #[vo, .slice (some ⟨U.heap.size, 0, none⟩) 1 1]).run Tryz.prog (U.alloc (.cells #[.int .u8 (x : Int)] 5 (0, 0))) = .ok (.slice q n c) W3 ∧
    W3.cell? ⟨b, 2, none⟩ = some vo ∧ W3.frozen? ⟨b, 2, none⟩ = false ∧ DS w0 b pt ct L (W3.setCell ⟨b, 2, none⟩ (.slice q n c)) i (x :: Q) out m' e) := fun U x m' e hU => hU.pushB x hb hq
  have HTK : Hid (∀ U, DS w0 b pt ct L U i Q out m 0 → i < L.length → ∃ g o, pt = some ⟨g, o, none⟩ ∧ U.cell? ⟨g, o + i * 4, none⟩ = some (.int .i64 (tokAt L i).1) ∧ U.cell? ⟨g, o + i * 4 + 1, none⟩ = some (.string ⟨(tokAt L i).2.1.toArray⟩)) := fun U hU hi => XR_tok (hX.below hU.2) hi
  have HR0 := hideL hR
  rw [hR]
  obtain ⟨n, hn⟩ : ∃ n, L.length = n := ⟨_, rfl⟩
  have HNL := hideL hn
  have HLE : Hid (i ≤ n ∧ n ≤ 100000) := ⟨by omega, by omega⟩
  have HS0 := hideL h
  obtain ⟨c0, c1, c4, c5, cf⟩ := h.cells
  rw [hn] at c0
  obtain ⟨B, hB⟩ : ∃ B, B = nmB nameB (tokAt L i) := ⟨_, rfl⟩
  have HBN := hideL hB
  have y5 : IntKind.i64.wrap ((i : Int) + 1) = (i : Int) + 1 := by rw [IntKind.wrap_i64]; omega
  clear hX hb hlen hS hil hm hout hq h hR hn hB c4 c5 cf
  go_enter Tryz.func12, Tryz.ntmps12
  go_wp2_with fail
  go_cut [3] from 4 to 41 (fun v wc => v = .bool B ∧ Hid (DS w0 b pt ct L wc i Q out m 0))
  case first =>
    by_cases hin : i < n
    · have j3 : (i : Int) < (n : Int) := by omega
      obtain ⟨g, o, rfl, t0, t1⟩ := HTK.out W HS0.out (by rw [HNL.out]; exact hin)
      obtain ⟨⟨tk, tx, tl, tc⟩, ht⟩ : ∃ t, tokAt L i = t := ⟨_, rfl⟩
      rw [ht] at t0 t1 HBN
      simp only at t0 t1
      unfold nmB at HBN
      simp only at HBN
      by_cases h2 : tk = 2
      · subst h2
        cases hnm : nameB tx with
        | true =>
          obtain rfl : B = true := by rw [HBN.out, hnm]; rfl
          have HNM : Hid (∀ U, Calls Tryz.prog 20 #[.string ⟨tx.toArray⟩] U fun e w' => e = .returned (.bool true) ∧ w' = U) := fun U => by rw [← hnm]; exact yName_any tx U
          clear ht hnm
          clear HBN
          go_quiet (first | (go_at_call 20; exact Calls.quiet_of_same (HNM.out _)))
          go_wp2
          go_meet
          exact ⟨by trivial, HS0.out.below (bel_drewZ nq (Below.refl _ _))⟩
        | false =>
          obtain rfl : B = false := by rw [HBN.out, hnm]; rfl
          have HNM : Hid (∀ U, Calls Tryz.prog 20 #[.string ⟨tx.toArray⟩] U fun e w' => e = .returned (.bool false) ∧ w' = U) := fun U => by rw [← hnm]; exact yName_any tx U
          clear ht hnm
          clear HBN
          go_quiet (first | (go_at_call 20; exact Calls.quiet_of_same (HNM.out _)))
          go_wp2
          go_meet
          exact ⟨by trivial, HS0.out.below (bel_drewZ nq (Below.refl _ _))⟩
      · have y2 : (tk == 2) = false := beq_eq_false_iff_ne.2 h2
        obtain rfl : B = false := by rw [HBN.out, y2]; rfl
        clear ht h2
        clear HBN
        go_quiet (first | (go_at_call 20; exact Calls.quiet_of_same (yName_any _ _)))
        go_wp2
        go_meet
        exact ⟨by trivial, HS0.out.below (bel_drewZ nq (Below.refl _ _))⟩
    · have j3 : ¬ (i : Int) < (n : Int) := by omega
      obtain rfl : B = false := by
        rw [HBN.out]
        unfold nmB tokAt
        rw [List.getD_eq_getElem?_getD, List.getElem?_eq_none (by rw [HNL.out]; omega)]
        rfl
      clear HBN
      go_quiet (first | (go_at_call 20; exact Calls.quiet_of_same (yName_any _ _)))
      go_wp2
      go_meet
      exact ⟨by trivial, HS0.out.below (bel_drewZ nq (Below.refl _ _))⟩
  case rest =>
  obtain ⟨rfl, HS1⟩ := hcut
  rename World => wc
  clear HS0 c0 c1
  have c1 := HS1.out.cells.2.1
  have HA1 := HSG.out [33] wc HS1.out
  cases hs1 : isS (tokAt L i) [33] with
  | true =>
    rw [opX_bang hs1] at HR0
    rw [hs1] at HA1
    obtain ⟨E1, hE1⟩ : ∃ E1, E1 = (if 32 ≤ deep Q then 53 else 0) := ⟨_, rfl⟩
    obtain ⟨E, hE0⟩ : ∃ E, E = (if 64 ≤ m then flE E1 51 else E1) := ⟨_, rfl⟩
    rw [← hE1] at HDP
    have HMK1 : Hid (∀ U, DS w0 b pt ct L U i Q out m E1 → Calls Tryz.prog 23 #[.pointer (some ⟨b, 0, none⟩)] U fun en W' => en = .returned (.tuple #[]) ∧ DS w0 b pt ct L W' i Q out (m + 1) E) := fun U hU => by rw [hE0]; exact HMK.out U _ hU
    have HRE : Hid (R = if E ≠ 0 then .error (E, i) else .ok (false, i + 1, 33 :: Q, m + 1, out)) := by
      show R = _
      rw [← HR0.out, hE0, hE1]
      unfold flE
      by_cases h1 : 32 ≤ deep Q
      · rw [if_pos h1, if_pos h1]
        by_cases h2 : 64 ≤ m
        · rw [if_pos h2]; rfl
        · rw [if_neg h2]; rfl
      · rw [if_neg h1, if_neg h1]
        by_cases h2 : 64 ≤ m
        · rw [if_pos h2, if_pos h2]; rfl
        · rw [if_neg h2, if_neg h2]; rfl
    clear hs1 hE1 hE0 HR0 HMK HPL HTS HFL HTK HSG
    go_wp2_with fail
    refine HA1.mono ?_
    rintro en W1 ⟨rfl, s1⟩
    have HD1 := HDP.out W1 s1
    clear HA1 s1 c1
    go_wp2_with fail
    refine HD1.mono ?_
    rintro en W2 ⟨rfl, s2⟩
    have HM1 := HMK1.out W2 s2
    clear HD1 s2
    go_wp2_with fail
    refine HM1.mono ?_
    rintro en WX ⟨rfl, sx⟩
    clear HM1
    obtain ⟨vo, q9, n9, c9, W3, p1, hr, p2, p3, hd⟩ := HPB.out WX 33 _ _ sx
    have HR : Hid ((Builtin.append_ #[42, 42] 42 #[vo, .slice (some ⟨WX.heap.size, 0, none⟩) 1 1]).run Tryz.prog (WX.alloc (.cells #[.int .u8 33] 5 (0, 0))) = .ok (.slice q9 n9 c9) W3) := hr
    obtain ⟨z0, z1, z4, z5, zf⟩ := hd.cells
    have zf1 := zf 1
    have HD := hideL hd
    clear hr hd zf z0 z4
    by_cases hE : E = 0
    · subst hE
      have HD2 := hideL (HD.out.set HB.out.1 (i' := i + 1) (m' := m + 1) (e' := 0) 1 (.int .i64 ((i : Int) + 1)) (fun vo vn => by simp))
      have HF : Hid (OPM w0 b pt ct L R false ((W3.setCell ⟨b, 2, none⟩ (.slice q9 n9 c9)).setCell ⟨b, 1, none⟩ (.int .i64 ((i : Int) + 1)))) := by
        rw [HRE.out, if_neg (fun h => h rfl)]
        exact ⟨rfl, HD2.out⟩
      clear HRE HD HD2
      go_wp2_with (at_builtin; refine wpList_runZ rfl _ _ 42 rfl rfl rfl HR.out ?_; clear HR)
      go_ret
      exact ⟨false, rfl, HF.out⟩
    · have w1 : ((E : Int) == 0) = false := beq_eq_false_iff_ne.2 (by omega)
      have HF : Hid (OPM w0 b pt ct L R false (W3.setCell ⟨b, 2, none⟩ (.slice q9 n9 c9))) := by
        rw [HRE.out, if_pos hE]
        exact ⟨hE, _, _, _, HD.out⟩
      clear HRE HD hE
      go_wp2_with (at_builtin; refine wpList_runZ rfl _ _ 42 rfl rfl rfl HR.out ?_; clear HR)
      go_ret
      exact ⟨false, rfl, HF.out⟩
  | false =>
    rw [hs1] at HA1
    have HS33 := hideL hs1
    go_wp2_with fail
    refine HA1.mono ?_
    rintro en W1 ⟨rfl, s1⟩
    have HA2 := HSG.out [40] W1 s1
    have c1 := s1.cells.2.1
    clear HA1 s1 hs1
    cases hs2 : isS (tokAt L i) [40] with
    | true =>
      rw [opX_opn hs2] at HR0
      rw [hs2] at HA2
      obtain ⟨E, hE0⟩ : ∃ E, E = (if 32 ≤ deep Q then 53 else 0) := ⟨_, rfl⟩
      rw [← hE0] at HDP
      have HRE : Hid (R = if E ≠ 0 then .error (E, i) else .ok (false, i + 1, 40 :: Q, m, out)) := by
        show R = _
        rw [← HR0.out, hE0]
        by_cases h1 : 32 ≤ deep Q
        · rw [if_pos h1, if_pos h1]; rfl
        · rw [if_neg h1, if_neg h1]; rfl
      clear hs2 hE0 HR0 HMK HPL HTS HFL HTK HSG
      go_wp2_with fail
      refine HA2.mono ?_
      rintro en W2 ⟨rfl, s2⟩
      have HD1 := HDP.out W2 s2
      clear HA2 s2 c1
      go_wp2_with fail
      refine HD1.mono ?_
      rintro en WX ⟨rfl, sx⟩
      clear HD1
      obtain ⟨vo, q9, n9, c9, W3, p1, hr, p2, p3, hd⟩ := HPB.out WX 40 _ _ sx
      have HR : Hid ((Builtin.append_ #[42, 42] 42 #[vo, .slice (some ⟨WX.heap.size, 0, none⟩) 1 1]).run Tryz.prog (WX.alloc (.cells #[.int .u8 40] 5 (0, 0))) = .ok (.slice q9 n9 c9) W3) := hr
      obtain ⟨z0, z1, z4, z5, zf⟩ := hd.cells
      have zf1 := zf 1
      have HD := hideL hd
      clear hr hd zf z0 z4
      by_cases hE : E = 0
      · subst hE
        have HD2 := hideL (HD.out.set HB.out.1 (i' := i + 1) (m' := m) (e' := 0) 1 (.int .i64 ((i : Int) + 1)) (fun vo vn => by simp))
        have HF : Hid (OPM w0 b pt ct L R false ((W3.setCell ⟨b, 2, none⟩ (.slice q9 n9 c9)).setCell ⟨b, 1, none⟩ (.int .i64 ((i : Int) + 1)))) := by
          rw [HRE.out, if_neg (fun h => h rfl)]
          exact ⟨rfl, HD2.out⟩
        clear HRE HD HD2
        go_wp2_with (at_builtin; refine wpList_runZ rfl _ _ 42 rfl rfl rfl HR.out ?_; clear HR)
        go_ret
        exact ⟨false, rfl, HF.out⟩
      · have w1 : ((E : Int) == 0) = false := beq_eq_false_iff_ne.2 (by omega)
        have HF : Hid (OPM w0 b pt ct L R false (W3.setCell ⟨b, 2, none⟩ (.slice q9 n9 c9))) := by
          rw [HRE.out, if_pos hE]
          exact ⟨hE, _, _, _, HD.out⟩
        clear HRE HD hE
        go_wp2_with (at_builtin; refine wpList_runZ rfl _ _ 42 rfl rfl rfl HR.out ?_; clear HR)
        go_ret
        exact ⟨false, rfl, HF.out⟩
    | false =>
      rw [opX_leaf HS33.out hs2] at HR0
      rw [hs2] at HA2
      clear hs2 HPB HDP HSG
      go_wp2_with fail
      refine HA2.mono ?_
      rintro en W2 ⟨rfl, s2⟩
      have HS2 := hideL s2
      clear HA2 s2 c1
      cases B with
      | false =>
        have hno : nmB (ofB 2) (tokAt L i) = false := by
          have := HBN.out.symm
          unfold nmB at this ⊢
          rw [ofB_name]
          exact this
        rw [lfV_no hno] at HR0
        have HW2 := HS2
        have c0 := HS2.out.cells.1
        have c1 := HS2.out.cells.2.1
        clear hno HBN HS2
        go_wp2_with fail
        go_quiet (fail)
        obtain ⟨W3, hW3⟩ : ∃ W3, W3 = W2.drewN nq := ⟨_, rfl⟩
        have HW3 : Hid (DS w0 b pt ct L W3 i Q out m 0) := by show DS _ _ _ _ _ _ _ _ _ _ _; rw [hW3]; exact HW2.out.below (bel_drewZ nq (Below.refl _ _))
        rw [← hW3]
        clear hW3 HW2
        clear c0 c1
        have c0 := HW3.out.cells.1
        have c1 := HW3.out.cells.2.1
        go_wp2_with fail
        go_quiet (fail)
        obtain ⟨W4, hW4⟩ : ∃ W4, W4 = W3.drewN nq := ⟨_, rfl⟩
        have HW4 : Hid (DS w0 b pt ct L W4 i Q out m 0) := by show DS _ _ _ _ _ _ _ _ _ _ _; rw [hW4]; exact HW3.out.below (bel_drewZ nq (Below.refl _ _))
        rw [← hW4]
        clear hW4 HW3
        clear c0 c1
        have c1 := HW4.out.cells.2.1
        have HF1 := HFL.out W4 HW4.out
        clear HW4
        go_wp2_with fail
        refine HF1.mono ?_
        rintro en W5 ⟨rfl, s3⟩
        have c5 := s3.cells.2.2.2.1
        have HF : Hid (OPM w0 b pt ct L R false W5) := by
          rw [← HR0.out]
          exact ⟨by simp, _, _, _, s3⟩
        clear HF1 s3 HR0
        go_wp2_with fail
        go_ret
        exact ⟨false, rfl, HF.out⟩
      | true =>
        have hyes : nmB (ofB 2) (tokAt L i) = true := by
          have := HBN.out.symm
          unfold nmB at this ⊢
          rw [ofB_name]
          exact this
        rw [lfX_eq hyes] at HR0
        have hin : i < L.length := tok_lt rfl (by rw [(nmB_two hyes).1]; decide)
        obtain ⟨g, o, rfl, t0, t1⟩ := HTK.out W2 HS2.out hin
        have c0 := HS2.out.cells.1
        have c1 := HS2.out.cells.2.1
        rw [HNL.out] at c0
        have j3 : (i : Int) < (n : Int) := by have := HNL.out; omega
        have HTS1 : Hid (∀ U, DS w0 b (some ⟨g, o, none⟩) ct L U i Q out (m + 1) 0 → Calls Tryz.prog 25 #[.pointer (some ⟨b, 0, none⟩)] U (TSQ w0 b (some ⟨g, o, none⟩) ct L Q (m + 1) out (tsX L (i + 1) (tokAt L i).2.1))) := fun U hU => HTS.out U hin hU
        unfold lfX at HR0
        obtain ⟨tx, htx⟩ : ∃ tx, (tokAt L i).2.1 = tx := ⟨_, rfl⟩
        rw [htx] at t1 HR0 HTS1
        have HT1 : Hid (∀ U, DS w0 b (some ⟨g, o, none⟩) ct L U i Q out m 0 → U.cell? ⟨g, o + i * 4 + 1, none⟩ = some (.string ⟨tx.toArray⟩)) := fun U hU => by
          obtain ⟨g', o', e9, _, h9⟩ := HTK.out U hU hin
          injection e9 with e9
          injection e9 with e1 e2 e3
          subst e1 e2
          rw [← htx]
          exact h9
        have HW2 := HS2
        clear htx hyes hin t0 HTK HTS HS2 HBN HS33 HFL
        by_cases e1 : tx = [97, 110, 121]
        · rw [if_pos e1] at HR0
          subst e1
          go_wp2_with fail
          go_quiet (fail)
          obtain ⟨W3, hW3⟩ : ∃ W3, W3 = W2.drewN nq := ⟨_, rfl⟩
          have HW3 : Hid (DS w0 b (some ⟨g, o, none⟩) ct L W3 i Q out m 0) := by show DS _ _ _ _ _ _ _ _ _ _ _; rw [hW3]; exact HW2.out.below (bel_drewZ nq (Below.refl _ _))
          rw [← hW3]
          clear hW3 HW2
          have HP1 := HPL.out W3 1 HW3.out
          clear HW3
          go_wp2_with fail
          refine HP1.mono ?_
          rintro en W7 ⟨rfl, hs7⟩
          have HF : Hid (OPM w0 b (some ⟨g, o, none⟩) ct L R true W7) := by
            rw [← HR0.out]
            rcases hs7 with ⟨h64, s7⟩ | ⟨h64, s7⟩
            · rw [if_pos h64]
              exact ⟨by simp, _, _, _, s7⟩
            · rw [if_neg h64]
              exact ⟨rfl, s7⟩
          clear hs7 HP1 HR0
          go_wp2_with fail
          go_ret
          exact ⟨true, rfl, HF.out⟩
        · rw [if_neg e1] at HR0
          have y1 : (tx == [97, 110, 121]) = false := beq_eq_false_iff_ne.2 e1
          clear e1
          go_wp2_with fail
          go_quiet (fail)
          obtain ⟨W3, hW3⟩ : ∃ W3, W3 = W2.drewN nq := ⟨_, rfl⟩
          have HW3 : Hid (DS w0 b (some ⟨g, o, none⟩) ct L W3 i Q out m 0) := by show DS _ _ _ _ _ _ _ _ _ _ _; rw [hW3]; exact HW2.out.below (bel_drewZ nq (Below.refl _ _))
          rw [← hW3]
          clear hW3 HW2
          clear c0 c1 t1
          have c0 := HW3.out.cells.1
          have c1 := HW3.out.cells.2.1
          rw [HNL.out] at c0
          have t1 := HT1.out W3 HW3.out
          by_cases e2 : tx = [110, 111, 110, 101]
          · rw [if_pos e2] at HR0
            subst e2
            go_wp2_with fail
            go_quiet (fail)
            obtain ⟨W4, hW4⟩ : ∃ W4, W4 = W3.drewN nq := ⟨_, rfl⟩
            have HW4 : Hid (DS w0 b (some ⟨g, o, none⟩) ct L W4 i Q out m 0) := by show DS _ _ _ _ _ _ _ _ _ _ _; rw [hW4]; exact HW3.out.below (bel_drewZ nq (Below.refl _ _))
            rw [← hW4]
            clear hW4 HW3
            have HP1 := HPL.out W4 2 HW4.out
            clear HW4
            go_wp2_with fail
            refine HP1.mono ?_
            rintro en W7 ⟨rfl, hs7⟩
            have HF : Hid (OPM w0 b (some ⟨g, o, none⟩) ct L R true W7) := by
              rw [← HR0.out]
              rcases hs7 with ⟨h64, s7⟩ | ⟨h64, s7⟩
              · rw [if_pos h64]
                exact ⟨by simp, _, _, _, s7⟩
              · rw [if_neg h64]
                exact ⟨rfl, s7⟩
            clear hs7 HP1 HR0
            go_wp2_with fail
            go_ret
            exact ⟨true, rfl, HF.out⟩
          · rw [if_neg e2] at HR0
            have y2 : (tx == [110, 111, 110, 101]) = false := beq_eq_false_iff_ne.2 e2
            clear e2
            go_wp2_with fail
            go_quiet (fail)
            obtain ⟨W4, hW4⟩ : ∃ W4, W4 = W3.drewN nq := ⟨_, rfl⟩
            have HW4 : Hid (DS w0 b (some ⟨g, o, none⟩) ct L W4 i Q out m 0) := by show DS _ _ _ _ _ _ _ _ _ _ _; rw [hW4]; exact HW3.out.below (bel_drewZ nq (Below.refl _ _))
            rw [← hW4]
            clear hW4 HW3
            clear c0 c1 t1
            have HM1 := HMK.out W4 0 HW4.out
            clear HW4
            by_cases h64 : m = 64
            · rw [if_pos (by omega)] at HM1
              rw [if_pos h64] at HR0
              have HE : Hid (flE 0 51 = 51) := rfl
              rw [HE.out] at HM1
              clear h64 HE
              go_wp2_with fail
              refine HM1.mono ?_
              rintro en W5 ⟨rfl, s5⟩
              have c5 := s5.cells.2.2.2.1
              have HF : Hid (OPM w0 b (some ⟨g, o, none⟩) ct L R true W5) := by
                rw [← HR0.out]
                exact ⟨by simp, _, _, _, s5⟩
              clear HM1 s5 HR0
              go_wp2_with fail
              go_ret
              exact ⟨true, rfl, HF.out⟩
            · rw [if_neg (by have := HB.out.2.2.1; omega)] at HM1
              rw [if_neg h64] at HR0
              clear h64
              go_wp2_with fail
              refine HM1.mono ?_
              rintro en W5 ⟨rfl, s5⟩
              have c5 := s5.cells.2.2.2.1
              have HT5 := HTS1.out W5 s5
              clear HM1 s5
              go_wp2_with fail
              refine HT5.mono ?_
              rintro en W6 ⟨rfl, s6⟩
              have HF : Hid (OPM w0 b (some ⟨g, o, none⟩) ct L R true W6) := by
                rw [← HR0.out]
                unfold tsR TSM at *
                cases hx : tsX L (i + 1) tx with
                | error p =>
                  rw [hx] at s6
                  obtain ⟨out', s6⟩ := s6
                  exact ⟨by simp, _, _, _, s6⟩
                | ok q =>
                  rw [hx] at s6
                  exact ⟨rfl, s6⟩
              clear HT5 s6 HR0
              go_wp2_with fail
              go_ret
              exact ⟨true, rfl, HF.out⟩
end Go.Proofs.YtffgkjmfeannoaaGreatDoor.Ex
