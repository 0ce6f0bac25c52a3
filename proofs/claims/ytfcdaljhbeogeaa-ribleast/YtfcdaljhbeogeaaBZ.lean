import Derived.Test.YtfcdaljhbeogeaaBY
namespace Go.Proofs.Ytfcdaljhbeogeaa
open Go.RowKit
set_option maxRecDepth 100000 in
set_option maxHeartbeats 2000000 in
theorem bneeded_any (b : Nat) (S : List IRt) (o : Option Addr) (c n : Nat) (w : World) (hb : b ≤ 32) (hn : S.length = n) (hL : n ≤ 256) (hS : Srt b S) (hr : IRR w o S) :
    Calls Try.prog 43 #[.int .i64 (b : Int), .slice o n c] w fun e w' => ∃ v, e = .returned v ∧ w'.ownsRow w.heap.size 59 4 v (nedL b S).length (rels (nedL b S)) ∧ Below w.heap.size w w' := by
  obtain ⟨i1, gi, gz0, gz1, gz2⟩ := info_parts info_rt
  have HI : Hid (IRR w o S) := hr
  have HN : Hid (S.length = n) := hn
  have HP : Hid (Calls Try.prog 56 #[.int .i64 (b : Int), .slice o n c] w fun e w' => ∃ g, e = .returned (.slice (some ⟨g, 0, none⟩) n n) ∧ w'.ownsRow w.heap.size 3 1 (.slice (some ⟨g, 0, none⟩) n n) n (iv (rowP b S n n)) ∧ Below w.heap.size w w') := bparents_any b S o c n w hb hn hL hS hr
  clear hr hn hS hb
  go_enter Try.func43, Try.ntmps43
  go_wp2_with fail
  refine HP.out.mono ?_
  rintro e W2 ⟨g2, rfl, op, hb2⟩
  have OP : Hid (W2.ownsRow w.heap.size 3 1 (.slice (some ⟨g2, 0, none⟩) n n) n (iv (rowP b S n n))) := op
  clear op
  go_wp2_with fail
  go_loopw [5, 12] (fun vl vi wz => ∃ (j : Nat) (M : List IRt), vi = .int .i64 (j : Int) ∧ j ≤ n ∧ Hid (M = keepI (nedB b S) S j) ∧ Hid (wz.ownsRow w.heap.size 3 1 (.slice (some ⟨g2, 0, none⟩) n n) n (iv (rowP b S n n)) ∧ wz.ownsRow w.heap.size 59 4 vl M.length (rels M)) ∧ Below w.heap.size w wz) (fun _ vi _ => n - (intOf vi).toNat)
  case atStart => exact ⟨0, [], rfl, Nat.zero_le _, rfl, ⟨OP.out, World.ownsRow_nil _ _ _ _⟩, hb2⟩
  case round =>
    clear OP hb2
    obtain ⟨j, M, rfl, hji, hM, hO, hB⟩ := hrel
    by_cases hlt3 : j < n
    · have j2 : (j : Int) < (n : Int) := by omega
      have j3 : (0 : Int) ≤ (j : Int) := by omega
      obtain ⟨r, hrj⟩ : ∃ r, S[j]? = some r := ⟨_, List.getElem?_eq_getElem (by rw [HN.out]; omega)⟩
      have hgd : S.getD j (0, 0, 0, 0) = r := by simp [List.getD, hrj]
      have hks : keepI (nedB b S) S (j + 1) = if nedB b S j = true then M ++ [r] else M := by rw [keepI, hgd, ← hM.out]
      have hML : M.length ≤ 256 := by
        rw [hM.out]
        exact Nat.le_trans (keepI_len _ _ _ (by rw [HN.out]; omega)) (by omega)
      have q0 := iv_at hO.out.1 (rowP_end hlt3)
      obtain ⟨g, o0, rfl, -⟩ := HI.out wr hB j r hrj
      have XR : Hid (∀ W, Below w.heap.size w W → W.cell? ⟨g, o0 + j * 4, none⟩ = some (.int .i64 r.1) ∧ W.cell? ⟨g, o0 + j * 4 + 1, none⟩ = some (.int .i64 r.2.1) ∧ W.cell? ⟨g, o0 + j * 4 + 2, none⟩ = some (.int .i64 r.2.2.1) ∧ W.cell? ⟨g, o0 + j * 4 + 3, none⟩ = some (.int .i64 r.2.2.2)) := fun W hW => by
        obtain ⟨g3, q3, e, h⟩ := HI.out W hW j r hrj
        injection e with e
        injection e with e1 e2
        subst e1 e2
        exact h
      have HO : Hid (wr.ownsRow w.heap.size 3 1 (.slice (some ⟨g2, 0, none⟩) n n) n (iv (rowP b S n n)) ∧ wr.ownsRow w.heap.size 59 4 u5 M.length (rels M)) := hO
      obtain ⟨q5, c5, rfl⟩ := shapeP hO.out.2
      cases hpj : par b S j with
      | zero =>
        have e0 : ((0 : Nat) : Int) - 1 = -1 := by omega
        rw [hpj, e0] at q0
        have hnb : nedB b S j = true := by unfold nedB; rw [decide_eq_true hpj]; rfl
        rw [hnb, if_pos rfl] at hks
        obtain ⟨r0, r1, r2, r3⟩ := r
        simp only at XR
        have HK : Hid (M ++ [(r0, r1, r2, r3)] = keepI (nedB b S) S (j + 1)) := hks.symm
        clear hks hnb hpj e0 hgd hrj hM hO
        go_wp2_with fail
        refine quiet_lit3 (C := fun W => Below wr.heap.size wr W) (by kernel_rfl) (by kernel_rfl) (show Below _ _ _ from (Below.refl _ _).drew) ?_
        go_big_quiet_want
        go_big_quiet_op
        go_big_quiet_on
        go_big_quiet_want
        refine ⟨.bool true, fun W hW => ?_, ?_⟩
        · go_simp
        go_big_quiet_on
        simp only [Act.put, List.setIfInBounds_toArray, List.set_cons_zero, List.set_cons_succ]
        go_big_quiet_want
        go_big_quiet_op
        go_big_quiet_on
        go_big_quiet_skip
        go_big_quiet_skip
        go_big_quiet_skip
        go_big_quiet_skip
        go_big_quiet_skip
        go_big_quiet_skip
        go_big_quiet_skip
        go_big_quiet_skip
        go_big_quiet_skip
        go_big_quiet_skip
        go_big_quiet_skip
        go_big_quiet_want
        refine ⟨.bool true, fun W hW => ?_, ?_⟩
        · go_simp
        go_big_quiet_on
        simp only [Act.put, List.setIfInBounds_toArray, List.set_cons_zero, List.set_cons_succ]
        refine wpQuiet_nil ?_
        intro W hW
        obtain ⟨y0, y1, y2, y3⟩ := XR.out W (bel0 hB hW)
        have hBW := bel0 hB hW
        have ow := (owns_below HO.out.2 hW).alloc (.cells #[.int .i64 r0, .int .i64 r1, .int .i64 r2, .int .i64 r3] 59)
        have hbw := (hBW.alloc hBW.size (.cells #[.int .i64 r0, .int .i64 r1, .int .i64 r2, .int .i64 r3] 59)).size
        go_wp2_with (at_builtin; refine wpList_append_own _ rfl _ _ 36 rfl w.heap.size 59 i1 _ 4 32 Try.underlying36 gi gz0 gz1 gz2 rfl (by decide) _ _ _ rfl ow ⟨_, 0, none⟩ 1 1 [.int .i64 r0, .int .i64 r1, .int .i64 r2, .int .i64 r3] rfl rfl (World.news_of_block (cs := #[.int .i64 r0, .int .i64 r1, .int .i64 r2, .int .i64 r3]) (t := 59) (fr := (0, 0)) (alloc_get _ _)) (by simp [Value.oneCell']) (by unfold maxLen; omega) (by omega) hbw ?_; intro v6 w6 oB hg6 _)
        have oC : w6.ownsRow w.heap.size 59 4 v6 (M ++ [(r0, r1, r2, r3)]).length (rels (M ++ [(r0, r1, r2, r3)])) := by
          rw [rels_app, List.length_append]
          exact oB
        have oA := (owns_below HO.out.1 hW).alloc (.cells #[.int .i64 r0, .int .i64 r1, .int .i64 r2, .int .i64 r3] 59)
        have oD := oA.kept hg6 (rows_apart oA ow (by decide))
        have hB6 := (hBW.alloc hBW.size (.cells #[.int .i64 r0, .int .i64 r1, .int .i64 r2, .int .i64 r3] 59)).grown hg6 hbw (fun k e => (ow.lt k e).1)
        go_roundw
        case rel => exact ⟨j + 1, M ++ [(r0, r1, r2, r3)], by go_num, by omega, HK, ⟨oD, oC⟩, hB6⟩
        case measure => simp [intOf]; omega
      | succ q =>
        have hq : q < n := by have := par_le b S j; rw [hpj, HN.out] at this; omega
        have e0 : ((q + 1 : Nat) : Int) - 1 = (q : Int) := by omega
        rw [hpj, e0] at q0
        have j4 : (q : Int) < (n : Int) := by omega
        have j5 : (0 : Int) ≤ (q : Int) := by omega
        have j6 : ¬ (q : Int) < 0 := by omega
        obtain ⟨t, htq⟩ : ∃ t, S[q]? = some t := ⟨_, List.getElem?_eq_getElem (by rw [HN.out]; omega)⟩
        have hnb : nedB b S j = decide (t.2.2.2 ≠ r.2.2.2) := by
          unfold nedB
          rw [hpj, hgd, Nat.add_sub_cancel, show S.getD q (0, 0, 0, 0) = t by simp [List.getD, htq]]
          simp
        rw [hnb] at hks
        have XT : Hid (∀ W, Below w.heap.size w W → W.cell? ⟨g, o0 + q * 4 + 3, none⟩ = some (.int .i64 t.2.2.2)) := fun W hW => by
          obtain ⟨g3, q3, e, h⟩ := HI.out W hW q t htq
          injection e with e
          injection e with e1 e2
          subst e1 e2
          exact h.2.2.2
        obtain ⟨r0, r1, r2, r3⟩ := r
        obtain ⟨t0, t1, t2, t3⟩ := t
        simp only at XR XT hks
        by_cases d : t3 = r3
        · subst d
          rw [decide_eq_false (fun h => h rfl), if_neg (by decide)] at hks
          have HK : Hid (M = keepI (nedB b S) S (j + 1)) := hks.symm
          have e1 : (t3 == t3) = true := beq_self_eq_true t3
          clear hks hnb hpj e0 hgd hrj hM hO htq
          go_wp2_with fail
          refine quiet_lit3 (C := fun W => Below wr.heap.size wr W) (by kernel_rfl) (by kernel_rfl) (show Below _ _ _ from (Below.refl _ _).drew) ?_
          go_big_quiet_want
          go_big_quiet_op
          go_big_quiet_on
          go_big_quiet_want
          refine ⟨.bool false, fun W hW => ?_, ?_⟩
          · go_simp
          go_big_quiet_on
          simp only [Act.put, List.setIfInBounds_toArray, List.set_cons_zero, List.set_cons_succ]
          go_big_quiet_want
          go_big_quiet_op
          go_big_quiet_on
          go_big_quiet_want
          go_big_quiet_op
          go_big_quiet_on
          go_big_quiet_want
          go_big_quiet_op
          go_big_quiet_on
          go_big_quiet_want
          refine ⟨.pointer (some ⟨g, o0 + q * 4, none⟩), fun W hW => ?_, ?_⟩
          · go_simp
          go_big_quiet_on
          simp only [Act.put, List.setIfInBounds_toArray, List.set_cons_zero, List.set_cons_succ]
          go_big_quiet_want
          refine ⟨.pointer (some ⟨g, o0 + q * 4 + 3, none⟩), fun W hW => ?_, ?_⟩
          · go_simp
          go_big_quiet_on
          simp only [Act.put, List.setIfInBounds_toArray, List.set_cons_zero, List.set_cons_succ]
          go_big_quiet_want
          refine ⟨.int .i64 t3, fun W hW => ?_, ?_⟩
          · have x0 := XT.out W (bel0 hB hW)
            go_simp
          go_big_quiet_on
          simp only [Act.put, List.setIfInBounds_toArray, List.set_cons_zero, List.set_cons_succ]
          go_big_quiet_want
          go_big_quiet_op
          go_big_quiet_on
          go_big_quiet_want
          go_big_quiet_op
          go_big_quiet_on
          go_big_quiet_want
          refine ⟨.pointer (some ⟨g, o0 + j * 4, none⟩), fun W hW => ?_, ?_⟩
          · go_simp
          go_big_quiet_on
          simp only [Act.put, List.setIfInBounds_toArray, List.set_cons_zero, List.set_cons_succ]
          go_big_quiet_want
          refine ⟨.pointer (some ⟨g, o0 + j * 4 + 3, none⟩), fun W hW => ?_, ?_⟩
          · go_simp
          go_big_quiet_on
          simp only [Act.put, List.setIfInBounds_toArray, List.set_cons_zero, List.set_cons_succ]
          go_big_quiet_want
          refine ⟨.int .i64 t3, fun W hW => ?_, ?_⟩
          · obtain ⟨x0, x1, x2, x3⟩ := XR.out W (bel0 hB hW)
            go_simp
          go_big_quiet_on
          simp only [Act.put, List.setIfInBounds_toArray, List.set_cons_zero, List.set_cons_succ]
          go_big_quiet_want
          refine ⟨.bool false, fun W hW => ?_, ?_⟩
          · go_simp
          go_big_quiet_on
          simp only [Act.put, List.setIfInBounds_toArray, List.set_cons_zero, List.set_cons_succ]
          go_big_quiet_want
          refine ⟨.bool false, fun W hW => ?_, ?_⟩
          · go_simp
          go_big_quiet_on
          simp only [Act.put, List.setIfInBounds_toArray, List.set_cons_zero, List.set_cons_succ]
          refine wpQuiet_nil ?_
          intro W hW
          go_wp2_with fail
          go_roundw
          case rel => exact ⟨j + 1, M, by go_num, by omega, HK, ⟨owns_below HO.out.1 hW, owns_below HO.out.2 hW⟩, bel0 hB hW⟩
          case measure => simp [intOf]; omega
        · rw [decide_eq_true d, if_pos rfl] at hks
          have HK : Hid (M ++ [(r0, r1, r2, r3)] = keepI (nedB b S) S (j + 1)) := hks.symm
          have e1 : (t3 == r3) = false := beq_eq_false_iff_ne.2 d
          have e2 : (t3 != r3) = true := by rw [bne, e1]; rfl
          clear hks hnb hpj e0 hgd hrj hM hO htq
          go_wp2_with fail
          refine quiet_lit3 (C := fun W => Below wr.heap.size wr W) (by kernel_rfl) (by kernel_rfl) (show Below _ _ _ from (Below.refl _ _).drew) ?_
          go_big_quiet_want
          go_big_quiet_op
          go_big_quiet_on
          go_big_quiet_want
          refine ⟨.bool false, fun W hW => ?_, ?_⟩
          · go_simp
          go_big_quiet_on
          simp only [Act.put, List.setIfInBounds_toArray, List.set_cons_zero, List.set_cons_succ]
          go_big_quiet_want
          go_big_quiet_op
          go_big_quiet_on
          go_big_quiet_want
          go_big_quiet_op
          go_big_quiet_on
          go_big_quiet_want
          go_big_quiet_op
          go_big_quiet_on
          go_big_quiet_want
          refine ⟨.pointer (some ⟨g, o0 + q * 4, none⟩), fun W hW => ?_, ?_⟩
          · go_simp
          go_big_quiet_on
          simp only [Act.put, List.setIfInBounds_toArray, List.set_cons_zero, List.set_cons_succ]
          go_big_quiet_want
          refine ⟨.pointer (some ⟨g, o0 + q * 4 + 3, none⟩), fun W hW => ?_, ?_⟩
          · go_simp
          go_big_quiet_on
          simp only [Act.put, List.setIfInBounds_toArray, List.set_cons_zero, List.set_cons_succ]
          go_big_quiet_want
          refine ⟨.int .i64 t3, fun W hW => ?_, ?_⟩
          · have x0 := XT.out W (bel0 hB hW)
            go_simp
          go_big_quiet_on
          simp only [Act.put, List.setIfInBounds_toArray, List.set_cons_zero, List.set_cons_succ]
          go_big_quiet_want
          go_big_quiet_op
          go_big_quiet_on
          go_big_quiet_want
          go_big_quiet_op
          go_big_quiet_on
          go_big_quiet_want
          refine ⟨.pointer (some ⟨g, o0 + j * 4, none⟩), fun W hW => ?_, ?_⟩
          · go_simp
          go_big_quiet_on
          simp only [Act.put, List.setIfInBounds_toArray, List.set_cons_zero, List.set_cons_succ]
          go_big_quiet_want
          refine ⟨.pointer (some ⟨g, o0 + j * 4 + 3, none⟩), fun W hW => ?_, ?_⟩
          · go_simp
          go_big_quiet_on
          simp only [Act.put, List.setIfInBounds_toArray, List.set_cons_zero, List.set_cons_succ]
          go_big_quiet_want
          refine ⟨.int .i64 r3, fun W hW => ?_, ?_⟩
          · obtain ⟨x0, x1, x2, x3⟩ := XR.out W (bel0 hB hW)
            go_simp
          go_big_quiet_on
          simp only [Act.put, List.setIfInBounds_toArray, List.set_cons_zero, List.set_cons_succ]
          go_big_quiet_want
          refine ⟨.bool true, fun W hW => ?_, ?_⟩
          · go_simp
          go_big_quiet_on
          simp only [Act.put, List.setIfInBounds_toArray, List.set_cons_zero, List.set_cons_succ]
          go_big_quiet_want
          refine ⟨.bool true, fun W hW => ?_, ?_⟩
          · go_simp
          go_big_quiet_on
          simp only [Act.put, List.setIfInBounds_toArray, List.set_cons_zero, List.set_cons_succ]
          refine wpQuiet_nil ?_
          intro W hW
          obtain ⟨y0, y1, y2, y3⟩ := XR.out W (bel0 hB hW)
          have hBW := bel0 hB hW
          have ow := (owns_below HO.out.2 hW).alloc (.cells #[.int .i64 r0, .int .i64 r1, .int .i64 r2, .int .i64 r3] 59)
          have hbw := (hBW.alloc hBW.size (.cells #[.int .i64 r0, .int .i64 r1, .int .i64 r2, .int .i64 r3] 59)).size
          go_wp2_with (at_builtin; refine wpList_append_own _ rfl _ _ 36 rfl w.heap.size 59 i1 _ 4 32 Try.underlying36 gi gz0 gz1 gz2 rfl (by decide) _ _ _ rfl ow ⟨_, 0, none⟩ 1 1 [.int .i64 r0, .int .i64 r1, .int .i64 r2, .int .i64 r3] rfl rfl (World.news_of_block (cs := #[.int .i64 r0, .int .i64 r1, .int .i64 r2, .int .i64 r3]) (t := 59) (fr := (0, 0)) (alloc_get _ _)) (by simp [Value.oneCell']) (by unfold maxLen; omega) (by omega) hbw ?_; intro v6 w6 oB hg6 _)
          have oC : w6.ownsRow w.heap.size 59 4 v6 (M ++ [(r0, r1, r2, r3)]).length (rels (M ++ [(r0, r1, r2, r3)])) := by
            rw [rels_app, List.length_append]
            exact oB
          have oA := (owns_below HO.out.1 hW).alloc (.cells #[.int .i64 r0, .int .i64 r1, .int .i64 r2, .int .i64 r3] 59)
          have oD := oA.kept hg6 (rows_apart oA ow (by decide))
          have hB6 := (hBW.alloc hBW.size (.cells #[.int .i64 r0, .int .i64 r1, .int .i64 r2, .int .i64 r3] 59)).grown hg6 hbw (fun k e => (ow.lt k e).1)
          go_roundw
          case rel => exact ⟨j + 1, M ++ [(r0, r1, r2, r3)], by go_num, by omega, HK, ⟨oD, oC⟩, hB6⟩
          case measure => simp [intOf]; omega
    · have j2 : ¬ (j : Int) < (n : Int) := by omega
      obtain rfl : j = n := by omega
      have HE : Hid (M = nedL b S) := by unfold Hid nedL; rw [HN.out]; exact hM.out
      clear hM
      go_wp2_with fail
      go_ret
      refine ⟨_, rfl, ?_, hB⟩
      rw [← HE.out]
      exact hO.out.2
theorem res_bslim (tmps : Array Value) (W : World) (x y : Value) (h : tmps[4]?.getD undef = x ∧ tmps[5]?.getD undef = y) : (results Try.f28 tmps).run Try.prog W = .ok (.tuple #[x, y]) W := by
  simp [results, h.1, h.2, go_sem]
theorem slimR_len {bits : Int} {L O : List IRt} (h : slimR bits L O) : O.length ≤ L.length := by
  unfold slimR at h
  split at h
  · obtain ⟨P, h1, rfl⟩ := h
    exact Nat.le_trans (nedL_sub _ _).length_le (Nat.le_trans (metL_sub _ _).length_le (ord_len h1.srt (fun o ho => h1.mem ho)))
  · rw [h]
    exact Nat.zero_le _
set_option maxRecDepth 100000 in
set_option maxHeartbeats 1000000 in
theorem bslim_any (bits : Int) (L : List IRt) (o : Option Addr) (c : Nat) (w : World) (hL : L.length ≤ 281474976710656) (hr : IRR w o L) :
    Calls Try.prog 28 #[.int .i64 bits, .slice o L.length c] w fun e w' => ∃ (O : List IRt) (v : Value), e = .returned (.tuple #[v, .int .i64 (rfit bits L)]) ∧ slimR bits L O ∧ w'.ownsRow w.heap.size 59 4 v O.length (rels O) ∧ Below w.heap.size w w' := by
  have HFT0 := brefusal_any bits L o c w hL hr
  unfold slimR
  obtain ⟨F, hF⟩ : ∃ F, rfit bits L = F := ⟨_, rfl⟩
  simp only [hF]
  rw [hF] at HFT0
  have HFT : Hid (Calls Try.prog 35 #[.int .i64 bits, .slice o L.length c] w fun e w' => e = .returned (.int .i64 F) ∧ Below w.heap.size w w') := HFT0
  clear HFT0
  by_cases f0 : F = 0
  · subst f0
    obtain ⟨b1, b2, b3, b4⟩ := rfit_ok hF
    obtain ⟨b, rfl⟩ : ∃ b : Nat, bits = b := ⟨bits.toNat, by omega⟩
    have hb : b ≤ 32 := by omega
    rw [Int.toNat_natCast] at b4 ⊢
    have HLA : Hid (∀ W : World, Below w.heap.size w W → Calls Try.prog 36 #[.slice o L.length c] W fun e w' => ∃ (O : List IRt) (v : Value), e = .returned v ∧ OrdOf L O ∧ w'.ownsRow W.heap.size 59 4 v O.length (rels O) ∧ Below W.heap.size W w') := fun W hW => blaid_any L o c W b3 (hr.later hW)
    have HSR : Hid (∀ O, OrdOf L O → Srt b O ∧ O.length ≤ 256) := fun O hO => ⟨⟨hO.srt, fun r hr => List.all_eq_true.1 b4 r (hO.mem hr)⟩, Nat.le_trans (ord_len hO.srt (fun o ho => hO.mem ho)) b3⟩
    have HBB : Hid (b ≤ 32) := hb
    clear hr hF b1 b2 b3 b4 hL hb
    go_enter Try.func28, Try.ntmps28
    go_wp2_with fail
    refine HFT.out.mono ?_
    rintro e W1 ⟨rfl, hb1⟩
    go_wp2_with fail
    refine (HLA.out _ hb1).mono ?_
    rintro e W2 ⟨O, v, rfl, h1, h2, h3⟩
    obtain ⟨hs, hl⟩ := HSR.out O h1
    obtain ⟨q2, c2, rfl⟩ := shapeP h2
    have HMT : Hid (Calls Try.prog 44 #[.int .i64 (b : Int), .slice q2 O.length c2] W2 fun e w' => ∃ v, e = .returned v ∧ w'.ownsRow W2.heap.size 59 4 v (metL b O).length (rels (metL b O)) ∧ Below W2.heap.size W2 w') := bmet_any b O q2 c2 O.length W2 HBB.out rfl hl hs (IRR_of_own h2)
    have HOO : Hid (OrdOf L O ∧ Srt b (metL b O) ∧ (metL b O).length ≤ 256) := ⟨h1, hs.sub (metL_sub b O), Nat.le_trans (metL_sub b O).length_le hl⟩
    have hB2 := bel0 hb1 h3
    clear h1 h2 h3 hs hl
    go_wp2_with fail
    refine HMT.out.mono ?_
    rintro e W3 ⟨v3, rfl, h2, h3⟩
    obtain ⟨q3, c3, rfl⟩ := shapeP h2
    have HND : Hid (Calls Try.prog 43 #[.int .i64 (b : Int), .slice q3 (metL b O).length c3] W3 fun e w' => ∃ v, e = .returned v ∧ w'.ownsRow W3.heap.size 59 4 v (nedL b (metL b O)).length (rels (nedL b (metL b O))) ∧ Below W3.heap.size W3 w') := bneeded_any b (metL b O) q3 c3 _ W3 HBB.out rfl HOO.out.2.2 HOO.out.2.1 (IRR_of_own h2)
    have hB3 := bel0 hB2 h3
    clear h2 h3
    go_wp2_with fail
    refine HND.out.mono ?_
    rintro e W4 ⟨v4, rfl, h2, h3⟩
    go_wp2_with fail
    refine bodyPost_ret (res_bslim _ _ _ _ ⟨rfl, rfl⟩) rfl ?_
    exact ⟨_, v4, rfl, ⟨O, HOO.out.1, rfl⟩, own_base h2 hB3.size, bel0 hB3 h3⟩
  · have f1 : (F == 0) = false := beq_eq_false_iff_ne.2 f0
    clear hr hF
    go_enter Try.func28, Try.ntmps28
    go_wp2_with fail
    refine HFT.out.mono ?_
    rintro e W1 ⟨rfl, hb1⟩
    go_wp2_with fail
    refine bodyPost_ret (res_bslim _ _ _ _ ⟨rfl, rfl⟩) rfl ?_
    exact ⟨[], _, rfl, rfl, World.ownsRow_nil _ _ _ _, hb1⟩
end Go.Proofs.Ytfcdaljhbeogeaa
