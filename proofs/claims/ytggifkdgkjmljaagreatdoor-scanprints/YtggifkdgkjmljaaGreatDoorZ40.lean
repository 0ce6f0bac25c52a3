import Derived.Test.YtggifkdgkjmljaaGreatDoorZ39
namespace Go.Proofs.YtggifkdgkjmljaaGreatDoor
open Go.RowKit Go.Shelf
theorem results_rp (tmps : Array Value) (W : World) (a b : Value) (h : tmps.getD 2 undef = a ∧ tmps.getD 3 undef = b) : (results Tryz.f6 tmps).run Tryz.prog W = .ok (.tuple #[a, b]) W := by
  obtain ⟨h1, h2⟩ := h
  have h1' : tmps[2]?.getD undef = a := by simpa using h1
  have h2' : tmps[3]?.getD undef = b := by simpa using h2
  simp [results, h1', h2', go_sem]
set_option maxRecDepth 100000 in
set_option maxHeartbeats 8000000 in
theorem refPrint_any (L : List ITok) (o : Option Addr) (c : Nat) (w : World) (hL : L.length ≤ 281474976710656) (hx : ∀ t ∈ L, t.2.1.length ≤ 281474976710656) (hr : IR w o L) (hg : SR w) :
    Calls Tryz.prog 6 #[.slice o L.length c] w fun e w' => e = .returned (.tuple #[.string ⟨(printM L).1.toArray⟩, .int .i64 ((printM L).2 : Int)]) ∧ Below w.heap.size w w' := by
  by_cases hbig : 16384 < L.length
  · have i1 : (16384 : Int) < (L.length : Int) := by omega
    have hres : Hid (printM L = ([], 2)) := by unfold Hid printM; rw [if_pos hbig]
    clear hx hr hg
    go_enter Tryz.func6, Tryz.ntmps6
    go_wp2_with fail
    refine bodyPost_ret (results_rp _ _ _ _ ⟨rfl, rfl⟩) rfl ?_
    exact ⟨by rw [hres.out]; rfl, Below.refl _ _⟩
  have i1 : ¬ (16384 : Int) < (L.length : Int) := by omega
  have HA := refValid_any L o c w hL hx hr hg
  cases hq : linF 1 L with
  | false =>
    have hres : Hid (printM L = ([], 35)) := by unfold Hid printM; rw [if_neg hbig, if_pos hq]
    rw [hq] at HA
    clear hx hr hg hq
    go_enter Tryz.func6, Tryz.ntmps6
    go_wp2_with fail
    refine HA.mono ?_
    rintro e W1 ⟨rfl, hb1⟩
    go_wp2_with fail
    refine bodyPost_ret (results_rp _ _ _ _ ⟨rfl, rfl⟩) rfl ?_
    exact ⟨by rw [hres.out]; rfl, hb1⟩
  | true =>
    rw [hq] at HA
    obtain ⟨R, hR⟩ : ∃ R, prF none L [] = R := ⟨_, rfl⟩
    have HPM : Hid (printM L = outR R) := by
      unfold Hid printM
      rw [if_neg hbig, if_neg (by rw [hq]; decide), hR]
    have HR0 : Hid (prF none (L.drop 0) [] = R) := hR
    have HP0 : Hid (prevT L 0 none) := .inl ⟨rfl, rfl⟩
    have HR : Hid (IR w o L) := hr
    have HT : Hid (∀ t ∈ L, tokB t = true) := linF_tok L 1 hq
    obtain ⟨i0, hi, hz0, hz1, hz2⟩ := info_parts info_u8
    clear hx hr hg hq hR
    go_enter Tryz.func6, Tryz.ntmps6
    go_wp2_with fail
    refine HA.mono ?_
    rintro e W1 ⟨rfl, hb1⟩
    go_wp2_with fail
    go_loopw [5, 6] (fun v vk wr => ∃ (k : Nat) (acc : List UInt8) (p : Option ITok), vk = .int .i64 k ∧ k ≤ L.length ∧ acc.length ≤ 16384 ∧ wr.ownsRow w.heap.size 5 1 v acc.length (Lib.byteCells acc) ∧ Below w.heap.size w wr ∧ Hid (prF p (L.drop k) acc = R) ∧ Hid (prevT L k p)) (fun _ vk _ => L.length - (intOf vk).toNat)
    case atStart => exact ⟨0, [], none, rfl, Nat.zero_le _, by simp, World.ownsRow_nil _ _ _ _, hb1, HR0, HP0⟩
    case round =>
      clear HR0 HP0 hb1 HA
      obtain ⟨k, acc, p, rfl, hk, hacc, hown, hB, hrun, hprev⟩ := hrel
      by_cases hlt : k < L.length
      · have j1 : (k : Int) < (L.length : Int) := by omega
        have j0 : (0 : Int) ≤ (k : Int) := by omega
        obtain ⟨t, ht⟩ : ∃ t, L[k]? = some t := ⟨_, List.getElem?_eq_getElem hlt⟩
        obtain ⟨g, o0, rfl, -⟩ := HR.out wr hB k t ht
        have hstep := prF_step ht p acc
        rw [hrun.out] at hstep
        have htb := HT.out t (List.mem_of_getElem? ht)
        have hxl := tokB_len htb
        have HPREV : Hid (prevT L (k + 1) (some t)) := .inr ⟨k, t, rfl, ht, rfl⟩
        have XT : Hid (∀ W : World, Below w.heap.size w W → W.cell? ⟨g, o0 + k * 4, none⟩ = some (.int .i64 t.1) ∧ W.cell? ⟨g, o0 + k * 4 + 1, none⟩ = some (.string ⟨t.2.1.toArray⟩) ∧ W.cell? ⟨g, o0 + k * 4 + 2, none⟩ = some (.int .i64 t.2.2.1) ∧ W.cell? ⟨g, o0 + k * 4 + 3, none⟩ = some (.int .i64 t.2.2.2)) := fun W hW => by
          obtain ⟨g2, q2, h1, h2⟩ := HR.out W hW k t ht
          injection h1 with h1
          injection h1 with h1 h4
          subst h1 h4
          exact h2
        have hBs0 := hB.size
        have hown0 : Hid (wr.ownsRow w.heap.size 5 1 u5 acc.length (Lib.byteCells acc)) := hown
        clear hrun hown
        rcases hprev.out with ⟨hk0, rfl⟩ | ⟨k2, u, hk2, hu, rfl⟩
        · obtain ⟨a, x, ln, cl⟩ := t
          have jz : ¬ (0 : Int) < (k : Int) := by omega
          simp only at hxl hstep XT
          have HSTEP : Hid ((if 16384 < (acc ++ x).length then none else prF (some (a, x, ln, cl)) (L.drop (k + 1)) (acc ++ x)) = R) := by
            have h9 := hstep.symm
            simp only [gapB, List.append_nil] at h9
            exact h9
          clear hstep hprev ht htb hk0
          go_wp2_with fail
          refine quiet_lit3 (C := fun W => Below wr.heap.size wr W) (by kernel_rfl) (by kernel_rfl) (show Below _ _ _ from (Below.refl _ _).drew) ?_
          go_big_quiet_want
          go_big_quiet_op
          go_big_quiet_on
          go_big_quiet_want
          refine ⟨.bool false, fun W hW => ?_, ?_⟩
          · go_simp
            omega
          go_big_quiet_on
          simp only [Act.put, List.setIfInBounds_toArray, List.set_cons_zero, List.set_cons_succ]
          go_big_quiet_want
          go_big_quiet_op
          go_big_quiet_on
          go_big_quiet_skip
          go_big_quiet_skip
          go_big_quiet_skip
          go_big_quiet_skip
          go_big_quiet_skip
          go_big_quiet_skip
          go_big_quiet_skip
          go_big_quiet_skip
          go_big_quiet_skip
          go_big_quiet_skip
          go_big_quiet_want
          refine ⟨.bool false, fun W hW => ?_, ?_⟩
          · go_simp
          go_big_quiet_on
          simp only [Act.put, List.setIfInBounds_toArray, List.set_cons_zero, List.set_cons_succ]
          refine wpQuiet_nil ?_
          intro W hW
          have hown1 : W.ownsRow w.heap.size 5 1 u5 acc.length (Lib.byteCells acc) := owns_below hown0.out hW
          have hBx := bel0 hB hW
          go_wp2_with fail
          have XT2 : Hid (∀ W : World, Below w.heap.size w W → W.cell? ⟨g, o0 + k * 4 + 1, none⟩ = some (.string ⟨x.toArray⟩)) := fun W hW => (XT.out W hW).2.1
          clear XT
          go_loopw [5, 7] (fun v vj wi => ∃ j : Nat, vj = .int .i64 j ∧ j ≤ x.length ∧ wi.ownsRow w.heap.size 5 1 v (acc ++ x.take j).length (Lib.byteCells (acc ++ x.take j)) ∧ Below w.heap.size w wi) (fun _ vj _ => x.length - (intOf vj).toNat)
          case atStart => exact ⟨0, rfl, Nat.zero_le _, by rw [List.take_zero, List.append_nil]; exact hown1, hBx⟩
          case round =>
            clear hown1 hBx
            obtain ⟨j, rfl, hj, hown2, hB2⟩ := hrel
            have b1 := XT2.out _ hB2
            have hB2s := hB2.size
            by_cases hlj : j < x.length
            · have q0 : (0 : Int) ≤ (j : Int) := by omega
              have q1 : (j : Int) < (x.length : Int) := by omega
              obtain ⟨d, hd, hld⟩ := byte_get x j hlj
              have htk : x.take (j + 1) = x.take j ++ [d] := by rw [List.take_add_one, hld]; rfl
              have hln : (acc ++ x.take j).length ≤ 32768 := by rw [List.length_append, List.length_take]; omega
              have HNX : Hid (∀ (v5 : Value) (w5 : World), w5.ownsRow w.heap.size 5 1 v5 ((acc ++ x.take j).length + 1) (Lib.byteCells (acc ++ x.take j) ++ [.int .u8 (d.toNat : Int)]) → w5.ownsRow w.heap.size 5 1 v5 (acc ++ x.take (j + 1)).length (Lib.byteCells (acc ++ x.take (j + 1)))) := fun v5 w5 h => by
                rw [htk, ← List.append_assoc, byteCells_append, List.length_append]
                exact h
              obtain ⟨Y, hY⟩ : ∃ Y, acc ++ x.take j = Y := ⟨_, rfl⟩
              rw [hY] at hown2 HNX hln
              obtain ⟨pv, cv, rfl⟩ := shapeP hown2
              clear hY htk hld
              go_wp2_with (at_builtin; refine wpList_append_own _ rfl _ _ 34 rfl w.heap.size 5 i0 _ 1 1 Tryz.underlying34 hi hz0 hz1 hz2 rfl (by decide) _ _ _ rfl (hown2.alloc _) ⟨_, 0, none⟩ 1 1 [.int .u8 (d.toNat : Int)] rfl rfl (World.news_of_block (cs := #[.int .u8 (d.toNat : Int)]) (t := 5) (fr := (0, 0)) (alloc_get _ _)) (by simp [Value.oneCell']) (by unfold maxLen; omega) (by omega) (by simp; omega) ?_; intro v5 w5 oB hg5 _; have hown3 := HNX.out v5 w5 oB; have hB3 := (hB2.alloc hB2s _).grown hg5 (by simp; omega) (fun k e => (hown2.lt k e).1))
              go_roundw
              case rel => exact ⟨j + 1, by go_num, by omega, hown3, hB3⟩
              case measure => simp [intOf]; omega
            · have q1 : ¬ (j : Int) < (x.length : Int) := by omega
              obtain rfl : j = x.length := by omega
              rw [List.take_length] at hown2
              obtain ⟨pv, cv, rfl⟩ := shapeP hown2
              by_cases hbig2 : 16384 < (acc ++ x).length
              · have i9 : (16384 : Int) < ((acc ++ x).length : Int) := by omega
                have hres : Hid (R = none) := by
                  unfold Hid
                  rw [← HSTEP.out, if_pos hbig2]
                clear HSTEP
                obtain ⟨Y, hY⟩ : ∃ Y, acc ++ x = Y := ⟨_, rfl⟩
                rw [hY] at hown2 i9 hbig2
                simp only [hY]
                clear hY
                go_wp2_with fail
                refine bodyPost_ret (results_rp _ _ _ _ ⟨rfl, rfl⟩) rfl ?_
                exact ⟨by rw [HPM.out, hres.out]; rfl, hB2⟩
              · have i9 : ¬ (16384 : Int) < ((acc ++ x).length : Int) := by omega
                have hnext : Hid (prF (some (a, x, ln, cl)) (L.drop (k + 1)) (acc ++ x) = R) := by
                  unfold Hid
                  rw [← HSTEP.out, if_neg hbig2]
                clear HSTEP
                obtain ⟨Y, hY⟩ : ∃ Y, acc ++ x = Y := ⟨_, rfl⟩
                rw [hY] at hown2 i9 hbig2 hnext
                simp only [hY]
                clear hY
                go_wp2_with fail
                go_roundw
                case rel => exact ⟨k + 1, Y, some (a, x, ln, cl), by go_num, by omega, by omega, hown2, hB2, hnext, HPREV⟩
                case measure => simp [intOf]; omega
        · have hub := HT.out u (List.mem_of_getElem? hu)
          have hap := apa_join hub htb
          have XU : Hid (∀ W : World, Below w.heap.size w W → W.cell? ⟨g, o0 + k2 * 4, none⟩ = some (.int .i64 u.1) ∧ W.cell? ⟨g, o0 + k2 * 4 + 1, none⟩ = some (.string ⟨u.2.1.toArray⟩) ∧ W.cell? ⟨g, o0 + k2 * 4 + 2, none⟩ = some (.int .i64 u.2.2.1) ∧ W.cell? ⟨g, o0 + k2 * 4 + 3, none⟩ = some (.int .i64 u.2.2.2)) := fun W hW => by
            obtain ⟨g2, q2, h1, h2⟩ := HR.out W hW k2 u hu
            injection h1 with h1
            injection h1 with h1 h3
            subst h1 h3
            exact h2
          have HJ1 : ∀ W : World, Calls Tryz.prog 12 #[iagg u, iagg t] W fun e w' => e = .returned (.bool (apaB u t)) ∧ Below W.heap.size W w' := fun W => refApart_any u t W
          rw [hap] at HJ1
          obtain ⟨jb, hjb⟩ : ∃ jb, joinB u t = jb := ⟨_, rfl⟩
          simp only [hjb] at HJ1
          obtain ⟨a, x, ln, cl⟩ := t
          obtain ⟨ua, ux, uln, ucl⟩ := u
          simp only at hxl hstep XT XU
          have HJ : Hid (∀ W : World, Calls Tryz.prog 12 #[.agg #[.int .i64 ua, .string ⟨ux.toArray⟩, .int .i64 uln, .int .i64 ucl], .agg #[.int .i64 a, .string ⟨x.toArray⟩, .int .i64 ln, .int .i64 cl]] W fun e w' => e = .returned (.bool (!jb)) ∧ Below W.heap.size W w') := HJ1
          have HWK : Hid (IntKind.i64.wrap ((k : Int) - 1) = (k2 : Int)) := by unfold Hid; rw [IntKind.wrap_i64]; omega
          have jk0 : (0 : Int) ≤ (k2 : Int) := by omega
          have jk1 : (k2 : Int) < (L.length : Int) := by omega
          have jk2 : (0 : Int) < (k : Int) := by omega
          have hjb' : Hid (joinB (ua, ux, uln, ucl) (a, x, ln, cl) = jb) := hjb
          clear hjb HJ1 hprev ht hu hap hub htb hk2
          go_wp2_with fail
          refine quiet_lit3 (C := fun W => Below wr.heap.size wr W) (by kernel_rfl) (by kernel_rfl) (show Below _ _ _ from (Below.refl _ _).drew) ?_
          go_big_quiet_want
          go_big_quiet_op
          go_big_quiet_on
          go_big_quiet_want
          refine ⟨.bool true, fun W hW => ?_, ?_⟩
          · go_simp
            omega
          go_big_quiet_on
          simp only [Act.put, List.setIfInBounds_toArray, List.set_cons_zero, List.set_cons_succ]
          go_big_quiet_want
          go_big_quiet_op
          go_big_quiet_on
          go_big_quiet_want
          go_big_quiet_op
          go_big_quiet_on
          go_big_quiet_want
          go_big_quiet_op
          go_big_quiet_on
          go_big_quiet_want
          refine ⟨.int .i64 (k2 : Int), fun W hW => ?_, ?_⟩
          · go_simp
            exact HWK.out
          go_big_quiet_on
          simp only [Act.put, List.setIfInBounds_toArray, List.set_cons_zero, List.set_cons_succ]
          go_big_quiet_want
          refine ⟨.pointer (some ⟨g, o0 + k2 * 4, none⟩), fun W hW => ?_, ?_⟩
          · go_simp
          go_big_quiet_on
          simp only [Act.put, List.setIfInBounds_toArray, List.set_cons_zero, List.set_cons_succ]
          go_big_quiet_want
          refine ⟨.agg #[.int .i64 ua, .string ⟨ux.toArray⟩, .int .i64 uln, .int .i64 ucl], fun W hW => ?_, ?_⟩
          · obtain ⟨z0, z1, z2, z3⟩ := XU.out W (bel0 hB hW)
            go_simp
          go_big_quiet_on
          simp only [Act.put, List.setIfInBounds_toArray, List.set_cons_zero, List.set_cons_succ]
          go_big_quiet_want
          go_big_quiet_op
          go_big_quiet_on
          go_big_quiet_want
          go_big_quiet_op
          go_big_quiet_on
          go_big_quiet_want
          refine ⟨.pointer (some ⟨g, o0 + k * 4, none⟩), fun W hW => ?_, ?_⟩
          · go_simp
          go_big_quiet_on
          simp only [Act.put, List.setIfInBounds_toArray, List.set_cons_zero, List.set_cons_succ]
          go_big_quiet_want
          refine ⟨.agg #[.int .i64 a, .string ⟨x.toArray⟩, .int .i64 ln, .int .i64 cl], fun W hW => ?_, ?_⟩
          · obtain ⟨z0, z1, z2, z3⟩ := XT.out W (bel0 hB hW)
            go_simp
          go_big_quiet_on
          simp only [Act.put, List.setIfInBounds_toArray, List.set_cons_zero, List.set_cons_succ]
          go_big_quiet_want
          refine ⟨.bool (!jb), fun W hW => ?_, ?_⟩
          · go_simp
            refine (HJ.out W).mono ?_
            rintro e w7 ⟨rfl, hb⟩
            exact ⟨rfl, by have := bel0 hW hb; simpa using this⟩
          go_big_quiet_on
          simp only [Act.put, List.setIfInBounds_toArray, List.set_cons_zero, List.set_cons_succ]
          go_big_quiet_want
          refine ⟨.bool (!jb), fun W hW => ?_, ?_⟩
          · go_simp
          go_big_quiet_on
          simp only [Act.put, List.setIfInBounds_toArray, List.set_cons_zero, List.set_cons_succ]
          refine wpQuiet_nil ?_
          intro W hW
          have hownW : W.ownsRow w.heap.size 5 1 u5 acc.length (Lib.byteCells acc) := owns_below hown0.out hW
          have hBW := bel0 hB hW
          have hBWs := hBW.size
          clear XU HJ
          cases jb with
          | true =>
            have HSTEP : Hid ((if 16384 < (acc ++ x).length then none else prF (some (a, x, ln, cl)) (L.drop (k + 1)) (acc ++ x)) = R) := by
              have h9 := hstep.symm
              simp only [gapB, hjb'.out, if_true, List.append_nil] at h9
              exact h9
            have hown1 := hownW
            have hBx := hBW
            clear hstep hownW hBW
            simp only [Bool.not_true]
            go_wp2_with fail
            have XT2 : Hid (∀ W : World, Below w.heap.size w W → W.cell? ⟨g, o0 + k * 4 + 1, none⟩ = some (.string ⟨x.toArray⟩)) := fun W hW => (XT.out W hW).2.1
            clear XT
            go_loopw [5, 7] (fun v vj wi => ∃ j : Nat, vj = .int .i64 j ∧ j ≤ x.length ∧ wi.ownsRow w.heap.size 5 1 v (acc ++ x.take j).length (Lib.byteCells (acc ++ x.take j)) ∧ Below w.heap.size w wi) (fun _ vj _ => x.length - (intOf vj).toNat)
            case atStart => exact ⟨0, rfl, Nat.zero_le _, by rw [List.take_zero, List.append_nil]; exact hown1, hBx⟩
            case round =>
              clear hown1 hBx
              obtain ⟨j, rfl, hj, hown2, hB2⟩ := hrel
              have b1 := XT2.out _ hB2
              have hB2s := hB2.size
              by_cases hlj : j < x.length
              · have q0 : (0 : Int) ≤ (j : Int) := by omega
                have q1 : (j : Int) < (x.length : Int) := by omega
                obtain ⟨d, hd, hld⟩ := byte_get x j hlj
                have htk : x.take (j + 1) = x.take j ++ [d] := by rw [List.take_add_one, hld]; rfl
                have hln : (acc ++ x.take j).length ≤ 32768 := by rw [List.length_append, List.length_take]; omega
                have HNX : Hid (∀ (v5 : Value) (w5 : World), w5.ownsRow w.heap.size 5 1 v5 ((acc ++ x.take j).length + 1) (Lib.byteCells (acc ++ x.take j) ++ [.int .u8 (d.toNat : Int)]) → w5.ownsRow w.heap.size 5 1 v5 (acc ++ x.take (j + 1)).length (Lib.byteCells (acc ++ x.take (j + 1)))) := fun v5 w5 h => by
                  rw [htk, ← List.append_assoc, byteCells_append, List.length_append]
                  exact h
                obtain ⟨Y, hY⟩ : ∃ Y, acc ++ x.take j = Y := ⟨_, rfl⟩
                rw [hY] at hown2 HNX hln
                obtain ⟨pv, cv, rfl⟩ := shapeP hown2
                clear hY htk hld
                go_wp2_with (at_builtin; refine wpList_append_own _ rfl _ _ 34 rfl w.heap.size 5 i0 _ 1 1 Tryz.underlying34 hi hz0 hz1 hz2 rfl (by decide) _ _ _ rfl (hown2.alloc _) ⟨_, 0, none⟩ 1 1 [.int .u8 (d.toNat : Int)] rfl rfl (World.news_of_block (cs := #[.int .u8 (d.toNat : Int)]) (t := 5) (fr := (0, 0)) (alloc_get _ _)) (by simp [Value.oneCell']) (by unfold maxLen; omega) (by omega) (by simp; omega) ?_; intro v5 w5 oB hg5 _; have hown3 := HNX.out v5 w5 oB; have hB3 := (hB2.alloc hB2s _).grown hg5 (by simp; omega) (fun k e => (hown2.lt k e).1))
                go_roundw
                case rel => exact ⟨j + 1, by go_num, by omega, hown3, hB3⟩
                case measure => simp [intOf]; omega
              · have q1 : ¬ (j : Int) < (x.length : Int) := by omega
                obtain rfl : j = x.length := by omega
                rw [List.take_length] at hown2
                obtain ⟨pv, cv, rfl⟩ := shapeP hown2
                by_cases hbig2 : 16384 < (acc ++ x).length
                · have i9 : (16384 : Int) < ((acc ++ x).length : Int) := by omega
                  have hres : Hid (R = none) := by
                    unfold Hid
                    rw [← HSTEP.out, if_pos hbig2]
                  clear HSTEP
                  obtain ⟨Y, hY⟩ : ∃ Y, acc ++ x = Y := ⟨_, rfl⟩
                  rw [hY] at hown2 i9 hbig2
                  simp only [hY]
                  clear hY
                  go_wp2_with fail
                  refine bodyPost_ret (results_rp _ _ _ _ ⟨rfl, rfl⟩) rfl ?_
                  exact ⟨by rw [HPM.out, hres.out]; rfl, hB2⟩
                · have i9 : ¬ (16384 : Int) < ((acc ++ x).length : Int) := by omega
                  have hnext : Hid (prF (some (a, x, ln, cl)) (L.drop (k + 1)) (acc ++ x) = R) := by
                    unfold Hid
                    rw [← HSTEP.out, if_neg hbig2]
                  clear HSTEP
                  obtain ⟨Y, hY⟩ : ∃ Y, acc ++ x = Y := ⟨_, rfl⟩
                  rw [hY] at hown2 i9 hbig2 hnext
                  simp only [hY]
                  clear hY
                  go_wp2_with fail
                  go_roundw
                  case rel => exact ⟨k + 1, Y, some (a, x, ln, cl), by go_num, by omega, by omega, hown2, hB2, hnext, HPREV⟩
                  case measure => simp [intOf]; omega
          | false =>
            have HSTEP0 : ((if 16384 < ((acc ++ [32]) ++ x).length then none else prF (some (a, x, ln, cl)) (L.drop (k + 1)) ((acc ++ [32]) ++ x)) = R) := by
              have h9 := hstep.symm
              simp only [gapB, hjb'.out, Bool.false_eq_true, if_false] at h9
              exact h9
            have HSP : Hid (∀ (v5 : Value) (w5 : World), w5.ownsRow w.heap.size 5 1 v5 (acc.length + 1) (Lib.byteCells acc ++ [.int .u8 32]) → (W.alloc (Obj.cells #[.int .u8 32] 5)).grownBy w5 u5.ownBlock → w5.ownsRow w.heap.size 5 1 v5 (acc ++ [32]).length (Lib.byteCells (acc ++ [32])) ∧ Below w.heap.size w w5) := fun v5 w5 oB hg5 => ⟨by rw [byteCells_append, List.length_append]; exact oB, (hBW.alloc hBWs _).grown hg5 (by simp; omega) (fun k e => (hownW.lt k e).1)⟩
            have hla0 : (acc ++ [32]).length = acc.length + 1 := by simp
            obtain ⟨pu, cu, rfl⟩ := shapeP hownW
            clear hstep
            obtain ⟨acc1, hacc1⟩ : ∃ y, acc ++ [32] = y := ⟨_, rfl⟩
            rw [hacc1] at hla0 HSTEP0 HSP
            have hla : acc1.length ≤ 16385 := by omega
            have HSTEP : Hid ((if 16384 < (acc1 ++ x).length then none else prF (some (a, x, ln, cl)) (L.drop (k + 1)) (acc1 ++ x)) = R) := HSTEP0
            clear hacc1 hla0 HSTEP0
            go_wp2_with (at_builtin; refine wpList_append_own _ rfl _ _ 34 rfl w.heap.size 5 i0 _ 1 1 Tryz.underlying34 hi hz0 hz1 hz2 rfl (by decide) _ _ _ rfl (hownW.alloc _) ⟨W.heap.size, 0, none⟩ 1 1 [.int .u8 32] rfl rfl (World.news_of_block (cs := #[.int .u8 32]) (t := 5) (fr := (0, 0)) (alloc_get _ _)) (by simp [Value.oneCell']) (by unfold maxLen; omega) (by omega) (by simp; omega) ?_; intro v5 w5 oB hg5 _; obtain ⟨hown1, hBx⟩ := HSP.out v5 w5 oB hg5)
            have XT2 : Hid (∀ W : World, Below w.heap.size w W → W.cell? ⟨g, o0 + k * 4 + 1, none⟩ = some (.string ⟨x.toArray⟩)) := fun W hW => (XT.out W hW).2.1
            clear XT
            go_loopw [5, 7] (fun v vj wi => ∃ j : Nat, vj = .int .i64 j ∧ j ≤ x.length ∧ wi.ownsRow w.heap.size 5 1 v (acc1 ++ x.take j).length (Lib.byteCells (acc1 ++ x.take j)) ∧ Below w.heap.size w wi) (fun _ vj _ => x.length - (intOf vj).toNat)
            case atStart => exact ⟨0, rfl, Nat.zero_le _, by rw [List.take_zero, List.append_nil]; exact hown1, hBx⟩
            case round =>
              clear hown1 hBx
              obtain ⟨j, rfl, hj, hown2, hB2⟩ := hrel
              have b1 := XT2.out _ hB2
              have hB2s := hB2.size
              by_cases hlj : j < x.length
              · have q0 : (0 : Int) ≤ (j : Int) := by omega
                have q1 : (j : Int) < (x.length : Int) := by omega
                obtain ⟨d, hd, hld⟩ := byte_get x j hlj
                have htk : x.take (j + 1) = x.take j ++ [d] := by rw [List.take_add_one, hld]; rfl
                have hln : (acc1 ++ x.take j).length ≤ 32768 := by rw [List.length_append, List.length_take]; omega
                have HNX : Hid (∀ (v5 : Value) (w5 : World), w5.ownsRow w.heap.size 5 1 v5 ((acc1 ++ x.take j).length + 1) (Lib.byteCells (acc1 ++ x.take j) ++ [.int .u8 (d.toNat : Int)]) → w5.ownsRow w.heap.size 5 1 v5 (acc1 ++ x.take (j + 1)).length (Lib.byteCells (acc1 ++ x.take (j + 1)))) := fun v5 w5 h => by
                  rw [htk, ← List.append_assoc, byteCells_append, List.length_append]
                  exact h
                obtain ⟨Y, hY⟩ : ∃ Y, acc1 ++ x.take j = Y := ⟨_, rfl⟩
                rw [hY] at hown2 HNX hln
                obtain ⟨pv, cv, rfl⟩ := shapeP hown2
                clear hY htk hld
                go_wp2_with (at_builtin; refine wpList_append_own _ rfl _ _ 34 rfl w.heap.size 5 i0 _ 1 1 Tryz.underlying34 hi hz0 hz1 hz2 rfl (by decide) _ _ _ rfl (hown2.alloc _) ⟨_, 0, none⟩ 1 1 [.int .u8 (d.toNat : Int)] rfl rfl (World.news_of_block (cs := #[.int .u8 (d.toNat : Int)]) (t := 5) (fr := (0, 0)) (alloc_get _ _)) (by simp [Value.oneCell']) (by unfold maxLen; omega) (by omega) (by simp; omega) ?_; intro v5 w5 oB hg5 _; have hown3 := HNX.out v5 w5 oB; have hB3 := (hB2.alloc hB2s _).grown hg5 (by simp; omega) (fun k e => (hown2.lt k e).1))
                go_roundw
                case rel => exact ⟨j + 1, by go_num, by omega, hown3, hB3⟩
                case measure => simp [intOf]; omega
              · have q1 : ¬ (j : Int) < (x.length : Int) := by omega
                obtain rfl : j = x.length := by omega
                rw [List.take_length] at hown2
                obtain ⟨pv, cv, rfl⟩ := shapeP hown2
                by_cases hbig2 : 16384 < (acc1 ++ x).length
                · have i9 : (16384 : Int) < ((acc1 ++ x).length : Int) := by omega
                  have hres : Hid (R = none) := by
                    unfold Hid
                    rw [← HSTEP.out, if_pos hbig2]
                  clear HSTEP
                  obtain ⟨Y, hY⟩ : ∃ Y, acc1 ++ x = Y := ⟨_, rfl⟩
                  rw [hY] at hown2 i9 hbig2
                  simp only [hY]
                  clear hY
                  go_wp2_with fail
                  refine bodyPost_ret (results_rp _ _ _ _ ⟨rfl, rfl⟩) rfl ?_
                  exact ⟨by rw [HPM.out, hres.out]; rfl, hB2⟩
                · have i9 : ¬ (16384 : Int) < ((acc1 ++ x).length : Int) := by omega
                  have hnext : Hid (prF (some (a, x, ln, cl)) (L.drop (k + 1)) (acc1 ++ x) = R) := by
                    unfold Hid
                    rw [← HSTEP.out, if_neg hbig2]
                  clear HSTEP
                  obtain ⟨Y, hY⟩ : ∃ Y, acc1 ++ x = Y := ⟨_, rfl⟩
                  rw [hY] at hown2 i9 hbig2 hnext
                  simp only [hY]
                  clear hY
                  go_wp2_with fail
                  go_roundw
                  case rel => exact ⟨k + 1, Y, some (a, x, ln, cl), by go_num, by omega, by omega, hown2, hB2, hnext, HPREV⟩
                  case measure => simp [intOf]; omega
      · have j1 : ¬ (k : Int) < (L.length : Int) := by omega
        have hres : Hid (R = some acc) := by
          unfold Hid
          rw [← hrun.out, List.drop_eq_nil_of_le (by omega), prF]
        have hcv := conv_own acc hown
        obtain ⟨pv, cv, rfl⟩ := shapeP hown
        clear hrun hprev hown
        go_wp2_with fail
        refine bodyPost_ret (results_rp _ _ _ _ ⟨rfl, rfl⟩) rfl ?_
        exact ⟨by rw [HPM.out, hres.out]; rfl, hB⟩
end Go.Proofs.YtggifkdgkjmljaaGreatDoor
