import Derived.Test.YtialcphfaleedaaGreatDoorZ31
namespace Go.Proofs.YtialcphfaleedaaGreatDoor
open Go.RowKit Go.Shelf
theorem results_rs (tmps : Array Value) (W : World) (a b c d : Value) (h : tmps.getD 2 undef = a ∧ tmps.getD 3 undef = b ∧ tmps.getD 4 undef = c ∧ tmps.getD 5 undef = d) : (results Tryz.f18 tmps).run Tryz.prog W = .ok (.tuple #[a, b, c, d]) W := by
  obtain ⟨h1, h2, h3, h4⟩ := h
  have h1' : tmps[2]?.getD undef = a := by simpa using h1
  have h2' : tmps[3]?.getD undef = b := by simpa using h2
  have h3' : tmps[4]?.getD undef = c := by simpa using h3
  have h4' : tmps[5]?.getD undef = d := by simpa using h4
  simp [results, h1', h2', h3', h4', go_sem]
theorem take_snoc {L : List Tok} {q : Nat} {t : Tok} (h : L[q]? = some t) : L.take (q + 1) = L.take q ++ [t] := by
  rw [List.take_add_one, h]
  rfl
set_option maxRecDepth 100000 in
set_option maxHeartbeats 4000000 in
theorem refScan_ok (T : List UInt8) (w : World) (hs : T.length ≤ 16384) (hg : SR w) :
    Calls Tryz.prog 18 #[.string ⟨T.toArray⟩] w fun e w' =>
      ∃ v, e = .returned (.tuple #[v, .int .i64 ((textM T 1 []).2.1 : Int), .int .i64 ((textM T 1 []).2.2.1 : Int), .int .i64 ((textM T 1 []).2.2.2 : Int)]) ∧ w'.ownsRow w.heap.size 31 4 v (textM T 1 []).1.length (tcels (textM T 1 []).1) ∧ Below w.heap.size w w' := by
  obtain ⟨i0, hin, hz0, hz1, hz2⟩ := info_parts info_tok
  have HG : Hid (SR w) := hg
  obtain ⟨R, hR⟩ : ∃ R, textM T 1 [] = R := ⟨_, rfl⟩
  rw [hR]
  have hR0 : Hid ((0 ≤ T.length ∧ textM (T.drop 0) 1 [] = R ∧ ∀ r, 0 ≤ r → r < 0 → bt T r ≠ 10) ∨ (0 = T.length + 1 ∧ R = ([], 0, 0, 0))) := .inl ⟨Nat.zero_le _, hR, fun r h1 h2 => by omega⟩
  have hE0 : Hid (ended ([] : List Tok)) := fun t h => by cases h
  have i16 : ¬ (16384 : Int) < (T.length : Int) := by omega
  clear hR hg
  go_enter Tryz.func18, Tryz.ntmps18
  go_wp2_with fail
  go_loopw [6, 7, 8, 9] (fun v vn vf vi wr => ∃ (L : List Tok) (no fr k : Nat), vi = .int .i64 k ∧ vf = .int .i64 fr ∧ vn = .int .i64 no ∧ fr ≤ k ∧ k ≤ T.length + 1 ∧ no ≤ fr + 1 ∧ L.length ≤ 2 * fr ∧ wr.ownsRow w.heap.size 31 4 v L.length (tcels L) ∧ Below w.heap.size w wr ∧ Hid (ended L) ∧ Hid ((k ≤ T.length ∧ textM (T.drop fr) no L = R ∧ ∀ r, fr ≤ r → r < k → bt T r ≠ 10) ∨ (k = T.length + 1 ∧ R = (L, 0, 0, 0)))) (fun _ _ _ vi _ => T.length + 1 - (intOf vi).toNat)
  case atStart => exact ⟨[], 1, 0, 0, rfl, rfl, rfl, Nat.le_refl _, Nat.zero_le _, Nat.le_refl _, Nat.le_refl _, World.ownsRow_nil _ _ _ _, Below.refl _ _, hE0, hR0⟩
  case round =>
    clear hR0 hE0
    obtain ⟨L, no, fr, k, rfl, rfl, rfl, hfk, hk1, hno, hLf, hown, hB, hend, hinv⟩ := hrel
    by_cases hkl : k ≤ T.length
    · have j0 : (0 : Int) ≤ (k : Int) := by omega
      have j1 : (k : Int) ≤ (T.length : Int) := by omega
      obtain ⟨hRt, hnl⟩ : textM (T.drop fr) no L = R ∧ ∀ r, fr ≤ r → r < k → bt T r ≠ 10 := by
        rcases hinv.out with h | h
        · exact h.2
        · exact absurd h.1 (by omega)
      clear hinv
      by_cases hgo : k < T.length ∧ bt T k ≠ 10
      · obtain ⟨hlt, hb10⟩ := hgo
        have j2 : (k : Int) < (T.length : Int) := by omega
        obtain ⟨c, hc, hlc⟩ := byte_get T k hlt
        have n10 : ((c.toNat : Int) == 10) = false := u8_ne (d := 10) (fun e => hb10 (by rw [bt_of hlc, e]; rfl))
        have m10 : ((c.toNat : Int) != 10) = true := by rw [bne, n10]; rfl
        have HI : Hid ((k + 1 ≤ T.length ∧ textM (T.drop fr) no L = R ∧ ∀ r, fr ≤ r → r < k + 1 → bt T r ≠ 10) ∨ (k + 1 = T.length + 1 ∧ R = (L, 0, 0, 0))) := .inl ⟨hlt, hRt, fun r h1 h2 => by
          rcases Nat.lt_or_ge r k with h | h
          · exact hnl r h1 h
          · rw [show r = k by omega]; exact hb10⟩
        clear hRt hnl hb10 hlc
        go_wp2_with fail
        go_roundw
        case rel => exact ⟨L, no, fr, k + 1, by go_num, rfl, rfl, by omega, by omega, hno, hLf, hown, hB, hend, HI⟩
        case measure => simp [intOf]; omega
      · have hE : k = T.length ∨ bt T k = 10 := by
          rcases Nat.lt_or_ge k T.length with h | h
          · exact .inr (Classical.byContradiction (fun h2 => hgo ⟨h, h2⟩))
          · exact .inl (by omega)
        obtain ⟨tl1, tl2⟩ := text_line (no := no) hfk hkl hnl hE hend.out
        have hrl : (textM (subL T fr k) no []).1.length ≤ 2 * (k - fr) + 1 := by
          have := run_len (subL T fr k) ((subL T fr k).length + 1) 0 no 0 []
          have h2 := sub_len (l := T) (i := fr) (j := k) hkl
          rw [h2] at this
          have h3 : (runM (k - fr + 1) (subL T fr k) 0 no 0 []).1.length = (textM (subL T fr k) no []).1.length := by unfold textM; rw [h2]
          rw [← h3]
          simpa using this
        have hsl := subL_len T fr k
        have hnla : ∀ c ∈ subL T fr k, c ≠ 10 := fun c hc e => by
          obtain ⟨m, hm, rfl⟩ := List.mem_iff_getElem.1 hc
          obtain ⟨g1, g2⟩ := sub_get (List.getElem?_eq_getElem hm)
          exact hnl (fr + m) (by omega) g2 (by rw [bt_of g1, e]; rfl)
        have HC := refCut_any (subL T fr k) no wr (by omega) hnla (HG.out.below hB)
        have hEx : (ByteArray.mk T.toArray).extract fr k = ⟨(subL T fr k).toArray⟩ := ext_sub T fr k
        have j5 : (fr : Int) ≤ (k : Int) := by omega
        obtain ⟨r, hr⟩ : ∃ r, textM (subL T fr k) no [] = r := ⟨_, rfl⟩
        obtain ⟨A, hA⟩ : ∃ A, subL T fr k = A := ⟨_, rfl⟩
        rw [hr] at tl1 tl2 hrl HC
        rw [hA] at HC hEx
        rw [hRt] at tl1 tl2
        clear hr hA hRt hnl hsl hnla
        obtain ⟨M, e0, ln, col⟩ := r
        simp only at tl1 tl2 hrl HC
        have hcond : Hid ((k < T.length ∧ ∃ c : UInt8, (∀ h', (ByteArray.mk T.toArray)[k]'h' = c) ∧ c = 10) ∨ ¬ k < T.length) := by
          rcases Nat.lt_or_ge k T.length with h | h
          · left
            obtain ⟨c, hc, hlc⟩ := byte_get T k h
            refine ⟨h, c, hc, UInt8.toNat_inj.1 ?_⟩
            rw [← bt_of hlc, hE.resolve_left (by omega)]
            rfl
          · exact .inr (by omega)
        clear hE hgo
        by_cases he : e0 = 0
        · subst he
          obtain ⟨u1, u2, u3, u4⟩ := tl2 rfl
          obtain ⟨rfl, rfl⟩ : ln = 0 ∧ col = 0 := by
            have := (Prod.mk.inj (Prod.mk.inj u2).2)
            exact this
          clear tl1 tl2 u2
          have HI : Hid ((k + 1 ≤ T.length ∧ textM (T.drop (k + 1)) (no + 1) (L ++ M) = R ∧ ∀ r, k + 1 ≤ r → r < k + 1 → bt T r ≠ 10) ∨ (k + 1 = T.length + 1 ∧ R = (L ++ M, 0, 0, 0))) := by
            rcases Nat.lt_or_ge k T.length with h | h
            · exact .inl ⟨h, u3 h, fun r h1 h2 => by omega⟩
            · exact .inr ⟨by omega, u4 (by omega)⟩
          have hend2 : Hid (ended (L ++ M)) := u1
          clear u1 u3 u4 hend
          have WALK : True := trivial
          rcases hcond.out with ⟨hlt, c, hc, rfl⟩ | hlt
          · have j2 : (k : Int) < (T.length : Int) := by omega
            clear hcond
            go_wp2_with fail
            refine HC.mono ?_
            rintro e W2 ⟨vm, rfl, hm, hb2⟩
            have hown2 := owns_below hown hb2
            have hB2 := bel0 hB hb2
            have hbs := hb2.size
            have hgm : Hid (∀ b, vm.ownBlock = some b → wr.heap.size ≤ b ∧ b < W2.heap.size) := fun b e => hm.lt b e
            have hLb : Hid (∀ b, u6.ownBlock = some b → b < wr.heap.size) := fun b e => (hown.lt b e).2
            have hm0 : Hid (W2.ownsRow wr.heap.size 31 4 vm M.length (tcels M)) := hm
            obtain ⟨pm, cm, rfl⟩ := shapeP hm
            have hmx : M.length ≤ maxLen := own_le hm
            unfold maxLen at hmx
            clear hown hB hm HC
            go_wp2_with fail
            go_loopw [6, 13] (fun v vq wq => ∃ q : Nat, vq = .int .i64 q ∧ q ≤ M.length ∧ wq.ownsRow w.heap.size 31 4 v (L ++ M.take q).length (tcels (L ++ M.take q)) ∧ wq.ownsRow wr.heap.size 31 4 (.slice pm M.length cm) M.length (tcels M) ∧ Below w.heap.size w wq ∧ W2.heap.size ≤ wq.heap.size ∧ (∀ b, v.ownBlock = some b → b < wr.heap.size ∨ W2.heap.size ≤ b)) (fun _ vq _ => M.length - (intOf vq).toNat)
            case atStart => exact ⟨0, rfl, Nat.zero_le _, by simpa using hown2, hm0.out, hB2, Nat.le_refl _, fun b e => .inl (hLb.out b e)⟩
            case round =>
              clear hown2 hB2 hLb hm0
              rename World => wq
              obtain ⟨q, rfl, hq, hown3, hm3, hB3, hsz, hdis⟩ := hrel
              by_cases hqm : q < M.length
              · have y1 : (q : Int) < (M.length : Int) := by omega
                have y0 : (0 : Int) ≤ (q : Int) := by omega
                obtain ⟨G, rfl⟩ := own_at hm3 (by omega)
                obtain ⟨t, ht⟩ : ∃ t, M[q]? = some t := ⟨_, List.getElem?_eq_getElem hqm⟩
                obtain ⟨p0, p1, p2, p3⟩ := tok_cell hm3 ht
                obtain ⟨pL, cL, rfl⟩ := shapeP hown3
                have hlen : (L ++ M.take q).length = L.length + q := by simp; omega
                have hB3s := hB3.size
                have htk : Hid (M.take (q + 1) = M.take q ++ [t]) := take_snoc ht
                have hl4 : (L ++ M.take q).length ≤ 100000 := by omega
                clear hlen
                obtain ⟨LL, hLL⟩ : ∃ LL, L ++ M.take q = LL := ⟨_, rfl⟩
                rw [hLL] at hown3 hl4 hdis ⊢
                have HLL : Hid (L ++ M.take q = LL) := hLL
                have hm4 : Hid (wq.ownsRow wr.heap.size 31 4 (.slice (some ⟨G, 0, none⟩) M.length cm) M.length (tcels M)) := hm3
                have hd4 : Hid (∀ b, (Value.slice pL LL.length cL).ownBlock = some b → b < wr.heap.size ∨ W2.heap.size ≤ b) := hdis
                clear hLL ht hm3 hdis
                go_wp2_with (at_builtin; refine wpList_append_lies _ rfl _ _ 22 rfl w.heap.size 31 i0 _ 4 40 Tryz.underlying22 hin hz0 hz1 hz2 rfl (by decide) _ _ _ rfl (hown3.alloc _) ⟨wq.heap.size, 0, none⟩ 1 1 (tcel t) rfl rfl (World.news_of_block (cs := #[.int .i64 (t.1 : Int), .string ⟨t.2.1.toArray⟩, .int .i64 (t.2.2.1 : Int), .int .i64 (t.2.2.2 : Int)]) (t := 31) (fr := (0, 0)) (alloc_get _ _)) (by simp [tcel, Value.oneCell']) (by decide) (by unfold maxLen; omega) (by omega) (by simp; omega) _ rfl ?_; intro g5 c5 w5 oB hg5 hgb hgs)
                go_wp2_with fail
                go_roundw
                case rel =>
                  refine ⟨q + 1, by go_num, by omega, by rw [htk.out, ← List.append_assoc, HLL.out, List.length_append, tcels_snoc]; exact oB, (hm4.out.alloc _).kept hg5 (.inr (fun e => ?_)), (hB3.alloc hB3s _).grown hg5 (by simp; omega) (fun k e => (hown3.lt k e).1), Nat.le_trans (by simp; omega) hg5.size, fun b e => ?_⟩
                  · have h1 := hd4.out G e.symm
                    have h2 := hgm.out G rfl
                    omega
                  · obtain rfl : g5 = b := Option.some.inj e
                    rcases hgb with h1 | h1
                    · exact hd4.out _ h1
                    · simp at h1
                      omega
                case measure => simp [intOf]; omega
              · have y1 : ¬ (q : Int) < (M.length : Int) := by omega
                obtain rfl : q = M.length := by omega
                rw [List.take_length] at hown3
                clear hm3 hdis
                go_wp2_with fail
                go_roundw
                case rel => exact ⟨L ++ M, no + 1, k + 1, k + 1, by go_num, by go_num, by go_num, by omega, by omega, by omega, by simp; omega, hown3, hB3, hend2, HI⟩
                case measure => simp [intOf]; omega
          · have j2 : ¬ (k : Int) < (T.length : Int) := by omega
            clear hcond
            go_wp2_with fail
            refine HC.mono ?_
            rintro e W2 ⟨vm, rfl, hm, hb2⟩
            have hown2 := owns_below hown hb2
            have hB2 := bel0 hB hb2
            have hbs := hb2.size
            have hgm : Hid (∀ b, vm.ownBlock = some b → wr.heap.size ≤ b ∧ b < W2.heap.size) := fun b e => hm.lt b e
            have hLb : Hid (∀ b, u6.ownBlock = some b → b < wr.heap.size) := fun b e => (hown.lt b e).2
            have hm0 : Hid (W2.ownsRow wr.heap.size 31 4 vm M.length (tcels M)) := hm
            obtain ⟨pm, cm, rfl⟩ := shapeP hm
            have hmx : M.length ≤ maxLen := own_le hm
            unfold maxLen at hmx
            clear hown hB hm HC
            go_wp2_with fail
            go_loopw [6, 13] (fun v vq wq => ∃ q : Nat, vq = .int .i64 q ∧ q ≤ M.length ∧ wq.ownsRow w.heap.size 31 4 v (L ++ M.take q).length (tcels (L ++ M.take q)) ∧ wq.ownsRow wr.heap.size 31 4 (.slice pm M.length cm) M.length (tcels M) ∧ Below w.heap.size w wq ∧ W2.heap.size ≤ wq.heap.size ∧ (∀ b, v.ownBlock = some b → b < wr.heap.size ∨ W2.heap.size ≤ b)) (fun _ vq _ => M.length - (intOf vq).toNat)
            case atStart => exact ⟨0, rfl, Nat.zero_le _, by simpa using hown2, hm0.out, hB2, Nat.le_refl _, fun b e => .inl (hLb.out b e)⟩
            case round =>
              clear hown2 hB2 hLb hm0
              rename World => wq
              obtain ⟨q, rfl, hq, hown3, hm3, hB3, hsz, hdis⟩ := hrel
              by_cases hqm : q < M.length
              · have y1 : (q : Int) < (M.length : Int) := by omega
                have y0 : (0 : Int) ≤ (q : Int) := by omega
                obtain ⟨G, rfl⟩ := own_at hm3 (by omega)
                obtain ⟨t, ht⟩ : ∃ t, M[q]? = some t := ⟨_, List.getElem?_eq_getElem hqm⟩
                obtain ⟨p0, p1, p2, p3⟩ := tok_cell hm3 ht
                obtain ⟨pL, cL, rfl⟩ := shapeP hown3
                have hlen : (L ++ M.take q).length = L.length + q := by simp; omega
                have hB3s := hB3.size
                have htk : Hid (M.take (q + 1) = M.take q ++ [t]) := take_snoc ht
                have hl4 : (L ++ M.take q).length ≤ 100000 := by omega
                clear hlen
                obtain ⟨LL, hLL⟩ : ∃ LL, L ++ M.take q = LL := ⟨_, rfl⟩
                rw [hLL] at hown3 hl4 hdis ⊢
                have HLL : Hid (L ++ M.take q = LL) := hLL
                have hm4 : Hid (wq.ownsRow wr.heap.size 31 4 (.slice (some ⟨G, 0, none⟩) M.length cm) M.length (tcels M)) := hm3
                have hd4 : Hid (∀ b, (Value.slice pL LL.length cL).ownBlock = some b → b < wr.heap.size ∨ W2.heap.size ≤ b) := hdis
                clear hLL ht hm3 hdis
                go_wp2_with (at_builtin; refine wpList_append_lies _ rfl _ _ 22 rfl w.heap.size 31 i0 _ 4 40 Tryz.underlying22 hin hz0 hz1 hz2 rfl (by decide) _ _ _ rfl (hown3.alloc _) ⟨wq.heap.size, 0, none⟩ 1 1 (tcel t) rfl rfl (World.news_of_block (cs := #[.int .i64 (t.1 : Int), .string ⟨t.2.1.toArray⟩, .int .i64 (t.2.2.1 : Int), .int .i64 (t.2.2.2 : Int)]) (t := 31) (fr := (0, 0)) (alloc_get _ _)) (by simp [tcel, Value.oneCell']) (by decide) (by unfold maxLen; omega) (by omega) (by simp; omega) _ rfl ?_; intro g5 c5 w5 oB hg5 hgb hgs)
                go_wp2_with fail
                go_roundw
                case rel =>
                  refine ⟨q + 1, by go_num, by omega, by rw [htk.out, ← List.append_assoc, HLL.out, List.length_append, tcels_snoc]; exact oB, (hm4.out.alloc _).kept hg5 (.inr (fun e => ?_)), (hB3.alloc hB3s _).grown hg5 (by simp; omega) (fun k e => (hown3.lt k e).1), Nat.le_trans (by simp; omega) hg5.size, fun b e => ?_⟩
                  · have h1 := hd4.out G e.symm
                    have h2 := hgm.out G rfl
                    omega
                  · obtain rfl : g5 = b := Option.some.inj e
                    rcases hgb with h1 | h1
                    · exact hd4.out _ h1
                    · simp at h1
                      omega
                case measure => simp [intOf]; omega
              · have y1 : ¬ (q : Int) < (M.length : Int) := by omega
                obtain rfl : q = M.length := by omega
                rw [List.take_length] at hown3
                clear hm3 hdis
                go_wp2_with fail
                go_roundw
                case rel => exact ⟨L ++ M, no + 1, k + 1, k + 1, by go_num, by go_num, by go_num, by omega, by omega, by omega, by simp; omega, hown3, hB3, hend2, HI⟩
                case measure => simp [intOf]; omega
        · have HR2 : Hid (R = ([], e0, no, col)) := tl1 he
          have q0 : ((e0 : Int) == 0) = false := by rw [beq_eq_false_iff_ne]; omega
          have q1 : ((e0 : Int) != 0) = true := by rw [bne, q0]; rfl
          clear tl1 tl2 hend
          rcases hcond.out with ⟨hlt, c, hc, rfl⟩ | hlt
          · have j2 : (k : Int) < (T.length : Int) := by omega
            clear hcond
            go_wp2_with fail
            refine HC.mono ?_
            rintro e W2 ⟨vm, rfl, -, hb2⟩
            go_wp2_with fail
            refine bodyPost_ret (results_rs _ _ _ _ _ _ ⟨rfl, rfl, rfl, rfl⟩) rfl ?_
            exact ⟨.slice none 0 0, by rw [HR2.out]; rfl, by rw [HR2.out]; exact World.ownsRow_nil _ _ _ _, bel0 hB hb2⟩
          · have j2 : ¬ (k : Int) < (T.length : Int) := by omega
            clear hcond
            go_wp2_with fail
            refine HC.mono ?_
            rintro e W2 ⟨vm, rfl, -, hb2⟩
            go_wp2_with fail
            refine bodyPost_ret (results_rs _ _ _ _ _ _ ⟨rfl, rfl, rfl, rfl⟩) rfl ?_
            exact ⟨.slice none 0 0, by rw [HR2.out]; rfl, by rw [HR2.out]; exact World.ownsRow_nil _ _ _ _, bel0 hB hb2⟩
    · have j1 : ¬ (k : Int) ≤ (T.length : Int) := by omega
      have HR2 : Hid (R = (L, 0, 0, 0)) := by
        rcases hinv.out with h | h
        · exact absurd h.1 hkl
        · exact h.2
      clear hinv hend
      go_wp2_with fail
      refine bodyPost_ret (results_rs _ _ _ _ _ _ ⟨rfl, rfl, rfl, rfl⟩) rfl ?_
      exact ⟨_, by rw [HR2.out]; rfl, by rw [HR2.out]; exact hown, hB⟩
end Go.Proofs.YtialcphfaleedaaGreatDoor
