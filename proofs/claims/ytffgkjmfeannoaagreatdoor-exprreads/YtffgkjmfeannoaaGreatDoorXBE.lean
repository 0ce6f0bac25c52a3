import Derived.Test.YtffgkjmfeannoaaGreatDoorXBD
import Derived.Test.YtffgkjmfeannoaaGreatDoorXAZ
import Derived.Test.YtffgkjmfeannoaaGreatDoorXAA
import Derived.Test.YtffgkjmfeannoaaGreatDoorXAR
import Derived.Test.YtffgkjmfeannoaaGreatDoorChecked
import Derived.WalkKit
import Derived.Below
import Derived.BigQuiet
import Derived.OwnWalk
import Derived.Laws.OwnMore
import Derived.Deep.AppendLies
namespace Go.Proofs.YtffgkjmfeannoaaGreatDoor
open Go.RowKit Go.Shelf
theorem results_rs (tmps : Array Value) (W : World) (a b c d : Value) (h : tmps.getD 2 undef = a ∧ tmps.getD 3 undef = b ∧ tmps.getD 4 undef = c ∧ tmps.getD 5 undef = d) : (results Tryz.f16 tmps).run Tryz.prog W = .ok (.tuple #[a, b, c, d]) W := by
  obtain ⟨h1, h2, h3, h4⟩ := h
  have h1' : tmps[2]?.getD undef = a := by simpa using h1
  have h2' : tmps[3]?.getD undef = b := by simpa using h2
  have h3' : tmps[4]?.getD undef = c := by simpa using h3
  have h4' : tmps[5]?.getD undef = d := by simpa using h4
  simp [results, h1', h2', h3', h4', go_sem]
theorem take_snoc {L : List Tok} {q : Nat} {t : Tok} (h : L[q]? = some t) : L.take (q + 1) = L.take q ++ [t] := by
  rw [List.take_add_one, h]
  rfl
set_option maxRecDepth 100000 in
set_option maxHeartbeats 4000000 in
theorem refScan_ok (T : List UInt8) (w : World) (hs : T.length ≤ 16384) (hg : SR w) :
    Calls Tryz.prog 16 #[.string ⟨T.toArray⟩] w fun e w' =>
      ∃ v, e = .returned (.tuple #[v, .int .i64 ((textM T 1 []).2.1 : Int), .int .i64 ((textM T 1 []).2.2.1 : Int), .int .i64 ((textM T 1 []).2.2.2 : Int)]) ∧ w'.ownsRow w.heap.size 24 4 v (textM T 1 []).1.length (tcels (textM T 1 []).1) ∧ Below w.heap.size w w' := by
  obtain ⟨i0, hin, hz0, hz1, hz2⟩ := info_parts info_tok
  have HG : Hid (SR w) := hg
  obtain ⟨R, hR⟩ : ∃ R, textM T 1 [] = R := ⟨_, rfl⟩
  rw [hR]
  have hR0 : Hid ((0 ≤ T.length ∧ textM (T.drop 0) 1 [] = R ∧ ∀ r, 0 ≤ r → r < 0 → bt T r ≠ 10) ∨ (0 = T.length + 1 ∧ R = ([], 0, 0, 0))) := .inl ⟨Nat.zero_le _, hR, fun r h1 h2 => by omega⟩
  have hE0 : Hid (ended ([] : List Tok)) := fun t h => by cases h
  have i16 : ¬ (16384 : Int) < (T.length : Int) := by omega
  clear hR hg
  go_enter Tryz.func16, Tryz.ntmps16
  go_wp2_with fail
  go_loopw [6, 7, 8, 9] (fun v vn vf vi wr => ∃ (L : List Tok) (no fr k : Nat), vi = .int .i64 k ∧ vf = .int .i64 fr ∧ vn = .int .i64 no ∧ fr ≤ k ∧ k ≤ T.length + 1 ∧ no ≤ fr + 1 ∧ L.length ≤ 2 * fr ∧ wr.ownsRow w.heap.size 24 4 v L.length (tcels L) ∧ Below w.heap.size w wr ∧ Hid (ended L) ∧ Hid ((k ≤ T.length ∧ textM (T.drop fr) no L = R ∧ ∀ r, fr ≤ r → r < k → bt T r ≠ 10) ∨ (k = T.length + 1 ∧ R = (L, 0, 0, 0)))) (fun _ _ _ vi _ => T.length + 1 - (intOf vi).toNat)
  case atStart => exact ⟨[], 1, 0, 0, rfl, rfl, rfl, Nat.le_refl _, Nat.zero_le _, Nat.le_refl _, Nat.le_refl _, World.ownsRow_nil _ _ _ _, Below.refl _ _, hE0, hR0⟩
  case round =>
    clear hR0 hE0
    obtain ⟨L, no, fr, k, rfl, rfl, rfl, hfk, hk1, hno, hLf, hown, hB, hend, hinv⟩ := hrel
    by_cases hkl : k ≤ T.length
    · have j0 : (0 : Int) ≤ (k : Int) := by omega
      have j1 : (k : Int) ≤ (T.length : Int) := by omega
      obtain ⟨hRt, hnl⟩ : textM (T.drop fr) no L = R ∧ ∀ r, fr ≤ r → r < k → bt T r ≠ 10 := by
        rcases hinv.out with h | h
        · exact h.2
        · exact absurd h.1 (by omega)
      clear hinv
      by_cases hgo : k < T.length ∧ bt T k ≠ 10
      · obtain ⟨hlt, hb10⟩ := hgo
        have j2 : (k : Int) < (T.length : Int) := by omega
        obtain ⟨c, hc, hlc⟩ := byte_get T k hlt
        have n10 : ((c.toNat : Int) == 10) = false := u8_ne (d := 10) (fun e => hb10 (by rw [bt_of hlc, e]; rfl))
        have m10 : ((c.toNat : Int) != 10) = true := by rw [bne, n10]; rfl
        have HI : Hid ((k + 1 ≤ T.length ∧ textM (T.drop fr) no L = R ∧ ∀ r, fr ≤ r → r < k + 1 → bt T r ≠ 10) ∨ (k + 1 = T.length + 1 ∧ R = (L, 0, 0, 0))) := .inl ⟨hlt, hRt, fun r h1 h2 => by
          rcases Nat.lt_or_ge r k with h | h
          · exact hnl r h1 h
          · rw [show r = k by omega]; exact hb10⟩
        clear hRt hnl hb10 hlc
        go_wp2_with fail
        go_roundw
        case rel => exact ⟨L, no, fr, k + 1, by go_num, rfl, rfl, by omega, by omega, hno, hLf, hown, hB, hend, HI⟩
        case measure => simp [intOf]; omega
      · have hE : k = T.length ∨ bt T k = 10 := by
          rcases Nat.lt_or_ge k T.length with h | h
          · exact .inr (Classical.byContradiction (fun h2 => hgo ⟨h, h2⟩))
          · exact .inl (by omega)
        obtain ⟨tl1, tl2⟩ := text_line (no := no) hfk hkl hnl hE hend.out
        have hrl : (textM (subL T fr k) no []).1.length ≤ 2 * (k - fr) + 1 := by
          have := run_len (subL T fr k) ((subL T fr k).length + 1) 0 no 0 []
          have h2 := sub_len (l := T) (i := fr) (j := k) hkl
          rw [h2] at this
          have h3 : (runM (k - fr + 1) (subL T fr k) 0 no 0 []).1.length = (textM (subL T fr k) no []).1.length := by unfold textM; rw [h2]
          rw [← h3]
          simpa using this
        have hsl := subL_len T fr k
        have hnla : ∀ c ∈ subL T fr k, c ≠ 10 := fun c hc e => by
          obtain ⟨m, hm, rfl⟩ := List.mem_iff_getElem.1 hc
          obtain ⟨g1, g2⟩ := sub_get (List.getElem?_eq_getElem hm)
          exact hnl (fr + m) (by omega) g2 (by rw [bt_of g1, e]; rfl)
        have HC := refCut_any (subL T fr k) no wr (by omega) hnla (HG.out.below hB)
        have hEx : (ByteArray.mk T.toArray).extract fr k = ⟨(subL T fr k).toArray⟩ := ext_sub T fr k
        have j5 : (fr : Int) ≤ (k : Int) := by omega
        obtain ⟨r, hr⟩ : ∃ r, textM (subL T fr k) no [] = r := ⟨_, rfl⟩
        obtain ⟨A, hA⟩ : ∃ A, subL T fr k = A := ⟨_, rfl⟩
        rw [hr] at tl1 tl2 hrl HC
        rw [hA] at HC hEx
        rw [hRt] at tl1 tl2
        clear hr hA hRt hnl hsl hnla
        obtain ⟨M, e0, ln, col⟩ := r
        simp only at tl1 tl2 hrl HC
        have hcond : Hid ((k < T.length ∧ ∃ c : UInt8, (∀ h', (ByteArray.mk T.toArray)[k]'h' = c) ∧ c = 10) ∨ ¬ k < T.length) := by
          rcases Nat.lt_or_ge k T.length with h | h
          · left
            obtain ⟨c, hc, hlc⟩ := byte_get T k h
            refine ⟨h, c, hc, UInt8.toNat_inj.1 ?_⟩
            rw [← bt_of hlc, hE.resolve_left (by omega)]
            rfl
          · exact .inr (by omega)
        clear hE hgo
        by_cases he : e0 = 0
        · subst he
          obtain ⟨u1, u2, u3, u4⟩ := tl2 rfl
          obtain ⟨rfl, rfl⟩ : ln = 0 ∧ col = 0 := by
            have := (Prod.mk.inj (Prod.mk.inj u2).2)
            exact this
          clear tl1 tl2 u2
          have HI : Hid ((k + 1 ≤ T.length ∧ textM (T.drop (k + 1)) (no + 1) (L ++ M) = R ∧ ∀ r, k + 1 ≤ r → r < k + 1 → bt T r ≠ 10) ∨ (k + 1 = T.length + 1 ∧ R = (L ++ M, 0, 0, 0))) := by
            rcases Nat.lt_or_ge k T.length with h | h
            · exact .inl ⟨h, u3 h, fun r h1 h2 => by omega⟩
            · exact .inr ⟨by omega, u4 (by omega)⟩
          have hend2 : Hid (ended (L ++ M)) := u1
          clear u1 u3 u4 hend
          have WALK : True := trivial
          rcases hcond.out with ⟨hlt, c, hc, rfl⟩ | hlt
          · have j2 : (k : Int) < (T.length : Int) := by omega
            clear hcond
            go_wp2_with fail
            refine HC.mono ?_
            rintro e W2 ⟨vm, rfl, hm, hb2⟩
            have hown2 := owns_below hown hb2
            have hB2 := bel0 hB hb2
            have hbs := hb2.size
            have hgm : Hid (∀ b, vm.ownBlock = some b → wr.heap.size ≤ b ∧ b < W2.heap.size) := fun b e => hm.lt b e
            have hLb : Hid (∀ b, u6.ownBlock = some b → b < wr.heap.size) := fun b e => (hown.lt b e).2
            have hm0 : Hid (W2.ownsRow wr.heap.size 24 4 vm M.length (tcels M)) := hm
            obtain ⟨pm, cm, rfl⟩ := shapeP hm
            have hmx : M.length ≤ maxLen := own_le hm
            unfold maxLen at hmx
            clear hown hB hm HC
            go_wp2_with fail
            go_loopw [6, 13] (fun v vq wq => ∃ q : Nat, vq = .int .i64 q ∧ q ≤ M.length ∧ wq.ownsRow w.heap.size 24 4 v (L ++ M.take q).length (tcels (L ++ M.take q)) ∧ wq.ownsRow wr.heap.size 24 4 (.slice pm M.length cm) M.length (tcels M) ∧ Below w.heap.size w wq ∧ W2.heap.size ≤ wq.heap.size ∧ (∀ b, v.ownBlock = some b → b < wr.heap.size ∨ W2.heap.size ≤ b)) (fun _ vq _ => M.length - (intOf vq).toNat)
            case atStart => exact ⟨0, rfl, Nat.zero_le _, by simpa using hown2, hm0.out, hB2, Nat.le_refl _, fun b e => .inl (hLb.out b e)⟩
            case round =>
              clear hown2 hB2 hLb hm0
              rename World => wq
              obtain ⟨q, rfl, hq, hown3, hm3, hB3, hsz, hdis⟩ := hrel
              by_cases hqm : q < M.length
              · have y1 : (q : Int) < (M.length : Int) := by omega
                have y0 : (0 : Int) ≤ (q : Int) := by omega
                obtain ⟨G, rfl⟩ := own_at hm3 (by omega)
                obtain ⟨t, ht⟩ : ∃ t, M[q]? = some t := ⟨_, List.getElem?_eq_getElem hqm⟩
                obtain ⟨p0, p1, p2, p3⟩ := tok_cell hm3 ht
                obtain ⟨pL, cL, rfl⟩ := shapeP hown3
                have hlen : (L ++ M.take q).length = L.length + q := by simp; omega
                have hB3s := hB3.size
                have htk : Hid (M.take (q + 1) = M.take q ++ [t]) := take_snoc ht
                have hl4 : (L ++ M.take q).length ≤ 100000 := by omega
                clear hlen
                obtain ⟨LL, hLL⟩ : ∃ LL, L ++ M.take q = LL := ⟨_, rfl⟩
                rw [hLL] at hown3 hl4 hdis ⊢
                have HLL : Hid (L ++ M.take q = LL) := hLL
                have hm4 : Hid (wq.ownsRow wr.heap.size 24 4 (.slice (some ⟨G, 0, none⟩) M.length cm) M.length (tcels M)) := hm3
                have hd4 : Hid (∀ b, (Value.slice pL LL.length cL).ownBlock = some b → b < wr.heap.size ∨ W2.heap.size ≤ b) := hdis
                clear hLL ht hm3 hdis
                go_wp2_with (at_builtin; refine wpList_append_lies _ rfl _ _ 22 rfl w.heap.size 24 i0 _ 4 40 Tryz.underlying22 hin hz0 hz1 hz2 rfl (by decide) _ _ _ rfl (hown3.alloc _) ⟨wq.heap.size, 0, none⟩ 1 1 (tcel t) rfl rfl (World.news_of_block (cs := #[.int .i64 (t.1 : Int), .string ⟨t.2.1.toArray⟩, .int .i64 (t.2.2.1 : Int), .int .i64 (t.2.2.2 : Int)]) (t := 24) (fr := (0, 0)) (alloc_get _ _)) (by simp [tcel, Value.oneCell']) (by decide) (by unfold maxLen; omega) (by omega) (by simp; omega) _ rfl ?_; intro g5 c5 w5 oB hg5 hgb hgs)
                go_wp2_with fail
                go_roundw
                case rel =>
                  refine ⟨q + 1, by go_num, by omega, by rw [htk.out, ← List.append_assoc, HLL.out, List.length_append, tcels_snoc]; exact oB, (hm4.out.alloc _).kept hg5 (.inr (fun e => ?_)), (hB3.alloc hB3s _).grown hg5 (by simp; omega) (fun k e => (hown3.lt k e).1), Nat.le_trans (by simp; omega) hg5.size, fun b e => ?_⟩
                  · have h1 := hd4.out G e.symm
                    have h2 := hgm.out G rfl
                    omega
                  · obtain rfl : g5 = b := Option.some.inj e
                    rcases hgb with h1 | h1
                    · exact hd4.out _ h1
                    · simp at h1
                      omega
                case measure => simp [intOf]; omega
              · have y1 : ¬ (q : Int) < (M.length : Int) := by omega
                obtain rfl : q = M.length := by omega
                rw [List.take_length] at hown3
                clear hm3 hdis
                go_wp2_with fail
                go_roundw
                case rel => exact ⟨L ++ M, no + 1, k + 1, k + 1, by go_num, by go_num, by go_num, by omega, by omega, by omega, by simp; omega, hown3, hB3, hend2, HI⟩
                case measure => simp [intOf]; omega
          · have j2 : ¬ (k : Int) < (T.length : Int) := by omega
            clear hcond
            go_wp2_with fail
            refine HC.mono ?_
            rintro e W2 ⟨vm, rfl, hm, hb2⟩
            have hown2 := owns_below hown hb2
            have hB2 := bel0 hB hb2
            have hbs := hb2.size
            have hgm : Hid (∀ b, vm.ownBlock = some b → wr.heap.size ≤ b ∧ b < W2.heap.size) := fun b e => hm.lt b e
            have hLb : Hid (∀ b, u6.ownBlock = some b → b < wr.heap.size) := fun b e => (hown.lt b e).2
            have hm0 : Hid (W2.ownsRow wr.heap.size 24 4 vm M.length (tcels M)) := hm
            obtain ⟨pm, cm, rfl⟩ := shapeP hm
            have hmx : M.length ≤ maxLen := own_le hm
            unfold maxLen at hmx
            clear hown hB hm HC
            go_wp2_with fail
            go_loopw [6, 13] (fun v vq wq => ∃ q : Nat, vq = .int .i64 q ∧ q ≤ M.length ∧ wq.ownsRow w.heap.size 24 4 v (L ++ M.take q).length (tcels (L ++ M.take q)) ∧ wq.ownsRow wr.heap.size 24 4 (.slice pm M.length cm) M.length (tcels M) ∧ Below w.heap.size w wq ∧ W2.heap.size ≤ wq.heap.size ∧ (∀ b, v.ownBlock = some b → b < wr.heap.size ∨ W2.heap.size ≤ b)) (fun _ vq _ => M.length - (intOf vq).toNat)
            case atStart => exact ⟨0, rfl, Nat.zero_le _, by simpa using hown2, hm0.out, hB2, Nat.le_refl _, fun b e => .inl (hLb.out b e)⟩
            case round =>
              clear hown2 hB2 hLb hm0
              rename World => wq
              obtain ⟨q, rfl, hq, hown3, hm3, hB3, hsz, hdis⟩ := hrel
              by_cases hqm : q < M.length
              · have y1 : (q : Int) < (M.length : Int) := by omega
                have y0 : (0 : Int) ≤ (q : Int) := by omega
                obtain ⟨G, rfl⟩ := own_at hm3 (by omega)
                obtain ⟨t, ht⟩ : ∃ t, M[q]? = some t := ⟨_, List.getElem?_eq_getElem hqm⟩
                obtain ⟨p0, p1, p2, p3⟩ := tok_cell hm3 ht
                obtain ⟨pL, cL, rfl⟩ := shapeP hown3
                have hlen : (L ++ M.take q).length = L.length + q := by simp; omega
                have hB3s := hB3.size
                have htk : Hid (M.take (q + 1) = M.take q ++ [t]) := take_snoc ht
                have hl4 : (L ++ M.take q).length ≤ 100000 := by omega
                clear hlen
                obtain ⟨LL, hLL⟩ : ∃ LL, L ++ M.take q = LL := ⟨_, rfl⟩
                rw [hLL] at hown3 hl4 hdis ⊢
                have HLL : Hid (L ++ M.take q = LL) := hLL
                have hm4 : Hid (wq.ownsRow wr.heap.size 24 4 (.slice (some ⟨G, 0, none⟩) M.length cm) M.length (tcels M)) := hm3
                have hd4 : Hid (∀ b, (Value.slice pL LL.length cL).ownBlock = some b → b < wr.heap.size ∨ W2.heap.size ≤ b) := hdis
                clear hLL ht hm3 hdis
                go_wp2_with (at_builtin; refine wpList_append_lies _ rfl _ _ 22 rfl w.heap.size 24 i0 _ 4 40 Tryz.underlying22 hin hz0 hz1 hz2 rfl (by decide) _ _ _ rfl (hown3.alloc _) ⟨wq.heap.size, 0, none⟩ 1 1 (tcel t) rfl rfl (World.news_of_block (cs := #[.int .i64 (t.1 : Int), .string ⟨t.2.1.toArray⟩, .int .i64 (t.2.2.1 : Int), .int .i64 (t.2.2.2 : Int)]) (t := 24) (fr := (0, 0)) (alloc_get _ _)) (by simp [tcel, Value.oneCell']) (by decide) (by unfold maxLen; omega) (by omega) (by simp; omega) _ rfl ?_; intro g5 c5 w5 oB hg5 hgb hgs)
                go_wp2_with fail
                go_roundw
                case rel =>
                  refine ⟨q + 1, by go_num, by omega, by rw [htk.out, ← List.append_assoc, HLL.out, List.length_append, tcels_snoc]; exact oB, (hm4.out.alloc _).kept hg5 (.inr (fun e => ?_)), (hB3.alloc hB3s _).grown hg5 (by simp; omega) (fun k e => (hown3.lt k e).1), Nat.le_trans (by simp; omega) hg5.size, fun b e => ?_⟩
                  · have h1 := hd4.out G e.symm
                    have h2 := hgm.out G rfl
                    omega
                  · obtain rfl : g5 = b := Option.some.inj e
                    rcases hgb with h1 | h1
                    · exact hd4.out _ h1
                    · simp at h1
                      omega
                case measure => simp [intOf]; omega
              · have y1 : ¬ (q : Int) < (M.length : Int) := by omega
                obtain rfl : q = M.length := by omega
                rw [List.take_length] at hown3
                clear hm3 hdis
                go_wp2_with fail
                go_roundw
                case rel => exact ⟨L ++ M, no + 1, k + 1, k + 1, by go_num, by go_num, by go_num, by omega, by omega, by omega, by simp; omega, hown3, hB3, hend2, HI⟩
                case measure => simp [intOf]; omega
        · have HR2 : Hid (R = ([], e0, no, col)) := tl1 he
          have q0 : ((e0 : Int) == 0) = false := by rw [beq_eq_false_iff_ne]; omega
          have q1 : ((e0 : Int) != 0) = true := by rw [bne, q0]; rfl
          clear tl1 tl2 hend
          rcases hcond.out with ⟨hlt, c, hc, rfl⟩ | hlt
          · have j2 : (k : Int) < (T.length : Int) := by omega
            clear hcond
            go_wp2_with fail
            refine HC.mono ?_
            rintro e W2 ⟨vm, rfl, -, hb2⟩
            go_wp2_with fail
            refine bodyPost_ret (results_rs _ _ _ _ _ _ ⟨rfl, rfl, rfl, rfl⟩) rfl ?_
            exact ⟨.slice none 0 0, by rw [HR2.out]; rfl, by rw [HR2.out]; exact World.ownsRow_nil _ _ _ _, bel0 hB hb2⟩
          · have j2 : ¬ (k : Int) < (T.length : Int) := by omega
            clear hcond
            go_wp2_with fail
            refine HC.mono ?_
            rintro e W2 ⟨vm, rfl, -, hb2⟩
            go_wp2_with fail
            refine bodyPost_ret (results_rs _ _ _ _ _ _ ⟨rfl, rfl, rfl, rfl⟩) rfl ?_
            exact ⟨.slice none 0 0, by rw [HR2.out]; rfl, by rw [HR2.out]; exact World.ownsRow_nil _ _ _ _, bel0 hB hb2⟩
    · have j1 : ¬ (k : Int) ≤ (T.length : Int) := by omega
      have HR2 : Hid (R = (L, 0, 0, 0)) := by
        rcases hinv.out with h | h
        · exact absurd h.1 hkl
        · exact h.2
      clear hinv hend
      go_wp2_with fail
      refine bodyPost_ret (results_rs _ _ _ _ _ _ ⟨rfl, rfl, rfl, rfl⟩) rfl ?_
      exact ⟨_, by rw [HR2.out]; rfl, by rw [HR2.out]; exact hown, hB⟩
end Go.Proofs.YtffgkjmfeannoaaGreatDoor
namespace Go.Proofs.YtffgkjmfeannoaaGreatDoor
open Go.RowKit Go.Shelf
open Go.RowKit Go.Shelf
end Go.Proofs.YtffgkjmfeannoaaGreatDoor
namespace Go.Proofs.YtffgkjmfeannoaaGreatDoor
open Go.RowKit Go.Shelf
set_option maxRecDepth 100000 in
theorem refScan_any (T : List UInt8) (w : World) (hm : T.length ≤ 281474976710656) (hg : SR w) :
    Calls Tryz.prog 16 #[.string ⟨T.toArray⟩] w fun e w' =>
      ∃ v, e = .returned (.tuple #[v, .int .i64 ((scanM T).2.1 : Int), .int .i64 ((scanM T).2.2.1 : Int), .int .i64 ((scanM T).2.2.2 : Int)]) ∧ w'.ownsRow w.heap.size 24 4 v (scanM T).1.length (tcels (scanM T).1) ∧ Below w.heap.size w w' := by
  by_cases hs : T.length ≤ 16384
  · have h := refScan_ok T w hs hg
    have e : scanM T = textM T 1 [] := by
      unfold scanM
      rw [if_neg (by omega)]
      rfl
    rw [e]
    exact h
  · have e : Hid (scanM T = ([], 2, 0, 0)) := by
      unfold Hid scanM
      rw [if_pos (by omega)]
    have i1 : (16384 : Int) < (T.length : Int) := by omega
    go_enter Tryz.func16, Tryz.ntmps16
    go_wp2_with fail
    refine bodyPost_ret (results_rs _ _ _ _ _ _ ⟨rfl, rfl, rfl, rfl⟩) rfl ?_
    exact ⟨.slice none 0 0, by rw [e.out]; rfl, by rw [e.out]; exact World.ownsRow_nil _ _ _ _, Below.refl _ _⟩
end Go.Proofs.YtffgkjmfeannoaaGreatDoor
namespace Go.Proofs.YtffgkjmfeannoaaGreatDoor
open Go.RowKit
theorem gr_belZ {W X : World} (h : Below W.heap.size W X) (row : Option Nat) : W.grownBy X row := ⟨h.os, h.tape, h.output, h.size, fun k hk _ => h.block k hk⟩
theorem bel_grZ {w W X : World} {row : Option Nat} (h : Below w.heap.size w W) (hg : W.grownBy X row) (hr : ∀ k, row = some k → w.heap.size ≤ k) : Below w.heap.size w X := h.grown hg h.size hr
theorem own_belZ {W X : World} {B n : Nat} {e : TypeId} {sz : Nat} {v : Value} {xs : List Value} (h : W.ownsRow B e sz v n xs) (hb : Below W.heap.size W X) : X.ownsRow B e sz v n xs := by
  refine h.kept (gr_belZ hb none) ?_
  generalize v.ownBlock = b
  cases b with
  | none => exact .inl rfl
  | some b => exact .inr (by intro e; cases e)
theorem own_baseZ {W : World} {A B n : Nat} {e : TypeId} {sz : Nat} {v : Value} {xs : List Value} (h : W.ownsRow B e sz v n xs) (hA : A ≤ B) : W.ownsRow A e sz v n xs := by
  rcases h.2 with h' | ⟨g, cap, cur, h', hb, r⟩
  · exact ⟨h.1, .inl h'⟩
  · exact ⟨h.1, .inr ⟨g, cap, cur, h', Nat.le_trans hA hb, r⟩⟩
def OWZ (T : TypeId) (W : World) (B : Nat) (v : Value) (L : List Value) : Prop := W.ownsRow B T 1 v L.length L
def offZ (row : Option Nat) (v : Value) : Prop := v.ownBlock = none ∨ v.ownBlock ≠ row
theorem OWZ.kept {T : TypeId} {W X : World} {B : Nat} {v : Value} {L : List Value} {row : Option Nat} (h : OWZ T W B v L) (hg : W.grownBy X row) (ho : offZ row v) : OWZ T X B v L := World.ownsRow.kept h hg ho
theorem OWZ.below {T : TypeId} {W X : World} {B : Nat} {v : Value} {L : List Value} (h : OWZ T W B v L) (hb : Below W.heap.size W X) : OWZ T X B v L := own_belZ h hb
theorem OWZ.lt {T : TypeId} {W : World} {B : Nat} {v : Value} {L : List Value} (h : OWZ T W B v L) : ∀ b, v.ownBlock = some b → B ≤ b ∧ b < W.heap.size := World.ownsRow.lt h
theorem OWZ.base {T : TypeId} {W : World} {A B : Nat} {v : Value} {L : List Value} (h : OWZ T W B v L) (hA : A ≤ B) : OWZ T W A v L := own_baseZ h hA
theorem OWZ.shape {T : TypeId} {W : World} {B : Nat} {v : Value} {L : List Value} (h : OWZ T W B v L) : ∃ p c, v = .slice p L.length c := by
  rcases h.2 with ⟨e, h0⟩ | ⟨g, c, _, e, _⟩
  · exact ⟨none, 0, by rw [h0]; exact e⟩
  · exact ⟨_, _, e⟩
theorem OWZ.cell {T : TypeId} {W : World} {B n c : Nat} {p : Option Addr} {L : List Value} {j : Nat} {u : Value} (h : OWZ T W B (.slice p n c) L) (hu : L[j]? = some u) : ∃ g, p = some ⟨g, 0, none⟩ ∧ W.cell? ⟨g, j, none⟩ = some u ∧ W.frozen? ⟨g, j, none⟩ = false := by
  have hl : n = L.length := by
    obtain ⟨p', c', e⟩ := h.shape
    injection e
  rcases h.2 with ⟨e, h0⟩ | ⟨g, c2, cur, e, _⟩
  · have := (List.getElem?_eq_some_iff.1 hu).1
    omega
  · injection e with e1 _ _
    subst e1
    have h1 := World.ownsRow.cells h (g := g) rfl j u hu
    have hadd : (⟨g, 0, none⟩ : Addr).add j = ⟨g, j, none⟩ := by unfold Addr.add; split <;> simp_all
    rw [hadd] at h1
    subst hl
    exact ⟨g, rfl, h1, World.ownsRow.frozenAt h j⟩
theorem own_neZ {W : World} {B1 B2 : Nat} {e1 e2 : TypeId} {s1 s2 n1 n2 : Nat} {a v : Value} {xs ys : List Value} (h1 : W.ownsRow B1 e1 s1 a n1 xs) (h2 : W.ownsRow B2 e2 s2 v n2 ys) (hne : e1 ≠ e2) : offZ v.ownBlock a := by
  rcases h1.2 with ⟨rfl, _⟩ | ⟨g, c, cur, rfl, _, hg, _⟩
  · exact .inl rfl
  · refine .inr (fun e => ?_)
    rcases h2.2 with ⟨rfl, _⟩ | ⟨g2, c2, cur2, rfl, _, hg2, _⟩
    · cases e
    · have : g = g2 := by injection e
      subst this
      rw [hg] at hg2
      injection hg2 with h
      injection h with _ h _
      exact hne h
theorem own_cutZ {W : World} {B sz g n c i : Nat} {e : TypeId} {xs : List Value} (hi : i ≤ n) (h : W.ownsRow B e sz (.slice (some ⟨g, 0, none⟩) n c) n xs) : W.ownsRow B e sz (.slice (some ⟨g, 0, none⟩) i c) i (xs.take (i * sz)) := by
  have hm : i * sz ≤ n * sz := Nat.mul_le_mul_right _ hi
  rcases h.2 with ⟨h', _⟩ | ⟨g', cap', cur, h', hb, hg, hnc, hcm, hcs, htake⟩
  · cases h'
  · injection h' with a1 _ a3
    injection a1 with a1
    injection a1 with a1
    subst a1 a3
    refine ⟨by rw [List.length_take, h.1, Nat.min_eq_left hm], .inr ⟨g, c, cur, rfl, hb, hg, by omega, hcm, hcs, ?_⟩⟩
    rw [← htake, List.take_take, Nat.min_eq_left hm]
def GRZ (T : TypeId) (W : World) (B N2 : Nat) (v : Value) (A : List Value) (G : Value) (S : List Value) : Prop :=
  (∃ g c, v = .slice (some ⟨g, 0, none⟩) A.length c ∧ G = .slice (some ⟨g, 0, none⟩) (A ++ S).length c ∧ OWZ T W B G (A ++ S)) ∨ (OWZ T W N2 G (A ++ S) ∧ OWZ T W B v A)
theorem GRZ.start {T : TypeId} {W : World} {B N2 : Nat} {v : Value} {A : List Value} (h : OWZ T W B v A) : GRZ T W B N2 v A v [] := by
  have h0 := h
  rcases h0.2 with ⟨e, hn⟩ | ⟨g, c, _, e, _⟩
  · have hL := List.eq_nil_of_length_eq_zero hn
    subst hL e
    exact .inr ⟨World.ownsRow_nil _ _ _ _, h⟩
  · refine .inl ⟨g, c, e, ?_, ?_⟩
    · rw [List.append_nil]; exact e
    · rw [List.append_nil]; exact h
theorem GRZ.blk {T : TypeId} {W : World} {B N2 : Nat} {v G : Value} {A S : List Value} (h : GRZ T W B N2 v A G S) : G.ownBlock = v.ownBlock ∨ ∀ b, G.ownBlock = some b → N2 ≤ b := by
  rcases h with ⟨g, c, rfl, rfl, -⟩ | ⟨h, -⟩
  · exact .inl rfl
  · exact .inr (fun b e => (h.lt b e).1)
theorem GRZ.lt {T : TypeId} {W : World} {B N2 : Nat} {v G : Value} {A S : List Value} (h : GRZ T W B N2 v A G S) : (∀ b, G.ownBlock = some b → b < W.heap.size) ∧ (∀ b, v.ownBlock = some b → B ≤ b ∧ b < W.heap.size) := by
  rcases h with ⟨g, c, rfl, rfl, o⟩ | ⟨h, h2⟩
  · exact ⟨fun b e => (o.lt b e).2, fun b e => o.lt b e⟩
  · exact ⟨fun b e => (h.lt b e).2, fun b e => h2.lt b e⟩
theorem GRZ.shape {T : TypeId} {W : World} {B N2 : Nat} {v G : Value} {A S : List Value} (h : GRZ T W B N2 v A G S) : ∃ q c, G = .slice q (A ++ S).length c := by
  rcases h with ⟨g, c, rfl, rfl, o⟩ | ⟨h, h2⟩
  · exact ⟨_, _, rfl⟩
  · exact h.shape
theorem GRZ.kept {T : TypeId} {W X : World} {B N2 : Nat} {v G : Value} {A S : List Value} {row : Option Nat} (h : GRZ T W B N2 v A G S) (hg : W.grownBy X row) (h1 : offZ row v) (h2 : offZ row G) : GRZ T X B N2 v A G S := by
  rcases h with ⟨g, c, e1, e2, o⟩ | ⟨a, b⟩
  · exact .inl ⟨g, c, e1, e2, o.kept hg h2⟩
  · exact .inr ⟨a.kept hg h2, b.kept hg h1⟩
theorem GRZ.below {T : TypeId} {W X : World} {B N2 : Nat} {v G : Value} {A S : List Value} (h : GRZ T W B N2 v A G S) (hb : Below W.heap.size W X) : GRZ T X B N2 v A G S := by
  rcases h with ⟨g, c, e1, e2, o⟩ | ⟨a, b⟩
  · exact .inl ⟨g, c, e1, e2, o.below hb⟩
  · exact .inr ⟨a.below hb, b.below hb⟩
theorem OWZ.pre {T : TypeId} {W : World} {B g c : Nat} {A S : List Value} (o : OWZ T W B (.slice (some ⟨g, 0, none⟩) (A ++ S).length c) (A ++ S)) : OWZ T W B (.slice (some ⟨g, 0, none⟩) A.length c) A := by
  have h := own_cutZ (i := A.length) (by rw [List.length_append]; omega) o
  rw [Nat.mul_one, List.take_left] at h
  exact h
theorem GRZ.own {T : TypeId} {W : World} {B N2 : Nat} {v G : Value} {A S : List Value} (h : GRZ T W B N2 v A G S) (hN : B ≤ N2) : OWZ T W B v A ∧ OWZ T W B G (A ++ S) := by
  rcases h with ⟨g, c, rfl, rfl, o⟩ | ⟨a, b⟩
  · exact ⟨o.pre, o⟩
  · exact ⟨b, a.base hN⟩
theorem wpList_runZ {P : Program} {ops : Array Oper} {rest : List Oper} {o : Oper} {a : Act} {w w' : World} {Q : Exit → Act → World → Prop} {v u v' : Value} (hgd : o.guard = none) (s x : Operand) (t : TypeId) (ho : o.op = .call { callee := .builtin .append, args := #[s, x], argTypes := #[t, t] }) (hs : a.eval s = v) (hx : a.eval x = u) (hr : (Builtin.append_ #[t, t] o.type #[v, u]).run P w = .ok v' w') (h : wpList P ops Q rest (a.put o.dst v') w') : wpList P ops Q (o :: rest) a w :=
  wpList_plain hgd fun K hK => by
    unfold Oper.wp execOp
    simp only [ho, resolve, invoke, builtin, Sem.run_bind, Sem.run_pure, Result.andThen_ok, List.map_toArray, List.map_cons, List.map_nil, hs, hx, hr]
    exact hK _ _ h
theorem bel0Z {w w1 w2 : World} (h : Below w.heap.size w w1) (h2 : Below w1.heap.size w1 w2) : Below w.heap.size w w2 := h.trans (h2.mono h.size)
theorem belAZ {w w1 : World} (h : Below w.heap.size w w1) (o : Obj) : Below w.heap.size w (w1.alloc o) := h.alloc h.size o
theorem alloc_getZ (w : World) (o : Obj) : (w.alloc o).heap[w.heap.size]? = some o := by
  show (w.heap.push o)[w.heap.size]? = _
  simp
theorem shapeZ {W : World} {B n : Nat} {e : TypeId} {sz : Nat} {v : Value} {xs : List Value} (h : W.ownsRow B e sz v n xs) : ∃ p c, v = .slice p n c := by
  rcases h.2 with ⟨rfl, rfl⟩ | ⟨g, c, _, rfl, _⟩
  · exact ⟨_, _, rfl⟩
  · exact ⟨_, _, rfl⟩
theorem keepZ {W w' : World} {b : Nat} {o : Obj} (hb : Below W.heap.size W w') (h : W.heap[b]? = some o) : w'.heap[b]? = some o := (hb.block b (by
  rcases Nat.lt_or_ge b W.heap.size with h1 | h1
  · exact h1
  · rw [Array.getElem?_eq_none h1] at h; cases h)).trans h
theorem set_getZ {W : World} {b j T : Nat} {cs : Array Value} {m : Nat × Nat} (u : Value) (h : W.heap[b]? = some (.cells cs T m)) : (W.setCell ⟨b, j, none⟩ u).heap[b]? = some (.cells (cs.setIfInBounds j u) T m) := by
  simp only [World.setCell, Array.getElem?_modify, if_pos, h, Option.map_some]
  simp
theorem gr_setZ (W : World) (b j : Nat) (u : Value) : W.grownBy (W.setCell ⟨b, j, none⟩ u) (some b) := ⟨rfl, rfl, rfl, by simp, fun k _ hk => heap_setCell_other W ⟨b, j, none⟩ k u (fun e => hk (by simp [e]))⟩
theorem cellsZ {W : World} {b T : Nat} {cs : Array Value} (h : W.heap[b]? = some (.cells cs T (0, 0))) : (∀ j, W.cell? ⟨b, j, none⟩ = cs[j]?) ∧ (∀ j, W.frozen? ⟨b, j, none⟩ = false) := by
  constructor
  · intro j; unfold World.cell?; rw [h]; simp
  · intro j; unfold World.frozen?; rw [h]; simp
theorem lt_getZ {W : World} {b : Nat} {o : Obj} (h : W.heap[b]? = some o) : b < W.heap.size := by
  rcases Nat.lt_or_ge b W.heap.size with h1 | h1
  · exact h1
  · rw [Array.getElem?_eq_none h1] at h; cases h
theorem own_atZ {W : World} {B : Nat} {e : TypeId} {s g n c m : Nat} {xs : List Value} {j : Nat} {u : Value} (h : W.ownsRow B e s (.slice (some ⟨g, 0, none⟩) n c) m xs) (hu : xs[j]? = some u) : W.cell? ⟨g, j, none⟩ = some u := by
  have := World.ownsRow.cells h (g := g) rfl j u hu
  have hadd : (⟨g, 0, none⟩ : Addr).add j = ⟨g, j, none⟩ := by unfold Addr.add; split <;> simp_all
  rw [hadd] at this
  exact this
theorem own_someZ {W : World} {B : Nat} {e : TypeId} {s n c : Nat} {p : Option Addr} {m : Nat} {xs : List Value} (h : W.ownsRow B e s (.slice p n c) m xs) (hm : m ≠ 0) : ∃ g, p = some ⟨g, 0, none⟩ := by
  rcases h.2 with ⟨e, h2⟩ | ⟨g, c2, cur, e, _⟩
  · exact absurd h2 hm
  · injection e with e _ _
    exact ⟨g, e⟩
theorem appZ {T TS : TypeId} {i0 : TypeInfo} {z : Value} {s by_ : Nat} {W : World} {B nb : Nat} {v : Value} {n : Nat} {xs news : List Value} (ty : TypeId) (hu : Tryz.prog.underlying TS = some (.slice T)) (hi : Tryz.prog.info? T = some i0) (hz0 : i0.zero = some z) (hz1 : i0.size = s) (hz2 : i0.bytes = by_) (hzc : z.cells.size = s) (hs : 0 < s) (h : W.ownsRow B T s v n xs) (hB : B ≤ W.heap.size) (hl : news.length = 1 * s) (hnews : ∀ (j : Nat) (u : Value), news[j]? = some u → W.cell? ((⟨nb, 0, none⟩ : Addr).add j) = some u) (hone : ∀ u ∈ news, u.oneCell' = true) (hlen : n ≤ 100000) (hby : by_ ≤ 1000) :
    ∃ v' W', (Builtin.append_ #[TS, TS] ty #[v, .slice (some ⟨nb, 0, none⟩) 1 1]).run Tryz.prog W = .ok v' W' ∧ W'.ownsRow B T s v' (n + 1) (xs ++ news) ∧ W.grownBy W' v.ownBlock ∧ (v'.ownBlock = v.ownBlock ∨ ∀ b, v'.ownBlock = some b → W.heap.size ≤ b) := by
  have hb1 : (n + 1) * by_ ≤ 140737488355328 := Nat.le_trans (Nat.mul_le_mul (show _ ≤ 100001 by omega) hby) (by decide)
  have hml : n + 1 ≤ maxLen := by unfold maxLen; omega
  have h0 := h
  rcases h0.2 with ⟨rfl, rfl⟩ | ⟨g, c, cur, rfl, _⟩
  · have hx : xs = [] := List.eq_nil_of_length_eq_zero (by rw [h.1]; omega)
    subst hx
    obtain ⟨v', W', hr, o2, g2, -⟩ := run_append_own_at (P := Tryz.prog) W W.heap.size TS ty T i0 z s by_ hu hi hz0 hz1 hz2 hzc hs (.slice none 0 0) 0 [] (World.ownsRow_nil _ _ _ _) ⟨nb, 0, none⟩ 1 1 news hl hnews hone hml hb1 (Nat.le_refl _)
    exact ⟨v', W', hr, own_baseZ o2 hB, g2, .inr (fun b e => (World.ownsRow.lt o2 b e).1)⟩
  · by_cases room : n + 1 ≤ c
    · obtain ⟨W', hr, o2, g2⟩ := run_append_fits (P := Tryz.prog) W B TS ty T i0 s hu hi hz1 g _ c _ h ⟨nb, 0, none⟩ 1 1 news hl hnews hone room
      exact ⟨_, W', hr, o2, g2, .inl rfl⟩
    · obtain ⟨v', W', hr, o2, g2⟩ := run_append_arg_grows (P := Tryz.prog) W TS ty T i0 z s by_ hu hi hz0 hz1 hz2 hzc hs ⟨g, 0, none⟩ n c xs h.1 (World.ownsRow.cells h rfl) ⟨nb, 0, none⟩ 1 1 news hl hnews (by omega) hml hb1
      exact ⟨v', W', hr, own_baseZ o2 hB, ⟨g2.1, g2.2, g2.3, g2.4, fun k hk _ => g2.5 k hk (by simp)⟩, .inr (fun b e => (World.ownsRow.lt o2 b e).1)⟩
def BLZ (A U : World) : Prop := Below A.heap.size A U
theorem BLZ.trans {A U X : World} (h : BLZ A U) (h2 : Below U.heap.size U X) : BLZ A X := bel0Z h h2
theorem bel_drewZ {B : Nat} {w W : World} (n : Nat) (h : Below B w W) : Below B w (W.drewN n) := ⟨h.os, h.tape, h.output, h.size, h.block⟩
end Go.Proofs.YtffgkjmfeannoaaGreatDoor
