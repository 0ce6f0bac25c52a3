import Derived.Test.YtffgkjmfeannoaaGreatDoorXBC
import Derived.Test.YtffgkjmfeannoaaGreatDoorXAZ
import Derived.Deep.RegionLaw
import Derived.Deep.AppendLies
import Derived.Test.YtffgkjmfeannoaaGreatDoorXAG
namespace Go.Proofs.YtffgkjmfeannoaaGreatDoor
open Go.RowKit Go.Shelf
theorem results_cu (tmps : Array Value) (W : World) (a b c : Value) (h : tmps.getD 4 undef = a ∧ tmps.getD 5 undef = b ∧ tmps.getD 6 undef = c) : (results Tryz.f34 tmps).run Tryz.prog W = .ok (.tuple #[a, b, c]) W := by
  obtain ⟨h1, h2, h3⟩ := h
  have h1' : tmps[4]?.getD undef = a := by simpa using h1
  have h2' : tmps[5]?.getD undef = b := by simpa using h2
  have h3' : tmps[6]?.getD undef = c := by simpa using h3
  simp [results, h1', h2', h3', go_sem]
theorem ci0 (l : List UInt8) : ci l 0 = 0 := by unfold ci; simp
theorem ci_le (l : List UInt8) {j : Nat} (h : RE l j) (hj : j ≤ l.length) : ci l j ≤ j := by
  suffices ∀ (m p : Nat), j - p ≤ m → p ≤ j → RE l p → ci l j ≤ ci l p + (j - p) from by
    have := this _ 0 (Nat.le_refl _) (Nat.zero_le _) (RE.zero l)
    rw [ci0] at this
    omega
  intro m
  induction m with
  | zero =>
    intro p h1 h2 _
    rw [show p = j by omega]
    omega
  | succ m ih =>
    intro p h1 h2 h3
    rcases Nat.lt_or_ge p j with hp | hp
    · obtain ⟨s1, s2, s3⟩ := h3.step h hp hj
      have hd := dc_pos l p
      have := ih (p + (dc l p).2) (by omega) s1 s3
      omega
    · rw [show p = j by omega]
      omega
theorem tokC_kind' (l : List UInt8) (j : Nat) : (tokC l j).1 ≠ 1 := by
  unfold tokC endF
  repeat' split
  all_goals first | decide | (intro h; simp at h)
theorem tokJ_le {l : List UInt8} {j : Nat} (hj : j < l.length) : tokJ l j ≤ l.length := by
  have h1 := (tokC_le hj).2
  have h2 := (insS_le l _ (j + 1) [] (Nat.le_refl _) hj)
  unfold tokJ
  split
  · unfold quoJ
    split <;> omega
  · split <;> omega
theorem tokC_small (l : List UInt8) (j : Nat) : (tokC l j).1 ≤ 7 := by
  unfold tokC endF
  repeat' split
  all_goals simp
set_option maxRecDepth 100000 in
set_option maxHeartbeats 4000000 in
theorem refCut_any (a : List UInt8) (no : Nat) (w : World) (hs : a.length ≤ 16384) (ha : ∀ c ∈ a, c ≠ 10) (hg : SR w) :
    Calls Tryz.prog 34 #[.string ⟨a.toArray⟩, .int .i64 (no : Int)] w fun e w' =>
      ∃ v, e = .returned (.tuple #[v, .int .i64 ((textM a no []).2.1 : Int), .int .i64 ((textM a no []).2.2.2 : Int)]) ∧ w'.ownsRow w.heap.size 24 4 v (textM a no []).1.length (tcels (textM a no []).1) ∧ Below w.heap.size w w' := by
  obtain ⟨i0, hin, hz0, hz1, hz2⟩ := info_parts info_tok
  have hn : Hid (∀ j, j < a.length → kl a j ≠ 1) := noNL_of ha
  have HG : Hid (SR w) := hg
  obtain ⟨R, hR⟩ : ∃ R, textM a no [] = R := ⟨_, rfl⟩
  rw [hR]
  have hR0 : Hid (∀ f, a.length - 0 < f → runM f a 0 no 0 [] = R) := fun f hf => (runM_fuel a f (a.length + 1) 0 no 0 [] hf (by omega)).trans hR
  clear hR ha hg
  go_enter Tryz.func34, Tryz.ntmps34
  go_wp2_with fail
  go_loopw [7, 8] (fun v vi wr => ∃ (L : List Tok) (k : Nat), vi = .int .i64 k ∧ k ≤ a.length ∧ L.length ≤ k ∧ wr.ownsRow w.heap.size 24 4 v L.length (tcels L) ∧ Below w.heap.size w wr ∧ Hid (∀ f, a.length - k < f → runM f a k no 0 L = R) ∧ Hid (RE a k) ∧ Hid (∀ t ∈ L, t.1 ≠ 1)) (fun _ vi _ => a.length - (intOf vi).toNat)
  case atStart => exact ⟨[], 0, rfl, Nat.zero_le _, Nat.le_refl _, World.ownsRow_nil _ _ _ _, Below.refl _ _, hR0, RE.zero a, fun t h => by simp at h⟩
  case round =>
    clear hR0
    obtain ⟨L, k, rfl, hk, hLk, hown, hB, hRun, hre, hkind0⟩ := hrel
    have hkind : ∀ t ∈ L, t.1 ≠ 1 := hkind0.out
    by_cases hlt : k < a.length
    · have j0 : (0 : Int) ≤ (k : Int) := by omega
      have j1 : (k : Int) < (a.length : Int) := by omega
      obtain ⟨c, hc, hlc⟩ := byte_get a k hlt
      have hb := bt_of hlc
      have hk1 := hn.out k hlt
      have hk0 : kl a k ≠ 0 := fun e => kl0.1 e hlt
      have hkc : kl a k = cls (c.toNat : Int) := by rw [← hb]; exact kl_bt hlt
      by_cases c35 : c = 35
      · subst c35
        have h8 : kl a k = 8 := by rw [hkc]; rfl
        have HEND : Hid (R = (endT L no (ci a a.length + 1), 0, 0, 0)) := by
          unfold Hid
          rw [← hRun.out (a.length - k + 1) (by omega), runM_hash h8, cend_noNL hn.out _ (k + 1) (Nat.le_refl _) hlt]
          unfold lendM
          rw [if_pos (kl0.2 (by omega)), ci0]
          rfl
        clear hkc h8 hb hk1 hk0 hre hkind0
        have HCol := fun W : World => refColumn_any a a.length W (Nat.le_refl _) (by omega) (RE.len a)
        obtain ⟨col, hcol⟩ : ∃ col, ci a a.length + 1 = col := ⟨_, rfl⟩
        simp only [hcol] at HCol
        have HRes : Hid (R = (endT L no col, 0, 0, 0)) := by
          unfold Hid
          rw [HEND.out, hcol]
        by_cases hL0 : L = []
        · subst hL0
          have HR2 : Hid (R = ([], 0, 0, 0)) := HRes.out
          clear HRes HCol hcol hRun hkind
          obtain ⟨p, cp, rfl⟩ := shapeP hown
          go_wp2_with fail
          refine bodyPost_ret (results_cu _ _ _ _ _ ⟨rfl, rfl, rfl⟩) rfl ?_
          exact ⟨.slice p 0 cp, by rw [HR2.out]; rfl, by rw [HR2.out]; exact hown, hB⟩
        · obtain ⟨t0, ht0⟩ : ∃ t, L.getLast? = some t := by
            cases h : L.getLast? with
            | none => exact absurd (List.getLast?_eq_none_iff.1 h) hL0
            | some t => exact ⟨t, rfl⟩
          have hend : endT L no col = L ++ [(1, [10], no, col)] := by
            unfold endT
            rw [ht0]
            exact if_neg (hkind t0 (List.mem_of_getLast? ht0))
          have HR2 : Hid (R = (L ++ [(1, [10], no, col)], 0, 0, 0)) := by
            unfold Hid
            rw [HRes.out, hend]
          have hlp : 0 < L.length := List.length_pos_iff.2 hL0
          have hlp' : (0 : Int) < (L.length : Int) := by omega
          have hcl : col ≤ 20000 := by have := ci_le a (RE.len a) (Nat.le_refl _); omega
          have hBs := hB.size
          clear HRes hcol hRun hkind hend ht0 hL0
          obtain ⟨p, cp, rfl⟩ := shapeP hown
          go_wp2_with fail
          refine (HCol _).mono ?_
          rintro e wr ⟨rfl, rfl⟩
          go_wp2_with (at_builtin; refine wpList_append_own _ rfl _ _ 22 rfl w.heap.size 24 i0 _ 4 40 Tryz.underlying22 hin hz0 hz1 hz2 rfl (by decide) _ _ _ rfl (hown.alloc _) ⟨wr.heap.size, 0, none⟩ 1 1 (tcel (1, [10], no, col)) rfl rfl (World.news_of_block (cs := #[.int .i64 1, .string ⟨#[10]⟩, .int .i64 (no : Int), .int .i64 (col : Int)]) (t := 24) (fr := (0, 0)) (alloc_get _ _)) (by simp [tcel, Value.oneCell']) (by unfold maxLen; omega) (by omega) (by simp; omega) ?_; intro v5 w5 oB hg5 _)
          go_wp2_with fail
          refine bodyPost_ret (results_cu _ _ _ _ _ ⟨rfl, rfl, rfl⟩) rfl ?_
          refine ⟨v5, by rw [HR2.out]; rfl, ?_, (hB.alloc hB.size _).grown hg5 (by simp; have := hB.size; omega) (fun k e => (hown.lt k e).1)⟩
          rw [HR2.out, List.length_append, tcels_snoc]
          exact oB
      · have n35 : ((c.toNat : Int) == 35) = false := u8_ne (d := 35) c35
        have m35 : ((c.toNat : Int) != 35) = true := by rw [bne, n35]; rfl
        have h8 : kl a k ≠ 8 := fun e => c35 (UInt8.toNat_inj.1 (by rw [← hb, (hash_bt e).2]; rfl))
        have HBl := refBlank_any c.toNat wr
        rw [blaX_cls c.toNat_lt, ← hkc] at HBl
        by_cases h2 : kl a k = 2
        · rw [decide_eq_true h2] at HBl
          have HR2 : Hid (∀ f, a.length - (k + 1) < f → runM f a (k + 1) no 0 L = R) := fun f hf => by
            rw [← runM_blank (f := f) (hb := 0) (line := no) (D := L) h2]
            exact hRun.out (f + 1) (by omega)
          have hre2 : Hid (RE a (k + 1)) := hre.out.asc hlt (kl_asc (by omega) (by omega)).2
          clear hkc hb hk1 hk0 h8 h2 hRun hre hkind
          go_wp2_with fail
          refine HBl.mono ?_
          rintro e wr ⟨rfl, rfl⟩
          go_wp2_with fail
          go_roundw
          case rel => exact ⟨L, k + 1, by go_num, by omega, by omega, hown, hB, HR2, hre2, hkind0⟩
          case measure => simp [intOf]; omega
        · rw [decide_eq_false h2] at HBl
          have HT := refToken_any a k wr hlt hs hn.out (HG.out.below hB)
          by_cases he : tokE a k = 0
          · obtain ⟨q1, q2⟩ := tok_adv hlt hk1 he
            have hsm := tok_same he
            rw [tokR3_ok he rfl rfl] at HT
            have HCol := fun W : World => refColumn_any a k W (Nat.le_of_lt hlt) (by omega) hre.out
            have hE : (ByteArray.mk a.toArray).extract k (tokJ a k) = ⟨(subL a k (tokJ a k)).toArray⟩ := ext_sub a k (tokJ a k)
            have HR2 : Hid (∀ f, a.length - tokJ a k < f → runM f a (tokJ a k) no 0 (L ++ [((tokC a k).1, subL a k (tokJ a k), no, ci a k + 1)]) = R) := fun f hf => by
              have h9 := hRun.out (a.length + 1 + 1) (by omega)
              rw [runM_tok h2 h8 hk1 hk0 he, ci0, Nat.sub_zero, ← hsm] at h9
              rw [runM_fuel a f (a.length + 1) (tokJ a k) no 0 _ hf (by omega)]
              exact h9
            have hre2 : Hid (RE a (tokJ a k)) := hre.out.tok hlt
            have hks := tokC_small a k
            have hkn := tokC_kind' a k
            have hcl := ci_le a hre.out hk
            obtain ⟨K, hK⟩ : ∃ K, (tokC a k).1 = K := ⟨_, rfl⟩
            obtain ⟨J, hJ⟩ : ∃ J, tokJ a k = J := ⟨_, rfl⟩
            obtain ⟨T, hT⟩ : ∃ T, subL a k J = T := ⟨_, rfl⟩
            obtain ⟨col, hcol⟩ : ∃ col, ci a k + 1 = col := ⟨_, rfl⟩
            rw [hJ] at HT hE HR2 hre2 q1 q2
            rw [hK] at HT HR2 hks hkn
            rw [hT] at hE HR2
            rw [hcol] at HR2
            simp only [hcol] at HCol
            have hcl2 : col ≤ 20000 := by omega
            have j5 : (k : Int) ≤ (J : Int) := by omega
            have j6 : (J : Int) ≤ (a.length : Int) := by omega
            have hkind2 : Hid (∀ t ∈ L ++ [(K, T, no, col)], t.1 ≠ 1) := fun t ht => by
              rcases List.mem_append.1 ht with h | h
              · exact hkind t h
              · rw [List.mem_singleton.1 h]; exact hkn
            clear hkc hb hk1 hk0 h8 h2 he hRun hre hsm hK hJ hT hcol hkind hkind0 hcl hkn
            obtain ⟨p, cp, rfl⟩ := shapeP hown
            go_wp2_with fail
            refine HBl.mono ?_
            rintro e wr ⟨rfl, rfl⟩
            go_wp2_with fail
            refine HT.mono ?_
            rintro e W2 ⟨rfl, hb2⟩
            have hown2 := owns_below hown hb2
            have hB2 := bel0 hB hb2
            have hBs := hB2.size
            have hownd : W2.drew.ownsRow w.heap.size 24 4 (.slice p L.length cp) L.length (tcels L) := owns_below hown2 (Below.refl _ _).drew
            clear hown hB hb2 HT HBl
            go_wp2_with fail
            go_region_law ((first | (refine step_append_lies _ (by rfl) _ _ 22 (by rfl) w.heap.size 24 i0 _ 4 40 Tryz.underlying22 hin hz0 hz1 hz2 rfl (by decide) _ L.length (tcels L) (by rfl) (by first | exact hownd.alloc _ | exact hown2.alloc _) ⟨W2.heap.size, 0, none⟩ 1 1 (tcel (K, T, no, col)) (by rfl) rfl (World.news_of_block (cs := #[.int .i64 (K : Int), .string ⟨T.toArray⟩, .int .i64 (no : Int), .int .i64 (col : Int)]) (t := 24) (fr := (0, 0)) (heap_alloc_new _ _)) (by simp [tcel, Value.oneCell']) (by decide) (by unfold maxLen; omega) (by omega) (by simp; omega) _ rfl ?_; intro g5 c5 w5 oB hg5 _ _) | (go_simp; go_at_call 49; refine (HCol _).mono ?_; rintro e w1 ⟨rfl, rfl⟩)))
            all_goals
              go_wp2_with fail
              go_roundw
              case rel => exact ⟨L ++ [(K, T, no, col)], J, rfl, by omega, by simp; omega, by rw [List.length_append, tcels_snoc]; exact oB, (by first | exact Below.grown ((hB2.alloc hBs _).drew) hg5 (by simp; omega) (fun k e => (hown2.lt k e).1) | exact Below.grown ((hB2.drew).alloc hBs _) hg5 (by simp; omega) (fun k e => (hown2.lt k e).1)), HR2, hre2, hkind2⟩
              case measure => simp [intOf]; omega
          · have hre2 : RE a (tokJ a k) := hre.out.tok hlt
            rw [tokR3_no he rfl rfl] at HT
            have hjl : tokJ a k ≤ a.length := tokJ_le hlt
            have HCol := fun W : World => refColumn_any a (tokJ a k) W hjl (by omega) hre2
            have HR2 : Hid (R = ([], tokE a k, no, ci a (tokJ a k) + 1)) := by
              unfold Hid
              rw [← hRun.out (a.length - k + 1) (by omega), runM_err h2 h8 hk1 hk0 he, ci0]
              rfl
            obtain ⟨J, hJ⟩ : ∃ J, tokJ a k = J := ⟨_, rfl⟩
            obtain ⟨E, hE⟩ : ∃ E, tokE a k = E := ⟨_, rfl⟩
            obtain ⟨col, hcol⟩ : ∃ col, ci a J + 1 = col := ⟨_, rfl⟩
            rw [hJ, hE] at HT
            rw [hE] at he
            simp only [hJ, hcol] at HCol
            rw [hJ, hE, hcol] at HR2
            have e0 : ((E : Int) == 0) = false := by rw [beq_eq_false_iff_ne]; omega
            have e1 : ((E : Int) != 0) = true := by rw [bne, e0]; rfl
            clear hkc hb hk1 hk0 h8 h2 hRun hre hJ hE hcol hkind hkind0 hre2
            go_wp2_with fail
            refine HBl.mono ?_
            rintro e wr ⟨rfl, rfl⟩
            go_wp2_with fail
            refine HT.mono ?_
            rintro e W2 ⟨rfl, hb2⟩
            go_wp2_with fail
            refine (HCol _).mono ?_
            rintro e W2 ⟨rfl, rfl⟩
            go_wp2_with fail
            refine bodyPost_ret (results_cu _ _ _ _ _ ⟨rfl, rfl, rfl⟩) rfl ?_
            exact ⟨.slice none 0 0, by rw [HR2.out]; rfl, by rw [HR2.out]; exact World.ownsRow_nil _ _ _ _, bel0 hB hb2⟩
    · have j1 : ¬ (k : Int) < (a.length : Int) := by omega
      have HEND : Hid (R = (endT L no (ci a a.length + 1), 0, 0, 0)) := by
        unfold Hid
        have hz : kl a k = 0 := kl0.2 hlt
        rw [← hRun.out (a.length - k + 1) (by omega), runM_end (.inr hz)]
        unfold lendM
        rw [if_pos hz, ci0, show k = a.length by omega]
        rfl
      clear hre hkind0
      have HCol := fun W : World => refColumn_any a a.length W (Nat.le_refl _) (by omega) (RE.len a)
      obtain ⟨col, hcol⟩ : ∃ col, ci a a.length + 1 = col := ⟨_, rfl⟩
      simp only [hcol] at HCol
      have HRes : Hid (R = (endT L no col, 0, 0, 0)) := by
        unfold Hid
        rw [HEND.out, hcol]
      by_cases hL0 : L = []
      · subst hL0
        have HR2 : Hid (R = ([], 0, 0, 0)) := HRes.out
        clear HRes HCol hcol hRun hkind
        obtain ⟨p, cp, rfl⟩ := shapeP hown
        go_wp2_with fail
        refine bodyPost_ret (results_cu _ _ _ _ _ ⟨rfl, rfl, rfl⟩) rfl ?_
        exact ⟨.slice p 0 cp, by rw [HR2.out]; rfl, by rw [HR2.out]; exact hown, hB⟩
      · obtain ⟨t0, ht0⟩ : ∃ t, L.getLast? = some t := by
          cases h : L.getLast? with
          | none => exact absurd (List.getLast?_eq_none_iff.1 h) hL0
          | some t => exact ⟨t, rfl⟩
        have hend : endT L no col = L ++ [(1, [10], no, col)] := by
          unfold endT
          rw [ht0]
          exact if_neg (hkind t0 (List.mem_of_getLast? ht0))
        have HR2 : Hid (R = (L ++ [(1, [10], no, col)], 0, 0, 0)) := by
          unfold Hid
          rw [HRes.out, hend]
        have hlp : 0 < L.length := List.length_pos_iff.2 hL0
        have hlp' : (0 : Int) < (L.length : Int) := by omega
        have hcl : col ≤ 20000 := by have := ci_le a (RE.len a) (Nat.le_refl _); omega
        have hBs := hB.size
        clear HRes hcol hRun hkind hend ht0 hL0
        obtain ⟨p, cp, rfl⟩ := shapeP hown
        go_wp2_with fail
        refine (HCol _).mono ?_
        rintro e wr ⟨rfl, rfl⟩
        go_wp2_with (at_builtin; refine wpList_append_own _ rfl _ _ 22 rfl w.heap.size 24 i0 _ 4 40 Tryz.underlying22 hin hz0 hz1 hz2 rfl (by decide) _ _ _ rfl (hown.alloc _) ⟨wr.heap.size, 0, none⟩ 1 1 (tcel (1, [10], no, col)) rfl rfl (World.news_of_block (cs := #[.int .i64 1, .string ⟨#[10]⟩, .int .i64 (no : Int), .int .i64 (col : Int)]) (t := 24) (fr := (0, 0)) (alloc_get _ _)) (by simp [tcel, Value.oneCell']) (by unfold maxLen; omega) (by omega) (by simp; omega) ?_; intro v5 w5 oB hg5 _)
        go_wp2_with fail
        refine bodyPost_ret (results_cu _ _ _ _ _ ⟨rfl, rfl, rfl⟩) rfl ?_
        refine ⟨v5, by rw [HR2.out]; rfl, ?_, (hB.alloc hB.size _).grown hg5 (by simp; have := hB.size; omega) (fun k e => (hown.lt k e).1)⟩
        rw [HR2.out, List.length_append, tcels_snoc]
        exact oB
theorem own_le {w : World} {B e sz n : Nat} {v : Value} {xs : List Value} (h : w.ownsRow B e sz v n xs) : n ≤ maxLen := by
  rcases h.2 with hh | ⟨g, c, cur, h1, h2, h3, h4, h5, _⟩
  · rw [hh.2]; exact Nat.zero_le _
  · exact Nat.le_trans h4 h5
theorem own_at {w : World} {B e sz n c : Nat} {o : Option Addr} {xs : List Value} (h : w.ownsRow B e sz (.slice o n c) n xs) (hn : 0 < n) : ∃ g, o = some ⟨g, 0, none⟩ := by
  obtain ⟨g, cap, e⟩ := own_form h hn
  cases e
  exact ⟨g, rfl⟩
theorem line_err {a : List UInt8} (hn : noNL a) (no hb : Nat) : ∀ (f j : Nat) (D : List Tok), (runM f a j no hb D).2.1 ≠ 0 → (runM f a j no hb D).2.2.1 = no
  | 0, j, D, h => absurd rfl h
  | f + 1, j, D, h => by
    have hz : ∀ e, ¬ e < a.length → (lendM f a e no hb D).2.1 = 0 := fun e he => by
      unfold lendM
      rw [if_pos (kl0.2 he)]
    by_cases hj : j < a.length
    · have h1 := hn j hj
      have h0 : kl a j ≠ 0 := fun e => kl0.1 e hj
      by_cases h2 : kl a j = 2
      · rw [runM_blank h2] at h ⊢
        exact line_err hn no hb f _ D h
      by_cases h8 : kl a j = 8
      · rw [runM_hash h8, cend_noNL hn _ (j + 1) (Nat.le_refl _) hj] at h
        exact absurd (hz _ (by omega)) h
      by_cases he : tokE a j = 0
      · rw [runM_tok h2 h8 h1 h0 he] at h ⊢
        exact line_err hn no hb f _ _ h
      · rw [runM_err h2 h8 h1 h0 he]
    · rw [runM_end (.inr (kl0.2 hj))] at h
      exact absurd (hz _ hj) h
theorem endT_len (D : List Tok) (line col : Nat) : (endT D line col).length ≤ D.length + 1 := by
  unfold endT
  cases D.getLast? with
  | none => simp
  | some t =>
    simp only
    split <;> simp
theorem run_len (l : List UInt8) : ∀ (f j line hb : Nat) (D : List Tok), (runM f l j line hb D).1.length ≤ D.length + 2 * (l.length - j) + 1
  | 0, j, line, hb, D => by
    show D.length ≤ _
    omega
  | f + 1, j, line, hb, D => by
    have hend : ∀ e, j ≤ e → (lendM f l e line hb D).1.length ≤ D.length + 2 * (l.length - j) + 1 := fun e he => by
      have hl := endT_len D line (ci l e - ci l hb + 1)
      unfold lendM
      by_cases h0 : kl l e = 0
      · rw [if_pos h0]
        simp only
        omega
      · have hlt : e < l.length := Classical.byContradiction (fun h => h0 (kl0.2 h))
        rw [if_neg h0]
        have := run_len l f (e + 1) (line + 1) (e + 1) (endT D line (ci l e - ci l hb + 1))
        omega
    by_cases h10 : kl l j = 1 ∨ kl l j = 0
    · rw [runM_end h10]
      exact hend j (Nat.le_refl _)
    have h1 : kl l j ≠ 1 := fun e => h10 (.inl e)
    have h0 : kl l j ≠ 0 := fun e => h10 (.inr e)
    have hj : j < l.length := Classical.byContradiction (fun e => h0 (kl0.2 e))
    by_cases h2 : kl l j = 2
    · rw [runM_blank h2]
      have := run_len l f (j + 1) line hb D
      omega
    by_cases h8 : kl l j = 8
    · rw [runM_hash h8]
      have := cend_ge (l := l) _ (j + 1) (Nat.le_refl _)
      exact hend _ (by omega)
    by_cases he : tokE l j = 0
    · obtain ⟨a1, a2⟩ := tok_adv hj h1 he
      rw [runM_tok h2 h8 h1 h0 he]
      have := run_len l f (tokJ l j) line hb (D ++ [((tokC l j).1, subL l j (tokC l j).2, line, ci l j - ci l hb + 1)])
      rw [List.length_append, List.length_singleton] at this
      omega
    · rw [runM_err h2 h8 h1 h0 he]
      simp
theorem shT_zero (L : List Tok) : shT 0 L = L := by
  unfold shT
  simp
theorem text_acc {X : List Tok} (hX : ended X) (a : List UInt8) (line : Nat) : textM a line X = if (textM a line []).2.1 ≠ 0 then textM a line [] else (X ++ (textM a line []).1, (textM a line []).2) := by
  have h : runM (a.length + 1) a 0 line 0 X = shR X 0 (runM (a.length + 1) a 0 line 0 []) := by
    have h := run_shift hX a 0 (a.length + 1) 0 line 0 []
    rw [shT_zero, List.append_nil] at h
    exact h
  unfold textM
  rw [h]
  unfold shR
  rw [shT_zero]
  rfl
theorem text_done (a : List UInt8) (line : Nat) (X : List Tok) : ((textM a line X).2.1 = 0 → ended (textM a line X).1 ∧ (textM a line X).2 = (0, 0, 0)) ∧ ((textM a line X).2.1 ≠ 0 → (textM a line X).1 = []) := run_done a (a.length + 1) 0 line 0 X (by omega)
theorem text_line {T : List UInt8} {fr k no : Nat} {L : List Tok} (hfk : fr ≤ k) (hk : k ≤ T.length) (hnl : ∀ r, fr ≤ r → r < k → bt T r ≠ 10) (hend : k = T.length ∨ bt T k = 10) (hL : ended L) :
    ((textM (subL T fr k) no []).2.1 ≠ 0 → textM (T.drop fr) no L = ([], (textM (subL T fr k) no []).2.1, no, (textM (subL T fr k) no []).2.2.2)) ∧
    ((textM (subL T fr k) no []).2.1 = 0 → ended (L ++ (textM (subL T fr k) no []).1) ∧ (textM (subL T fr k) no []).2 = (0, 0, 0) ∧
      (k < T.length → textM (T.drop (k + 1)) (no + 1) (L ++ (textM (subL T fr k) no []).1) = textM (T.drop fr) no L) ∧ (¬ k < T.length → textM (T.drop fr) no L = (L ++ (textM (subL T fr k) no []).1, 0, 0, 0))) := by
  have ha : ∀ c ∈ subL T fr k, c ≠ 10 := fun c hc e => by
    obtain ⟨m, hm, rfl⟩ := List.mem_iff_getElem.1 hc
    obtain ⟨g1, g2⟩ := sub_get (List.getElem?_eq_getElem hm)
    exact hnl (fr + m) (by omega) g2 (by rw [bt_of g1, e]; rfl)
  have hsp : T.drop fr = subL T fr k ++ T.drop k := by
    unfold subL
    rw [show T.drop k = (T.drop fr).drop (k - fr) by rw [List.drop_drop, show fr + (k - fr) = k by omega], List.take_append_drop]
  have hacc := text_acc hL (subL T fr k) no
  have hdone := text_done (subL T fr k) no []
  have hdone2 := text_done (subL T fr k) no L
  have hle := line_err (noNL_of ha) no 0 ((subL T fr k).length + 1) 0 []
  have hR : textM (T.drop fr) no L = if (textM (subL T fr k) no L).2.1 ≠ 0 then textM (subL T fr k) no L else if k < T.length then textM (T.drop (k + 1)) (no + 1) (textM (subL T fr k) no L).1 else textM (subL T fr k) no L := by
    by_cases hkl : k < T.length
    · have h10 : bt T k = 10 := hend.resolve_left (by omega)
      have hd : T.drop k = 10 :: T.drop (k + 1) := by
        rw [List.drop_eq_getElem_cons hkl]
        congr 1
        exact UInt8.toNat_inj.1 (by rw [← bt_of (List.getElem?_eq_getElem hkl), h10]; rfl)
      rw [hsp, hd, text_cons ha, if_pos hkl]
    · rw [hsp, List.drop_eq_nil_of_le (by omega), List.append_nil, if_neg hkl]
      split <;> rfl
  refine ⟨fun he => ?_, fun he => ?_⟩
  · rw [if_pos he] at hacc
    rw [hR, hacc, if_pos he]
    have h1 := hdone.2 he
    have h2 : (textM (subL T fr k) no []).2.2.1 = no := hle he
    exact Prod.ext h1 (Prod.ext rfl (Prod.ext h2 rfl))
  · rw [if_neg (fun h => h he)] at hacc
    obtain ⟨d1, d2⟩ := hdone.1 he
    rw [hacc] at hdone2 hR
    obtain ⟨d3, d4⟩ := hdone2.1 he
    refine ⟨d3, d2, fun hkl => ?_, fun hkl => ?_⟩
    · rw [hR, if_neg (fun h => h he), if_pos hkl]
    · rw [hR, if_neg (fun h => h he), if_neg hkl, d2]
end Go.Proofs.YtffgkjmfeannoaaGreatDoor
