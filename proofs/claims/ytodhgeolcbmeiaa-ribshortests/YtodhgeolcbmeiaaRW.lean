import Derived.Test.YtodhgeolcbmeiaaRV
import Derived.Test.YtodhgeolcbmeiaaRT
import Derived.Deep.DeepCutAuto
namespace Go.Proofs.Ytodhgeolcbmeiaa
open Go.RowKit
theorem ivl_news {w : World} {ad : Addr} {V : List Int} (h : IRI w (some ad) V) (j : Nat) (u : Value) (hu : (iv V)[j]? = some u) : w.cell? (ad.add j) = some u := by
  unfold iv at hu
  rw [List.getElem?_map] at hu
  obtain ⟨x, hx, rfl⟩ := Option.map_eq_some_iff.1 hu
  obtain ⟨g, o0, e, hc⟩ := h w (Below.refl _ _) j x hx
  injection e with e
  subst e
  unfold Addr.add
  split
  · rename_i e
    subst e
    simpa using hc
  · exact hc
theorem ivl_one (V : List Int) : ∀ u ∈ iv V, u.oneCell' = true := fun u hu => by
  unfold iv at hu
  obtain ⟨x, -, rfl⟩ := List.mem_map.1 hu
  rfl
theorem relsl_news {w : World} {ad : Addr} {L : List IRt} (hr : IRR w (some ad) L) (j : Nat) (u : Value) (h : (rels L)[j]? = some u) : w.cell? (ad.add j) = some u := by
  cases L with
  | nil => simp [rels] at h
  | cons r L =>
    obtain ⟨g, o0, e, -⟩ := hr w (Below.refl _ _) 0 r rfl
    injection e with e
    subst e
    have := rels_news hr j u h
    unfold Addr.add
    split
    · rename_i e
      subst e
      simpa using this
    · exact this
theorem chc_next {E : List IRt} {ne i k : Nat} {x t : IRt} (hn : E.length = ne) (hk : ne - 1 - i = k) (hx : E[i]? = some x) (ht : E[k]? = some t) : (rels (chc E i)).set (i * 4 + 2) (.int .i64 t.2.2.1) = rels (chc E (i + 1)) ∧ (chc E (i + 1))[i]? = some (x.1, x.2.1, t.2.2.1, x.2.2.2) ∧ (chc E i ++ [(91, 0, 0, 0)]).set i (x.1, x.2.1, t.2.2.1, x.2.2.2) = chc E (i + 1) ++ [(91, 0, 0, 0)] ∧ (chc E i)[i]? = some x ∧ (chc E i ++ [(91, 0, 0, 0)])[i]? = some x := by
  have hi := (List.getElem?_eq_some_iff.1 hx).1
  have hl := chc_len E i
  have hxc : (chc E i)[i]? = some x := (chc_at E i i (Nat.le_refl _)).trans hx
  have e1 : chc E (i + 1) = (chc E i).set i (x.1, x.2.1, t.2.2.1, x.2.2.2) := by
    rw [chc]
    rw [show E.getD i (0, 0, 0, 0) = x by simp [List.getD, hx], hn, hk, show E.getD k (0, 0, 0, 0) = t by simp [List.getD, ht]]
  refine ⟨by rw [rels_upd2 _ _ _ _ hxc, e1], by rw [e1, List.getElem?_set_self (by omega)], by rw [e1, List.set_append_left _ _ (by omega)], hxc, ?_⟩
  rw [List.getElem?_append_left (by omega)]
  exact hxc
set_option maxRecDepth 100000 in
set_option maxHeartbeats 4000000 in
theorem ribShortests_walk (N : Int) (E : List IRt) (D : List Int) (ne nd : Nat) (oe od : Option Addr) (ce cd : Nat) (w : World) (hne : E.length = ne) (hnd : D.length = nd) (hE : IRR w oe E) (hD : IRI w od D) :
    Calls Try.prog 3 #[.int .i64 N, .slice oe ne ce, .slice od nd cd] w fun e w' => e = .returned (.bool true) ∧ Below w.heap.size w w' := by
  by_cases h60 : 60 < ne
  · have i1 : (60 : Int) < (ne : Int) := by omega
    clear hE hD
    go_enter Try.func3, Try.ntmps3
    go_wp2_with fail
    go_ret
    exact ⟨rfl, Below.refl _ _⟩
  have i1 : ¬ (60 : Int) < (ne : Int) := by omega
  by_cases k60 : 60 < nd
  · have i2 : (60 : Int) < (nd : Int) := by omega
    clear hE hD
    go_enter Try.func3, Try.ntmps3
    go_wp2_with fail
    go_ret
    exact ⟨rfl, Below.refl _ _⟩
  have i2 : ¬ (60 : Int) < (nd : Int) := by omega
  obtain ⟨i0, hi, hz0, hz1, hz2⟩ := info_parts info_ed
  obtain ⟨i8, hi8, hy0, hy1, hy2⟩ := info_parts info_int8
  have hle := rels_len E
  rw [hne] at hle
  have hli : (iv D).length = nd * 1 := by unfold iv; rw [List.length_map]; omega
  have HCP : Hid (Calls Try.prog 9 #[.slice oe ne ce] w fun e w' => ∃ g c' : Nat, e = .returned (.slice (some ⟨g, 0, none⟩) ne c') ∧ ne + 1 ≤ c' ∧ w'.ownsRow w.heap.size 34 4 (.slice (some ⟨g, 0, none⟩) (ne + 1) c') (ne + 1) (rels (E ++ [(91, 0, 0, 0)])) ∧ Below w.heap.size w w') := by
    unfold Hid
    subst hne
    exact edgesOf_any E oe ce w (by omega) hE
  have HB : Hid (∀ (K : List IRt) (W : World) (g c k d : Nat), K.length = ne → IRR W (some ⟨g, 0, none⟩) K → IRI W (some ⟨k, 0, none⟩) D → Calls Try.prog 10 #[.int .i64 N, .slice (some ⟨g, 0, none⟩) ne c, .slice (some ⟨k, 0, none⟩) nd d] W fun e w' => ∃ (A B : List Int) (va vb : Value), e = .returned (.tuple #[va, vb, .int .i64 (gfit N K D)]) ∧ shortR N K D A B ∧ w'.ownsRow W.heap.size 3 1 va A.length (iv A) ∧ w'.ownsRow W.heap.size 3 1 vb B.length (iv B) ∧ Below W.heap.size W w') := fun K W g c k d hk ir ii => bshort_any N K D _ _ c d ne nd W hk hnd ir ii
  have HQ : Hid (∀ (K : List IRt) (W : World) (o : Option Addr) (c : Nat) (A B : List Int), K.length = ne → IRR W o K → Below w.heap.size w W → shortR N K D A B → Calls Try.prog 11 #[.int .i64 N, .slice o ne c, .slice od nd cd] W fun e w' => ∃ (va vb : Value), e = .returned (.tuple #[va, vb, .int .i64 (gfit N K D)]) ∧ w'.ownsRow W.heap.size 3 1 va A.length (iv A) ∧ w'.ownsRow W.heap.size 3 1 vb B.length (iv B) ∧ Below W.heap.size W w') := fun K W o c A B hk ir hW hs => (qshort_any N K D o od c cd ne nd W hk hnd ir (hD.later hW) A B hs).mono (by
    rintro e w' ⟨B', va, vb, rfl, hs', oa, ob, hb⟩
    have eB := (shortR_uniq hs hs').2
    subst eB
    exact ⟨va, vb, rfl, oa, ob, hb⟩)
  have HS : Hid (∀ (K : List IRt) (W : World) (g c : Nat) (o : Option Addr) (c2 : Nat), K.length = ne → ne + 1 ≤ c → IRR W (some ⟨g, 0, none⟩) (K ++ [(91, 0, 0, 0)]) → IRR W o K → Calls Try.prog 14 #[.slice (some ⟨g, 0, none⟩) ne c, .slice o ne c2] W fun e w' => e = .returned (.bool true) ∧ Below W.heap.size W w') := fun K W g c o c2 hk hc ir ir2 => sameEdges_any K g c ne o c2 W hk (by omega) hc ir ir2
  have HDD : Hid (∀ (W : World) (k d : Nat), Below w.heap.size w W → IRI W (some ⟨k, 0, none⟩) D → Calls Try.prog 13 #[.slice (some ⟨k, 0, none⟩) nd d, .slice od nd cd] W fun e w' => e = .returned (.bool true) ∧ Below W.heap.size W w') := fun W k d hW ii => ints_any D _ od d cd nd W hnd (by omega) ii (hD.later hW)
  have HI : Hid (IRR w oe E) := hE
  have HJ : Hid (IRI w od D) := hD
  have HLE : Hid (E.length = ne) := hne
  have HLD : Hid (D.length = nd) := hnd
  have HLC : Hid ((chc E ne).length = ne) := by unfold Hid; rw [chc_len]; exact hne
  have HSL : Hid (∀ (K : List IRt) (A B : List Int), shortR N K D A B → A.length ≤ 16 ∧ B.length ≤ 16) := fun _ _ _ h => shortR_len h
  clear hE hD hne hnd
  go_enter Try.func3, Try.ntmps3
  go_wp2_with fail
  refine HCP.out.mono ?_
  rintro e W1 ⟨g, c', rfl, hc', hI, hb1⟩
  have HO1 : Hid (W1.ownsRow w.heap.size 34 4 (.slice (some ⟨g, 0, none⟩) (ne + 1) c') (ne + 1) (rels (E ++ [(91, 0, 0, 0)]))) := hI
  clear hI HCP
  go_upto_region 5 with fail
  go_cut [8] (fun v wc => Hid (wc.ownsRow W1.heap.size 3 1 v nd (iv D)) ∧ Below W1.heap.size W1 wc)
  case first =>
    cases od with
    | none =>
      have h0 : D = [] := by
        cases D with
        | nil => rfl
        | cons r L =>
          obtain ⟨_, _, e, -⟩ := HJ.out w (Below.refl _ _) 0 r rfl
          cases e
      have h1 : nd = 0 := by rw [← HLD.out, h0]; rfl
      clear HB HQ HS HDD HI HJ HLE HLD HLC HSL HO1
      subst h0 h1
      go_wp2_with fail
      go_meet
      exact ⟨World.ownsRow_nil _ _ _ _, Below.refl _ _⟩
    | some ad =>
      have HNW : Hid (∀ (j : Nat) (u : Value), (iv D)[j]? = some u → W1.cell? (ad.add j) = some u) := fun j u h => ivl_news (HJ.out.later hb1) j u h
      have HON : Hid (∀ u ∈ iv D, u.oneCell' = true) := ivl_one D
      obtain ⟨v0, hv0⟩ : ∃ v0, Value.slice none 0 0 = v0 := ⟨_, rfl⟩
      have oZ : W1.ownsRow W1.heap.size 3 1 v0 0 [] := by rw [← hv0]; exact World.ownsRow_nil _ _ _ _
      simp only [hv0]
      clear hv0
      go_wp2_with (at_builtin; refine wpList_append_own _ rfl _ _ 23 rfl W1.heap.size 3 i8 _ 1 8 Try.underlying23 hi8 hy0 hy1 hy2 rfl (by decide) _ 0 [] rfl oZ ad nd cd (iv D) rfl hli HNW.out HON.out (by unfold maxLen; omega) (by omega) (Nat.le_refl _) ?_; intro v5 w5 oA hg5 _)
      go_meet
      rw [Nat.zero_add, List.nil_append] at oA
      exact ⟨oA, (Below.refl _ _).grown hg5 (Nat.le_refl _) (fun k e => (oZ.lt k e).1)⟩
  case rest =>
    obtain ⟨o5, hb5⟩ := hcut
    obtain ⟨w5, rfl⟩ : ∃ w5, w5 = wc := ⟨wc, rfl⟩
    have o5' := o5.out
    go_wp2_with (at_builtin; refine wpList_append_own _ rfl _ _ 23 rfl W1.heap.size 3 i8 _ 1 8 Try.underlying23 hi8 hy0 hy1 hy2 rfl (by decide) _ _ _ rfl (o5'.alloc _) ⟨_, 0, none⟩ 1 1 [.int .i64 91] rfl rfl (World.news_of_block (cs := #[.int .i64 91]) (t := 3) (fr := (0, 0)) (alloc_get _ _)) (by simp [Value.oneCell']) (by unfold maxLen; omega) (by omega) (by have := hb5.size; simp; omega) ?_; intro v6 w6 oB hg6 _; obtain ⟨p6, c6, rfl⟩ := shapeP oB; obtain ⟨g6, rfl⟩ := rown_at oB (by omega); have hc6 := rown_cap oB; have k1 : (nd : Int) ≤ (c6 : Int) := by omega)
    have hb6 : Below W1.heap.size W1 w6 := (hb5.alloc hb5.size _).grown hg6 (by have := hb5.size; simp; omega) (fun k e => (o5'.lt k e).1)
    rw [iv_app] at oB
    have HT6 : Hid (w6.ownsRow W1.heap.size 3 1 (.slice (some ⟨g6, 0, none⟩) (nd + 1) c6) (nd + 1) (iv (D ++ [91]))) := oB
    have hB6 := bel0 hb1 hb6
    clear oB hg6 o5 o5' hb5
    obtain ⟨F, hF⟩ : ∃ F, gfit N E D = F := ⟨_, rfl⟩
    have HB6 : Hid (Calls Try.prog 10 #[.int .i64 N, .slice (some ⟨g, 0, none⟩) ne c', .slice (some ⟨g6, 0, none⟩) nd c6] w6 fun e w' => ∃ (A B : List Int) (va vb : Value), e = .returned (.tuple #[va, vb, .int .i64 F]) ∧ shortR N E D A B ∧ w'.ownsRow w6.heap.size 3 1 va A.length (iv A) ∧ w'.ownsRow w6.heap.size 3 1 vb B.length (iv B) ∧ Below w6.heap.size w6 w') := by
      have := HB.out E w6 g c' g6 c6 HLE.out ((IRR_pre (IRRe_own HO1.out)).later hb6) (IRI_pre (IRI_of HT6.out))
      rw [hF] at this
      exact this
    have HQ6 : Hid (∀ (W7 : World) (A B : List Int), Below w6.heap.size w6 W7 → shortR N E D A B → Calls Try.prog 11 #[.int .i64 N, .slice oe ne ce, .slice od nd cd] W7 fun e w' => ∃ (va vb : Value), e = .returned (.tuple #[va, vb, .int .i64 F]) ∧ w'.ownsRow W7.heap.size 3 1 va A.length (iv A) ∧ w'.ownsRow W7.heap.size 3 1 vb B.length (iv B) ∧ Below W7.heap.size W7 w') := fun W7 A B hW hs => by
      have := HQ.out E W7 oe ce A B HLE.out (IRR.later (HI.out.later hB6) hW) (bel0 hB6 hW) hs
      rw [hF] at this
      exact this
    have y1 : (F == F) = true := beq_self_eq_true F
    have y2 : (F != F) = false := by simp
    clear hF
    refine HB6.out.mono ?_
    rintro e W7 ⟨A, B, va, vb, rfl, hs, oa, ob, hb7⟩
    have HOA : Hid (W7.ownsRow w6.heap.size 3 1 va A.length (iv A) ∧ W7.ownsRow w6.heap.size 3 1 vb B.length (iv B)) := ⟨oa, ob⟩
    have HL : Hid (A.length ≤ 16 ∧ B.length ≤ 16) := HSL.out _ _ _ hs
    have HQ7 : Hid (Calls Try.prog 11 #[.int .i64 N, .slice oe ne ce, .slice od nd cd] W7 fun e w' => ∃ (va vb : Value), e = .returned (.tuple #[va, vb, .int .i64 F]) ∧ w'.ownsRow W7.heap.size 3 1 va A.length (iv A) ∧ w'.ownsRow W7.heap.size 3 1 vb B.length (iv B) ∧ Below W7.heap.size W7 w') := HQ6.out _ A B hb7 hs
    clear HB6 HQ6 hs oa ob
    go_wp2_with fail
    refine HQ7.out.mono ?_
    rintro e W8 ⟨vc, vd, rfl, oc, ox, hb8⟩
    have hT8 := bel0 hb7 hb8
    have HN1 : Hid (Calls Try.prog 13 #[va, vc] W8 fun e w' => e = .returned (.bool true) ∧ Below W8.heap.size W8 w') := ints_own HL.out.1 (owns_below HOA.out.1 hb8) oc
    have HN2 : Hid (∀ W : World, Below W8.heap.size W8 W → Calls Try.prog 13 #[vb, vd] W fun e w' => e = .returned (.bool true) ∧ Below W.heap.size W w') := fun W hW => ints_own HL.out.2 (owns_below (owns_below HOA.out.2 hb8) hW) (owns_below ox hW)
    clear HOA HL HQ7 oc ox
    go_wp2_with fail
    refine (rnum_any F _).mono ?_
    rintro e W9 ⟨rfl, rfl⟩
    go_wp2_with fail
    refine HN1.out.mono ?_
    rintro e W10 ⟨rfl, hb10⟩
    have hT10 := bel0 hT8 hb10
    clear HN1
    go_wp2_with fail
    refine (HN2.out _ hb10).mono ?_
    rintro e W11 ⟨rfl, hb11⟩
    have hT11 := bel0 hT10 hb11
    clear HN2
    have hC11 := bel0 hb6 hT11
    have hB11 := bel0 hb1 hC11
    have HSE : Hid (Calls Try.prog 14 #[.slice (some ⟨g, 0, none⟩) ne c', .slice oe ne ce] W11 fun e w' => e = .returned (.bool true) ∧ Below W11.heap.size W11 w') := HS.out E W11 g c' oe ce HLE.out hc' ((IRRe_own HO1.out).later hC11) (HI.out.later hB11)
    go_wp2_with fail
    refine HSE.out.mono ?_
    rintro e W12 ⟨rfl, hb12⟩
    have hT12 := bel0 hT11 hb12
    have hB12 := bel0 hB11 hb12
    have HDI : Hid (Calls Try.prog 13 #[.slice (some ⟨g6, 0, none⟩) nd c6, .slice od nd cd] W12 fun e w' => e = .returned (.bool true) ∧ Below W12.heap.size W12 w') := HDD.out W12 g6 c6 hB12 ((IRI_pre (IRI_of HT6.out)).later hT12)
    clear HSE HDD
    go_wp2_with fail
    refine HDI.out.mono ?_
    rintro e W13 ⟨rfl, hb13⟩
    have hT13 := bel0 hT12 hb13
    have hC13 := bel0 hb6 hT13
    have hB13 := bel0 hb1 hC13
    have HO13 : Hid (W13.ownsRow w.heap.size 34 4 (.slice (some ⟨g, 0, none⟩) (ne + 1) c') (ne + 1) (rels (E ++ [(91, 0, 0, 0)]))) := owns_below HO1.out hC13
    have HT13 : Hid (W13.ownsRow W1.heap.size 3 1 (.slice (some ⟨g6, 0, none⟩) (nd + 1) c6) (nd + 1) (iv (D ++ [91]))) := owns_below HT6.out hT13
    have HG : Hid (w.heap.size ≤ g ∧ g < W1.heap.size ∧ W1.heap.size ≤ g6 ∧ g6 < W13.heap.size) := by
      have a1 := HO1.out.lt g rfl
      have a2 := HT6.out.lt g6 rfl
      have a3 := hT13.size
      exact ⟨a1.1, a1.2, a2.1, by omega⟩
    have m9 : W13.cell? ⟨g6, nd, none⟩ = some (.int .i64 91) := iv_at HT13.out (by rw [List.getElem?_append_right (by rw [HLD.out]; exact Nat.le_refl _), HLD.out, Nat.sub_self]; rfl)
    have k2 : (nd : Int) < (nd : Int) + 1 := by omega
    have k3 : (0 : Int) ≤ (nd : Int) := by omega
    clear HDI hb7 hb8 hb10 hb11 hb12 hb13 hT8 hT10 hT11 hT12 hT13 hC11 hC13 hB11 hB12 hB6 hb6 HT6 hb1
    go_upto_region 12 with fail
    clear m9
    go_cut [15] (fun v wc => Hid (wc.ownsRow W13.heap.size 34 4 v ne (rels (E))) ∧ Below W13.heap.size W13 wc)
    case first =>
      cases oe with
      | none =>
        have h0 : E = [] := by
          cases E with
          | nil => rfl
          | cons r L =>
            obtain ⟨_, _, e, -⟩ := HI.out w (Below.refl _ _) 0 r rfl
            cases e
        have h1 : ne = 0 := by rw [← HLE.out, h0]; rfl
        clear HB HQ HS HI HJ HLE HLD HLC HSL HO1 HO13 HT13
        subst h0 h1
        go_wp2_with fail
        go_meet
        exact ⟨World.ownsRow_nil _ _ _ _, Below.refl _ _⟩
      | some ad =>
        have HNW : Hid (∀ (j : Nat) (u : Value), (rels E)[j]? = some u → W13.cell? (ad.add j) = some u) := fun j u h => relsl_news (HI.out.later hB13) j u h
        have HON : Hid (∀ u ∈ rels E, u.oneCell' = true) := rels_one
        obtain ⟨v0, hv0⟩ : ∃ v0, Value.slice none 0 0 = v0 := ⟨_, rfl⟩
        have oZ : W13.ownsRow W13.heap.size 34 4 v0 0 [] := by rw [← hv0]; exact World.ownsRow_nil _ _ _ _
        simp only [hv0]
        clear hv0
        go_wp2_with (at_builtin; refine wpList_append_own _ rfl _ _ 22 rfl W13.heap.size 34 i0 _ 4 32 Try.underlying22 hi hz0 hz1 hz2 rfl (by decide) _ 0 [] rfl oZ ad ne ce (rels E) rfl hle HNW.out HON.out (by unfold maxLen; omega) (by omega) (Nat.le_refl _) ?_; intro v5 w5 oA hg5 _)
        go_meet
        rw [Nat.zero_add, List.nil_append] at oA
        exact ⟨oA, (Below.refl _ _).grown hg5 (Nat.le_refl _) (fun k e => (oZ.lt k e).1)⟩
    case rest =>
      obtain ⟨o15, hb15⟩ := hcut
      obtain ⟨w15, rfl⟩ : ∃ w15, w15 = wc := ⟨wc, rfl⟩
      obtain ⟨q15, c15, rfl⟩ := shapeP o15.out
      have HS0 : Hid (w15.ownsRow W13.heap.size 34 4 (.slice q15 ne c15) ne (rels (chc E 0)) ∧ w15.ownsRow w.heap.size 34 4 (.slice (some ⟨g, 0, none⟩) (ne + 1) c') (ne + 1) (rels (chc E 0 ++ [(91, 0, 0, 0)])) ∧ w15.ownsRow W1.heap.size 3 1 (.slice (some ⟨g6, 0, none⟩) (nd + 1) c6) (nd + 1) (iv (D ++ [91])) ∧ Below w.heap.size w w15) := ⟨o15.out, owns_below HO13.out hb15, owns_below HT13.out hb15, bel0 hB13 hb15⟩
      clear o15 hb15 HO13 HT13 HO1 hB13
      go_wp2_with fail
      go_loopw [16] (fun vi wr => ∃ i : Nat, vi = .int .i64 (i : Int) ∧ i ≤ ne ∧ Hid (wr.ownsRow W13.heap.size 34 4 (.slice q15 ne c15) ne (rels (chc E i)) ∧ wr.ownsRow w.heap.size 34 4 (.slice (some ⟨g, 0, none⟩) (ne + 1) c') (ne + 1) (rels (chc E i ++ [(91, 0, 0, 0)])) ∧ wr.ownsRow W1.heap.size 3 1 (.slice (some ⟨g6, 0, none⟩) (nd + 1) c6) (nd + 1) (iv (D ++ [91])) ∧ Below w.heap.size w wr)) (fun vi _ => ne - (intOf vi).toNat)
      case atStart => exact ⟨0, rfl, Nat.zero_le _, HS0⟩
      case round =>
        obtain ⟨i, rfl, hin, hO⟩ := hrel
        clear HS0
        by_cases hlt : i < ne
        · have j1 : (i : Int) < (ne : Int) := by omega
          have j0 : (0 : Int) ≤ (i : Int) := by omega
          have j4 : (i : Int) < (ne : Int) + 1 := by omega
          obtain ⟨k, hk⟩ : ∃ k, ne - 1 - i = k := ⟨_, rfl⟩
          have ek : (ne : Int) - 1 - (i : Int) = (k : Int) := by omega
          have j2 : (0 : Int) ≤ (k : Int) := by omega
          have j3 : (k : Int) < (ne : Int) := by omega
          obtain ⟨t, ht⟩ : ∃ t, E[k]? = some t := ⟨_, List.getElem?_eq_getElem (by rw [HLE.out]; omega)⟩
          obtain ⟨x, hx⟩ : ∃ x, E[i]? = some x := ⟨_, List.getElem?_eq_getElem (by rw [HLE.out]; omega)⟩
          have HX := chc_next HLE.out hk hx ht
          obtain ⟨ge, o0, rfl, -, -, p2, -⟩ := HI.out wr hO.out.2.2.2 k t ht
          obtain ⟨g5, rfl⟩ := rown_at hO.out.1 (by omega)
          obtain ⟨t0, t1, t2, t3⟩ := t
          obtain ⟨x0, x1, x2, x3⟩ := x
          simp only at HX p2
          obtain ⟨hx1, hx2, hx3, hx4, hx5⟩ := HX
          have ng : g5 ≠ g ∧ g5 ≠ g6 ∧ w.heap.size ≤ g5 := by
            have b1 := (hO.out.1.lt g5 rfl).1
            have b2 := HG.out
            omega
          have ng6 : g6 ≠ g := by
            have b2 := HG.out
            omega
          have q2 := (irr_cells (IRRe_own hO.out.1) hx4 (Below.refl _ _)).2.2.1
          simp only [Nat.zero_add] at q2
          have z2 := hO.out.1.frozenAt (i * 4 + 2)
          have hst := hO.out.1.stored (i * 4 + 2) (.int .i64 t2)
          rw [hx1] at hst
          have HST : Hid ((wr.setCell ⟨g5, i * 4 + 2, none⟩ (.int .i64 t2)).ownsRow W13.heap.size 34 4 (.slice (some ⟨g5, 0, none⟩) ne c15) ne (rels (chc E (i + 1))) ∧ (wr.setCell ⟨g5, i * 4 + 2, none⟩ (.int .i64 t2)).ownsRow w.heap.size 34 4 (.slice (some ⟨g, 0, none⟩) (ne + 1) c') (ne + 1) (rels (chc E i ++ [(91, 0, 0, 0)])) ∧ (wr.setCell ⟨g5, i * 4 + 2, none⟩ (.int .i64 t2)).ownsRow W1.heap.size 3 1 (.slice (some ⟨g6, 0, none⟩) (nd + 1) c6) (nd + 1) (iv (D ++ [91])) ∧ Below w.heap.size w (wr.setCell ⟨g5, i * 4 + 2, none⟩ (.int .i64 t2))) :=
            ⟨hst.1, hO.out.2.1.kept hst.2 (.inr (fun e2 => by have e3 : g = g5 := (by injection e2); exact ng.1 e3.symm)), hO.out.2.2.1.kept hst.2 (.inr (fun e2 => by have e3 : g6 = g5 := (by injection e2); exact ng.2.1 e3.symm)), hO.out.2.2.2.grown hst.2 hO.out.2.2.2.size (fun k e => by have e3 : g5 = k := (by injection e); have e4 := ng.2.2; omega)⟩
          clear hst hx1 hx4 hx ht hO hk
          have HX2 : Hid ((chc E (i + 1))[i]? = some (x0, x1, t2, x3) ∧ (chc E i ++ [(91, 0, 0, 0)]).set i (x0, x1, t2, x3) = chc E (i + 1) ++ [(91, 0, 0, 0)] ∧ (chc E i ++ [(91, 0, 0, 0)])[i]? = some (x0, x1, x2, x3)) := ⟨hx2, hx3, hx5⟩
          clear hx2 hx3 hx5
          go_upto_region 17 with fail
          clear p2 q2 z2
          generalize wr.setCell ⟨g5, i * 4 + 2, none⟩ (.int .i64 t2) = S at HST ⊢
          obtain ⟨hs1, hs2, hs3, hs4⟩ := HST.out
          obtain ⟨q0, q1, q2, q3⟩ := irr_cells (IRRe_own hs1) HX2.out.1 (Below.refl _ _)
          obtain ⟨r0, r1, r2, r3⟩ := irr_cells (IRRe_own hs2) HX2.out.2.2 (Below.refl _ _)
          simp only [Nat.zero_add] at q0 q1 q2 q3 r0 r1 r2 r3
          have hz := fun j => hs2.frozenAt j
          have hp := putre_own (i := i) (x0, x1, t2, x3) hs2 (by rw [List.length_append, chc_len, HLE.out]; omega)
          rw [HX2.out.2.1] at hp
          have HP : Hid ((putr S g i (x0, x1, t2, x3)).ownsRow W13.heap.size 34 4 (.slice (some ⟨g5, 0, none⟩) ne c15) ne (rels (chc E (i + 1))) ∧ (putr S g i (x0, x1, t2, x3)).ownsRow w.heap.size 34 4 (.slice (some ⟨g, 0, none⟩) (ne + 1) c') (ne + 1) (rels (chc E (i + 1) ++ [(91, 0, 0, 0)])) ∧ (putr S g i (x0, x1, t2, x3)).ownsRow W1.heap.size 3 1 (.slice (some ⟨g6, 0, none⟩) (nd + 1) c6) (nd + 1) (iv (D ++ [91])) ∧ Below w.heap.size w (putr S g i (x0, x1, t2, x3))) :=
            ⟨hs1.kept hp.2 (.inr (fun e2 => by have e3 : g5 = g := (by injection e2); exact ng.1 e3)), hp.1, hs3.kept hp.2 (.inr (fun e2 => by have e3 : g6 = g := (by injection e2); exact ng6 e3)), hs4.grown hp.2 hs4.size (fun k e => by have e3 : g = k := (by injection e); have e4 := HG.out.1; omega)⟩
          clear hp hs1 hs2 hs3 hs4 HST HX2 ng ng6
          go_wp2_with fail
          go_roundw
          case rel => exact ⟨i + 1, by go_num, by omega, HP⟩
          case measure => simp [intOf]; omega
        · have j1 : ¬ (i : Int) < (ne : Int) := by omega
          have ei : i = ne := by omega
          have HO : Hid (wr.ownsRow W13.heap.size 34 4 (.slice q15 ne c15) ne (rels (chc E ne)) ∧ wr.ownsRow w.heap.size 34 4 (.slice (some ⟨g, 0, none⟩) (ne + 1) c') (ne + 1) (rels (chc E ne ++ [(91, 0, 0, 0)])) ∧ wr.ownsRow W1.heap.size 3 1 (.slice (some ⟨g6, 0, none⟩) (nd + 1) c6) (nd + 1) (iv (D ++ [91])) ∧ Below w.heap.size w wr) := by
            have hO2 := hO
            rw [ei] at hO2
            exact hO2
          clear hO ei hlt
          go_wp2_with fail
          obtain ⟨G, hF⟩ : ∃ G, gfit N (chc E ne) D = G := ⟨_, rfl⟩
          have HB6 : Hid (Calls Try.prog 10 #[.int .i64 N, .slice (some ⟨g, 0, none⟩) ne c', .slice (some ⟨g6, 0, none⟩) nd c6] wr fun e w' => ∃ (A B : List Int) (va vb : Value), e = .returned (.tuple #[va, vb, .int .i64 G]) ∧ shortR N (chc E ne) D A B ∧ w'.ownsRow wr.heap.size 3 1 va A.length (iv A) ∧ w'.ownsRow wr.heap.size 3 1 vb B.length (iv B) ∧ Below wr.heap.size wr w') := by
            have := HB.out (chc E ne) wr g c' g6 c6 HLC.out (IRR_pre (IRRe_own HO.out.2.1)) (IRI_pre (IRI_of HO.out.2.2.1))
            rw [hF] at this
            exact this
          have HQ6 : Hid (∀ (W7 : World) (A B : List Int), Below wr.heap.size wr W7 → shortR N (chc E ne) D A B → Calls Try.prog 11 #[.int .i64 N, .slice q15 ne c15, .slice od nd cd] W7 fun e w' => ∃ (va vb : Value), e = .returned (.tuple #[va, vb, .int .i64 G]) ∧ w'.ownsRow W7.heap.size 3 1 va A.length (iv A) ∧ w'.ownsRow W7.heap.size 3 1 vb B.length (iv B) ∧ Below W7.heap.size W7 w') := fun W7 A B hW hs => by
            have := HQ.out (chc E ne) W7 q15 c15 A B HLC.out (IRR.later (IRRe_of HO.out.1) hW) (bel0 HO.out.2.2.2 hW) hs
            rw [hF] at this
            exact this
          have y1z : (G == G) = true := beq_self_eq_true G
          have y2z : (G != G) = false := by simp
          clear hF
          refine HB6.out.mono ?_
          rintro e W7z ⟨A, B, va, vb, rfl, hs, oa, ob, hb7⟩
          have HOA : Hid (W7z.ownsRow wr.heap.size 3 1 va A.length (iv A) ∧ W7z.ownsRow wr.heap.size 3 1 vb B.length (iv B)) := ⟨oa, ob⟩
          have HL : Hid (A.length ≤ 16 ∧ B.length ≤ 16) := HSL.out _ _ _ hs
          have HQ7 : Hid (Calls Try.prog 11 #[.int .i64 N, .slice q15 ne c15, .slice od nd cd] W7z fun e w' => ∃ (va vb : Value), e = .returned (.tuple #[va, vb, .int .i64 G]) ∧ w'.ownsRow W7z.heap.size 3 1 va A.length (iv A) ∧ w'.ownsRow W7z.heap.size 3 1 vb B.length (iv B) ∧ Below W7z.heap.size W7z w') := HQ6.out _ A B hb7 hs
          clear HB6 HQ6 hs oa ob
          go_wp2_with fail
          refine HQ7.out.mono ?_
          rintro e W8z ⟨vc, vd, rfl, oc, ox, hb8⟩
          have hT8 := bel0 hb7 hb8
          have HN1 : Hid (Calls Try.prog 13 #[va, vc] W8z fun e w' => e = .returned (.bool true) ∧ Below W8z.heap.size W8z w') := ints_own HL.out.1 (owns_below HOA.out.1 hb8) oc
          have HN2 : Hid (∀ W : World, Below W8z.heap.size W8z W → Calls Try.prog 13 #[vb, vd] W fun e w' => e = .returned (.bool true) ∧ Below W.heap.size W w') := fun W hW => ints_own HL.out.2 (owns_below (owns_below HOA.out.2 hb8) hW) (owns_below ox hW)
          clear HOA HL HQ7 oc ox
          go_wp2_with fail
          refine (rnum_any G _).mono ?_
          rintro e W9z ⟨rfl, rfl⟩
          go_wp2_with fail
          refine HN1.out.mono ?_
          rintro e W10z ⟨rfl, hb10⟩
          have hT10 := bel0 hT8 hb10
          clear HN1
          go_wp2_with fail
          refine (HN2.out _ hb10).mono ?_
          rintro e W11z ⟨rfl, hb11⟩
          have hT11 := bel0 hT10 hb11
          clear HN2
          have HSE : Hid (Calls Try.prog 14 #[.slice (some ⟨g, 0, none⟩) ne c', .slice q15 ne c15] W11z fun e w' => e = .returned (.bool true) ∧ Below W11z.heap.size W11z w') := HS.out (chc E ne) W11z g c' q15 c15 HLC.out hc' ((IRRe_own HO.out.2.1).later hT11) ((IRRe_of HO.out.1).later hT11)
          go_wp2_with fail
          refine HSE.out.mono ?_
          rintro e W12z ⟨rfl, hb12⟩
          go_wp2_with fail
          go_ret
          exact ⟨rfl, bel0 HO.out.2.2.2 (bel0 hT11 hb12)⟩
end Go.Proofs.Ytodhgeolcbmeiaa
