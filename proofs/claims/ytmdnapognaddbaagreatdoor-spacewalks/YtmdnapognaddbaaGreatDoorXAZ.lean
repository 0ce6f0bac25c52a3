import Derived.Test.YtmdnapognaddbaaGreatDoorXAX
import Derived.Test.YtmdnapognaddbaaGreatDoorXAY
namespace Go.Proofs.YtmdnapognaddbaaGreatDoor
open Go.RowKit Go.Shelf
def DPS (w w' : World) (b : Int) (l : List UInt8) (e : Ending) : Prop := ∃ V, e = .returned (.tuple #[.agg #[.int .i64 (prB b l), V], .int .i64 (prE b l)]) ∧ RSR w' V (prT b l) ∧ Below w.heap.size w w'
theorem DPS_no {w w' : World} {b : Int} {l : List UInt8} {c : Int} (h : prE b l = c) (hc : c ≠ 0) (hb : Below w.heap.size w w') : DPS w w' b l (.returned (.tuple #[.agg #[.int .i64 0, .slice none 0 0], .int .i64 c])) := by
  have h1 : prE b l ≠ 0 := by rw [h]; exact hc
  refine ⟨.slice none 0 0, ?_, ?_, hb⟩
  · unfold prB
    rw [if_neg h1, h]
  · unfold prT
    rw [if_neg h1]
    exact RSR_nil _
theorem tcon_len (p : List UInt8) : (prts 45 p).length = 1 + (tcon p).2.length := by
  have := prts_ne 45 p
  unfold tcon
  rw [List.length_tail]
  omega
theorem tcon_step {P : List (List UInt8)} {i : Nat} {p : List UInt8} (h : P[i]? = some p) : szC ((P.take (i + 1)).map tcon) = szC ((P.take i).map tcon) + (prts 45 p).length := by
  rw [List.take_add_one, h, List.map_append, szC_append, tcon_len]
  simp [szC]
theorem okP_cub (b : Nat) (q : List UInt8) : okP b q = (cubB q && (q.length == b)) := by
  unfold okP
  congr 1
  rw [Bool.eq_iff_iff, cubB_iff, decide_eq_true_eq, refP_zero]
theorem all_upto {α : Type} {L : List α} {p : α → Bool} {n : Nat} (hn : L.length ≤ n) (h : ∀ j t, j < n → L[j]? = some t → p t = true) : L.all p = true := by
  rw [List.all_eq_true]
  intro t ht
  obtain ⟨j, hj, he⟩ := List.getElem_of_mem ht
  exact h j t (by omega) (by rw [List.getElem?_eq_getElem hj, he])
theorem far_cell {W X : World} {b : Nat} {x y u : Value} {i : Int} {q : Option Addr} {n c : Nat} {T : TypeId} {fr : Nat × Nat} {g o : Nat} {t : ByteArray} (hb : W.heap[b]? = some (.cells #[.int .i64 i, .slice q n c] T fr)) (hs : ∃ o', W.cell? ⟨g, o', none⟩ = some (.string t)) (hX : Below ((W.setCell ⟨b, 0, none⟩ x).setCell ⟨b, 1, none⟩ y).heap.size ((W.setCell ⟨b, 0, none⟩ x).setCell ⟨b, 1, none⟩ y) X) (hc : W.cell? ⟨g, o, none⟩ = some u) : X.cell? ⟨g, o, none⟩ = some u := by
  have hne : g ≠ b := fun e => by
    subst e
    obtain ⟨o', h⟩ := hs
    unfold World.cell? at h
    rw [hb] at h
    match o', h with
    | 0, h => simp at h
    | 1, h => simp at h
    | k + 2, h => simp at h
  have hg := World.block_lt_of_cell? W _ hc
  have e0 : ((W.setCell ⟨b, 0, none⟩ x).setCell ⟨b, 1, none⟩ y).heap[g]? = W.heap[g]? := (heap_setCell_other _ ⟨b, 1, none⟩ g y (fun e => hne e)).trans (heap_setCell_other _ ⟨b, 0, none⟩ g x (fun e => hne e))
  have e1 : X.heap[g]? = W.heap[g]? := (hX.block g (by simp; exact hg)).trans e0
  rw [World.cell?_of_block (a := ⟨g, o, none⟩) e1]
  exact hc
theorem RSR_store {W : World} {b : Nat} {x y V : Value} {i : Int} {q : Option Addr} {n c : Nat} {T : TypeId} {fr : Nat × Nat} {Ts : List (List UInt8 × List (List UInt8))} (hb : W.heap[b]? = some (.cells #[.int .i64 i, .slice q n c] T fr)) (h : RSR W V Ts) : RSR ((W.setCell ⟨b, 0, none⟩ x).setCell ⟨b, 1, none⟩ y) V Ts := by
  obtain ⟨Z, p, cp, h1, h2, h3, h4⟩ := h
  refine ⟨Z, p, cp, h1, h2, fun X hX k z hz => ?_, fun z hz X hX k t ht => ?_⟩
  · obtain ⟨g, o0, e, c0, c1⟩ := h3 W (Below.refl _ _) k z hz
    exact ⟨g, o0, e, far_cell hb ⟨_, c0⟩ hX c0, far_cell hb ⟨_, c0⟩ hX c1⟩
  · obtain ⟨g, o0, e, c0⟩ := h4 z hz W (Below.refl _ _) k t ht
    exact ⟨g, o0, e, far_cell hb ⟨_, c0⟩ hX c0⟩
/-- the terms that Parse has made so far -/
def DZ (W0 : World) (v : Value) (Z : List ZT) (Ts : List (List UInt8 × List (List UInt8))) (W : World) : Prop := Z.map ZT.cont = Ts ∧ W.ownsRow W0.heap.size 64 2 v Z.length (rts Z) ∧ (∀ z ∈ Z, W.ownsRow 0 9 1 (.slice z.q z.L.length z.k) z.L.length (stx z.L) ∧ z.L.length ≤ 1000000 ∧ good z.c = true ∧ ∀ t ∈ z.L, good t = true) ∧ Below W0.heap.size W0 W
theorem DZ.below {W0 W X : World} {v : Value} {Z : List ZT} {Ts : List (List UInt8 × List (List UInt8))} (h : DZ W0 v Z Ts W) (hb : Below W.heap.size W X) : DZ W0 v Z Ts X := ⟨h.1, own_belQ h.2.1 hb, fun z hz => ⟨own_belQ (h.2.2.1 z hz).1 hb, (h.2.2.1 z hz).2⟩, bel0 h.2.2.2 hb⟩
theorem own_other {W X : World} {B n sz B' n' sz' : Nat} {e e' : TypeId} {v v' : Value} {xs xs' : List Value} (h : W.ownsRow B e sz v n xs) (h' : W.ownsRow B' e' sz' v' n' xs') (hne : e ≠ e') (hg : W.grownBy X v'.ownBlock) : X.ownsRow B e sz v n xs := by
  refine ⟨h.1, ?_⟩
  rcases h.2 with h1 | ⟨g, cap, cur, h1, h2, h3, h4⟩
  · exact .inl h1
  · refine .inr ⟨g, cap, cur, h1, h2, (hg.block g (lt_of_get3 h3) (fun e2 => ?_)).trans h3, h4⟩
    rcases own_shapeQ h' with ⟨rfl, -⟩ | ⟨g', c', rfl, -, -, cur', h5⟩
    · cases e2
    · have e3 : g = g' := Option.some.inj e2
      subst e3
      rw [h3] at h5
      injection h5 with h5
      injection h5 with _ h6 _
      exact hne h6
set_option maxRecDepth 100000 in
set_option maxHeartbeats 8000000 in
theorem dParse_any (b : Int) (l : List UInt8) (w : World) (hl : l.length ≤ maxLen) : Calls Tryz.prog 21 #[.int .i64 b, .string ⟨l.toArray⟩] w fun e w' => DPS w w' b l e := by
  obtain ⟨iT, hiT, hzT0, hzT1, hzT2⟩ := info_parts info_rtm
  obtain ⟨w2, hw2⟩ : ∃ w2, w.alloc (.cells #[.int .i64 0, .slice none 0 0] 27 (0, 0)) = w2 := ⟨_, rfl⟩
  have hres : w2.heap[w.heap.size]? = some (.cells #[.int .i64 0, .slice none 0 0] 27 (0, 0)) := by rw [← hw2]; exact alloc_get _ _
  have hB0 : Below w.heap.size w w2 := by rw [← hw2]; exact belA (Below.refl _ _) _
  obtain ⟨hc0, hf0⟩ := cells_block hres
  have hts : (⟨l.toArray⟩ : ByteArray).size = l.length := by simp [ByteArray.size]
  by_cases h1 : 33024 < l.length
  · have HE : Hid (prE b l = 2) := if_pos h1
    have j1 : (33024 : Int) < (l.length : Int) := by omega
    have HF : Hid (_ = _) := set2_get (.int .i64 0) (.slice none 0 0) hres
    clear hres
    go_enter Tryz.func21, Tryz.ntmps21
    go_wp2_with fail
    refine bodyPost_ret (v := .tuple #[.agg #[.int .i64 0, .slice none 0 0], .int .i64 2]) (res_rs2 _ _ w.heap.size _ _ Tryz.results21 rfl HF.out) rfl ?_
    exact DPS_no HE.out (by decide) (bels2 hB0 (Below.refl _ _) _ _)
  · have j1 : ¬ (33024 : Int) < (l.length : Int) := by omega
    by_cases h2 : b < 1 ∨ 256 < b
    · have HE : Hid (prE b l = 1) := by unfold Hid prE; rw [if_neg h1, if_pos h2]
      rcases h2 with h2 | h2
      · have HF : Hid (_ = _) := set2_get (.int .i64 0) (.slice none 0 0) hres
        clear hres
        go_enter Tryz.func21, Tryz.ntmps21
        go_wp2_with fail
        refine bodyPost_ret (v := .tuple #[.agg #[.int .i64 0, .slice none 0 0], .int .i64 1]) (res_rs2 _ _ w.heap.size _ _ Tryz.results21 rfl HF.out) rfl ?_
        exact DPS_no HE.out (by decide) (bels2 hB0 (Below.refl _ _) _ _)
      · have h3 : ¬ b < 1 := by omega
        have HF : Hid (_ = _) := set2_get (.int .i64 0) (.slice none 0 0) hres
        clear hres
        go_enter Tryz.func21, Tryz.ntmps21
        go_wp2_with fail
        refine bodyPost_ret (v := .tuple #[.agg #[.int .i64 0, .slice none 0 0], .int .i64 1]) (res_rs2 _ _ w.heap.size _ _ Tryz.results21 rfl HF.out) rfl ?_
        exact DPS_no HE.out (by decide) (bels2 hB0 (Below.refl _ _) _ _)
    · have h3 : ¬ b < 1 := by omega
      have h4 : ¬ 256 < b := by omega
      by_cases h5 : l = [110, 111, 110, 101]
      · subst h5
        have HE : Hid (prE b [110, 111, 110, 101] = 0) := by unfold Hid prE; rw [if_neg h1, if_neg h2, if_pos rfl]
        have HF : Hid (_ = _) := set2_get (.int .i64 b) (.slice none 0 0) hres
        clear hres h2
        go_enter Tryz.func21, Tryz.ntmps21
        go_wp2_with fail
        refine bodyPost_ret (v := .tuple #[.agg #[.int .i64 b, .slice none 0 0], .int .i64 0]) (res_rs2 _ _ w.heap.size _ _ Tryz.results21 rfl HF.out) rfl ?_
        refine ⟨.slice none 0 0, ?_, ?_, bels2 hB0 (Below.refl _ _) _ _⟩
        · unfold prB
          rw [HE.out, if_pos rfl]
        · unfold prT
          rw [HE.out, if_pos rfl, if_pos rfl]
          exact RSR_nil _
      · have hn1 : (l == [110, 111, 110, 101]) = false := by rw [beq_eq_false_iff_ne]; exact h5
        obtain ⟨n, rfl⟩ : ∃ n : Nat, b = n := ⟨b.toNat, by omega⟩
        have HA : Hid (w2.heap[w.heap.size]? = some (.cells #[.int .i64 0, .slice none 0 0] 27 (0, 0)) ∧ Below w.heap.size w w2) := ⟨hres, hB0⟩
        have HEQ : Hid (prE (n : Int) l = if (prts 43 l).all (okT n) = false then 20 else if 128 < szC ((prts 43 l).map tcon) then 3 else 0) := by
          unfold Hid prE
          rw [if_neg h1, if_neg h2, if_neg h5]
          rfl
        have H5 : Hid (¬ l = [110, 111, 110, 101]) := h5
        have HCU : Hid (Calls Tryz.prog 46 #[.string ⟨l.toArray⟩, .int .u8 43] w2 fun e w' => ∃ v, e = .returned v ∧ w'.ownsRow w2.heap.size 9 1 v (prts 43 l).length (stx (prts 43 l)) ∧ Below w2.heap.size w2 w') := cut_any l 43 w2 (by omega)
        have HPS : Hid (∀ p ∈ prts 43 l, p.length ≤ 40000) := prts_sub 43 40000 l (by omega)
        have HPL : Hid ((prts 43 l).length ≤ 40001) := prts_len 43 40000 l (by omega)
        obtain ⟨P, hP⟩ : ∃ P, prts 43 l = P := ⟨_, rfl⟩
        have HPP : Hid (prts 43 l = P) := hP
        rw [hP] at HEQ HCU HPS HPL
        clear hres h2 h5 hB0 hP
        go_enter Tryz.func21, Tryz.ntmps21
        go_wp2_with fail
        refine HCU.out.mono ?_
        rintro e W1 ⟨vL, rfl, oL, hb1⟩
        obtain ⟨pL, cL, rfl⟩ := shapeQ1 oL
        obtain ⟨np, hnp⟩ : ∃ np, P.length = np := ⟨_, rfl⟩
        rw [hnp] at oL HPL ⊢
        have HNP : Hid (P.length = np) := hnp
        have hpl := HPL.out
        have HIR : Hid (IRSt W1 pL P) := IRSt_own oL hnp
        have HB1 : Hid (Below w2.heap.size w2 W1) := hb1
        clear hnp oL hb1 HCU hw2 hc0 hf0 hn1
        go_wp2_with fail
        go_loopw [6, 8] (fun v6 v8 wr => ∃ i : Nat, v6 = .int .i64 (szC ((P.take i).map tcon) : Int) ∧ v8 = .int .i64 i ∧ i ≤ np ∧ szC ((P.take i).map tcon) ≤ i * 40001 ∧ Hid (∀ j p, j < i → P[j]? = some p → okT n p = true) ∧ Below W1.heap.size W1 wr) (fun _ v8 _ => np - (intOf v8).toNat)
        case atStart => exact ⟨0, rfl, rfl, Nat.zero_le _, Nat.zero_le _, fun j p h => by omega, Below.refl _ _⟩
        case round =>
          obtain ⟨i, rfl, rfl, hi, hsz, HOKS, hB⟩ := hrel
          by_cases hlt : i < np
          · have i1 : (i : Int) < (np : Int) := by omega
            have i0 : (0 : Int) ≤ (i : Int) := by omega
            obtain ⟨p, hp⟩ : ∃ p, P[i]? = some p := ⟨_, List.getElem?_eq_getElem (by rw [HNP.out]; exact hlt)⟩
            obtain ⟨g, o0, rfl, hc⟩ := HIR.out wr hB i p hp
            have hpl2 := HPS.out p (List.mem_of_getElem? hp)
            have HCP : Hid (∀ W, Calls Tryz.prog 46 #[.string ⟨p.toArray⟩, .int .u8 45] W fun e w' => ∃ v, e = .returned v ∧ w'.ownsRow W.heap.size 9 1 v (prts 45 p).length (stx (prts 45 p)) ∧ Below W.heap.size W w') := fun W => cut_any p 45 W hpl2
            have HST : Hid (szC ((P.take (i + 1)).map tcon) = szC ((P.take i).map tcon) + (prts 45 p).length) := tcon_step hp
            have HQL : Hid (∀ q ∈ prts 45 p, q.length ≤ 40000) := prts_sub 45 40000 p hpl2
            have hql := prts_len 45 40000 p hpl2
            have HPI : Hid (P[i]? = some p) := hp
            have HOT : Hid (okT n p = (prts 45 p).all (okP n)) := rfl
            obtain ⟨A, hA⟩ : ∃ A, szC ((P.take i).map tcon) = A := ⟨_, rfl⟩
            obtain ⟨Q, hQ⟩ : ∃ Q, prts 45 p = Q := ⟨_, rfl⟩
            rw [hA] at HST hsz ⊢
            rw [hQ] at HCP HST HQL hql HOT
            obtain ⟨nq, hnq⟩ : ∃ nq, Q.length = nq := ⟨_, rfl⟩
            rw [hnq] at HCP HST hql
            have HNQ : Hid (Q.length = nq) := hnq
            clear hp hA hQ hnq hpl2
            go_wp2_with fail
            refine (HCP.out _).mono ?_
            rintro e W2 ⟨vQ, rfl, oQ, hb2⟩
            obtain ⟨pQ, cQ, rfl⟩ := shapeQ1 oQ
            have hB2 := bel0 hB hb2
            have HIQ : Hid (IRSt W2 pQ Q) := IRSt_own oQ HNQ.out
            have HB2 : Hid (Below W1.heap.size W1 W2) := hB2
            clear oQ hb2 hB hc HCP hB2
            go_wp2_with fail
            go_loopw [10] (fun v10 ws => ∃ j : Nat, v10 = .int .i64 j ∧ j ≤ nq ∧ Hid (∀ r q, r < j → Q[r]? = some q → okP n q = true) ∧ Below W2.heap.size W2 ws) (fun v10 _ => nq - (intOf v10).toNat)
            case atStart => exact ⟨0, rfl, Nat.zero_le _, fun r q h => by omega, Below.refl _ _⟩
            case round =>
              obtain ⟨j, rfl, hj, HJ, hBj⟩ := hrel
              by_cases hlj : j < nq
              · have j1' : (j : Int) < (nq : Int) := by omega
                have j0 : (0 : Int) ≤ (j : Int) := by omega
                obtain ⟨q, hq⟩ : ∃ q, Q[j]? = some q := ⟨_, List.getElem?_eq_getElem (by rw [HNQ.out]; exact hlj)⟩
                obtain ⟨g2, o2, rfl, hc2⟩ := HIQ.out wr hBj j q hq
                have hqL := HQL.out q (List.mem_of_getElem? hq)
                have hqs : (⟨q.toArray⟩ : ByteArray).size = q.length := by simp [ByteArray.size]
                have HCB : Hid (∀ W, Calls Tryz.prog 47 #[.string ⟨q.toArray⟩] W fun e w' => e = .returned (.bool (cubB q)) ∧ Below W.heap.size W w') := fun W => dCube_any ⟨q.toArray⟩ W (by rw [hqs]; unfold maxLen; omega)
                have HOQ : Hid (okP n q = (cubB q && (q.length == n))) := okP_cub n q
                have HQJ : Hid (Q[j]? = some q) := hq
                have HBAD : Hid (okP n q = false → prE (n : Int) l = 20) := fun h => by
                  have h1 : okT n p = false := by rw [HOT.out, List.all_eq_false]; exact ⟨q, List.mem_of_getElem? HQJ.out, by rw [h]; simp⟩
                  have h2 : P.all (okT n) = false := by rw [List.all_eq_false]; exact ⟨p, List.mem_of_getElem? HPI.out, by rw [h1]; simp⟩
                  rw [HEQ.out, if_pos h2]
                have HRB : Hid (∀ W, Below W2.heap.size W2 W → W.heap[w.heap.size]? = some (.cells #[.int .i64 0, .slice none 0 0] 27 (0, 0)) ∧ Below w2.heap.size w2 W) := fun W hW => ⟨keepblk3 (bel0 HB1.out (bel0 HB2.out hW)) HA.out.1, bel0 HB1.out (bel0 HB2.out hW)⟩
                clear hq
                by_cases hlen : q.length = n
                · have n1 : ((q.length : Int) != (n : Int)) = false := by rw [hlen]; simp
                  cases hcb : cubB q with
                  | true =>
                    have HY : Hid (cubB q = true) := hcb
                    have HJ2 : Hid (∀ r u, r < j + 1 → Q[r]? = some u → okP n u = true) := fun r u hr hu => by
                      by_cases e : r = j
                      · subst e
                        rw [HQJ.out] at hu
                        obtain rfl := Option.some.inj hu
                        rw [HOQ.out, hcb, hlen]
                        simp
                      · exact HJ.out r u (by omega) hu
                    clear hcb HBAD HOQ HJ HQJ HRB
                    go_wp2_with fail
                    refine (HCB.out _).mono ?_
                    rintro e W3 ⟨rfl, hb3⟩
                    rw [HY.out]
                    go_wp2_with fail
                    go_roundw
                    case rel => exact ⟨j + 1, by go_num, by omega, HJ2, bel0 hBj hb3⟩
                    case measure => simp [intOf]; omega
                  | false =>
                    have HY : Hid (cubB q = false) := hcb
                    have HE : Hid (prE (n : Int) l = 20) := HBAD.out (by rw [HOQ.out, hcb]; rfl)
                    clear hcb HBAD HOQ HJ HQJ
                    go_wp2_with fail
                    refine (HCB.out _).mono ?_
                    rintro e W3 ⟨rfl, hb3⟩
                    rw [HY.out]
                    obtain ⟨hres, hBw⟩ := HRB.out W3 (bel0 hBj hb3)
                    obtain ⟨hcR, hfR⟩ := cells_block hres
                    have HF : Hid (_ = _) := set2_get (.int .i64 0) (.slice none 0 0) hres
                    clear hres
                    go_wp2_with fail
                    refine bodyPost_ret (v := .tuple #[.agg #[.int .i64 0, .slice none 0 0], .int .i64 20]) (res_rs2 _ _ w.heap.size _ _ Tryz.results21 rfl HF.out) rfl ?_
                    exact DPS_no HE.out (by decide) (bels2 HA.out.2 hBw _ _)
                · have n1 : ((q.length : Int) != (n : Int)) = true := by rw [bne_iff_ne]; omega
                  have HE : Hid (prE (n : Int) l = 20) := HBAD.out (by rw [HOQ.out]; simp [hlen])
                  obtain ⟨hres, hBw⟩ := HRB.out wr hBj
                  obtain ⟨hcR, hfR⟩ := cells_block hres
                  have HF : Hid (_ = _) := set2_get (.int .i64 0) (.slice none 0 0) hres
                  clear hres HBAD HOQ HJ HQJ HRB
                  go_wp2_with fail
                  refine bodyPost_ret (v := .tuple #[.agg #[.int .i64 0, .slice none 0 0], .int .i64 20]) (res_rs2 _ _ w.heap.size _ _ Tryz.results21 rfl HF.out) rfl ?_
                  exact DPS_no HE.out (by decide) (bels2 HA.out.2 hBw _ _)
              · have j1' : ¬ (j : Int) < (nq : Int) := by omega
                have HOK2 : Hid (∀ r u, r < i + 1 → P[r]? = some u → okT n u = true) := fun r u hr hu => by
                  by_cases e : r = i
                  · subst e
                    rw [HPI.out] at hu
                    obtain rfl := Option.some.inj hu
                    rw [HOT.out]
                    exact all_upto (by rw [HNQ.out]; omega) HJ.out
                  · exact HOKS.out r u (by omega) hu
                have hBn := bel0 HB2.out hBj
                have hst := HST.out
                clear HJ
                go_wp2_with fail
                go_roundw
                case rel => exact ⟨i + 1, by rw [HST.out]; go_num, by go_num, by omega, by omega, HOK2, hBn⟩
                case measure => simp [intOf]; omega
          · have i1 : ¬ (i : Int) < (np : Int) := by omega
            have e : P.take i = P := List.take_of_length_le (by rw [HNP.out]; omega)
            rw [e] at hsz ⊢
            clear e
            have HALL : Hid (P.all (okT n) = true) := all_upto (by rw [HNP.out]; omega) HOKS.out
            have HSE : Hid (prE (n : Int) l = if 128 < szC (P.map tcon) then 3 else 0) := by
              unfold Hid
              rw [HEQ.out, if_neg (by rw [HALL.out]; simp)]
            obtain ⟨A, hA⟩ : ∃ A, szC (P.map tcon) = A := ⟨_, rfl⟩
            rw [hA] at HSE hsz ⊢
            have HA2 : Hid (szC (P.map tcon) = A) := hA
            have HRB : Hid (∀ W, Below W1.heap.size W1 W → W.heap[w.heap.size]? = some (.cells #[.int .i64 0, .slice none 0 0] 27 (0, 0)) ∧ Below w2.heap.size w2 W) := fun W hW => ⟨keepblk3 (bel0 HB1.out hW) HA.out.1, bel0 HB1.out hW⟩
            clear hA HOKS HEQ
            by_cases h6 : 128 < A
            · have j6 : (128 : Int) < (A : Int) := by omega
              have HE : Hid (prE (n : Int) l = 3) := by unfold Hid; rw [HSE.out, if_pos h6]
              obtain ⟨hres, hBw⟩ := HRB.out wr hB
              obtain ⟨hcR, hfR⟩ := cells_block hres
              have HF : Hid (_ = _) := set2_get (.int .i64 0) (.slice none 0 0) hres
              clear hres
              go_wp2_with fail
              refine bodyPost_ret (v := .tuple #[.agg #[.int .i64 0, .slice none 0 0], .int .i64 3]) (res_rs2 _ _ w.heap.size _ _ Tryz.results21 rfl HF.out) rfl ?_
              exact DPS_no HE.out (by decide) (bels2 HA.out.2 hBw _ _)
            · have j6 : ¬ (128 : Int) < (A : Int) := by omega
              have HE : Hid (prE (n : Int) l = 0) := by unfold Hid; rw [HSE.out, if_neg h6]
              have HB3 : Hid (Below W1.heap.size W1 wr) := hB
              obtain ⟨W4, hW4⟩ : ∃ W4, W4 = wr := ⟨_, rfl⟩
              subst hW4
              go_wp2_with fail
              go_loopw [11, 12] (fun v11 v12 ws => ∃ (k : Nat) (Z : List ZT), v12 = .int .i64 k ∧ k ≤ np ∧ Z.length ≤ k ∧ Hid (DZ W4 v11 Z (stD ((P.take k).map tcon)) ws)) (fun _ v12 _ => np - (intOf v12).toNat)
              case atStart => exact ⟨0, [], rfl, Nat.zero_le _, Nat.zero_le _, rfl, World.ownsRow_nil _ _ _ _, (fun z h => by cases h), Below.refl _ _⟩
              case round =>
                clear hB j6 h6 hsz
                obtain ⟨k, Z, rfl, hk, hZk, HD⟩ := hrel
                by_cases hlk : k < np
                · have k1 : (k : Int) < (np : Int) := by omega
                  have k0 : (0 : Int) ≤ (k : Int) := by omega
                  obtain ⟨p, hp⟩ : ∃ p, P[k]? = some p := ⟨_, List.getElem?_eq_getElem (by rw [HNP.out]; exact hlk)⟩
                  obtain ⟨g, o0, rfl, hc⟩ := HIR.out wr (bel0 HB3.out HD.out.2.2.2) k p hp
                  have hpl2 := HPS.out p (List.mem_of_getElem? hp)
                  have HCP : Hid (∀ W, Calls Tryz.prog 46 #[.string ⟨p.toArray⟩, .int .u8 45] W fun e w' => ∃ v, e = .returned v ∧ w'.ownsRow W.heap.size 9 1 v (prts 45 p).length (stx (prts 45 p)) ∧ Below W.heap.size W w') := fun W => cut_any p 45 W hpl2
                  have hql := prts_len 45 40000 p hpl2
                  have HOT : Hid (∀ q ∈ prts 45 p, good q = true) := fun q hq => by
                    have h1 := List.all_eq_true.1 HALL.out p (List.mem_of_getElem? hp)
                    have h2 := List.all_eq_true.1 h1 q hq
                    rw [okP_cub] at h2
                    exact ((cubB_iff q).1 (Bool.and_eq_true_iff.1 h2).1).2
                  have HST : Hid (stD ((P.take (k + 1)).map tcon) = stD ((P.take k).map tcon) ++ (match setO (tcon p).1 (tcon p).2 with | none => [] | some R => [((tcon p).1, srtT R)])) := by
                    unfold Hid
                    rw [List.take_add_one, hp, List.map_append]
                    unfold stD
                    rw [List.filterMap_append]
                    congr 1
                    cases hs : setO (tcon p).1 (tcon p).2 <;> simp [hs]
                  obtain ⟨c0, cr, hQ⟩ : ∃ c0 cr, prts 45 p = c0 :: cr := by
                    have := prts_ne 45 p
                    cases h : prts 45 p with
                    | nil => rw [h] at this; exact absurd this (by simp)
                    | cons x y => exact ⟨x, y, rfl⟩
                  have htc : tcon p = (c0, cr) := by unfold tcon; rw [hQ]; rfl
                  rw [htc] at HST
                  rw [hQ] at HCP hql HOT
                  clear hp hQ htc hpl2
                  go_wp2_with fail
                  refine (HCP.out _).mono ?_
                  rintro e W5 ⟨vQ, rfl, oQ, hb5⟩
                  obtain ⟨gq, C, rfl⟩ : ∃ gq C, vQ = .slice (some ⟨gq, 0, none⟩) (c0 :: cr).length C := by
                    rcases own_shapeQ oQ with ⟨e, h0⟩ | ⟨gq, c2, e, -⟩
                    · exact absurd h0 (by simp)
                    · exact ⟨gq, c2, e⟩
                  obtain ⟨nq, hnq⟩ : ∃ nq, (c0 :: cr).length = nq := ⟨_, rfl⟩
                  have HNQ : Hid (cr.length + 1 = nq) := hnq
                  have hqC := own_capQ oQ
                  rw [hnq] at oQ hqC hql ⊢
                  have n0 : (0 : Int) < (nq : Int) := by have := HNQ.out; omega
                  have n1 : (1 : Int) ≤ (nq : Int) := by omega
                  have n2 : 0 < nq := by omega
                  have n3 : 1 ≤ nq := by omega
                  have HIQ : Hid (IRSt W5 (some ⟨gq, 0, none⟩) (c0 :: cr)) := IRSt_own oQ hnq
                  have HS1 : Hid (IRSt W5 (if C = 1 then some ⟨gq, 0, none⟩ else some ⟨gq, 1, none⟩) cr) := fun X hX j t ht => by
                    obtain ⟨g', o', e, h⟩ := HIQ.out X hX (j + 1) t (by rw [List.getElem?_cons_succ]; exact ht)
                    injection e with e
                    injection e with e1 e2 _
                    subst e1
                    subst e2
                    have hC1 : C ≠ 1 := by
                      have := (List.getElem?_eq_some_iff.1 ht).1
                      have := HNQ.out
                      omega
                    refine ⟨gq, 1, if_neg hC1, ?_⟩
                    rw [show 1 + j = 0 + (j + 1) from by omega]
                    exact h
                  have HC0 : Hid (∀ W, Below W5.heap.size W5 W → W.cell? ⟨gq, 0, none⟩ = some (.string ⟨c0.toArray⟩)) := fun W hW => by
                    obtain ⟨g', o', e, h⟩ := HIQ.out W hW 0 c0 rfl
                    injection e with e
                    injection e with e1 e2 _
                    subst e1
                    subst e2
                    exact h
                  have HTE : Hid (∀ W, Below W5.heap.size W5 W → Calls Tryz.prog 48 #[.string ⟨c0.toArray⟩, .slice (if C = 1 then some ⟨gq, 0, none⟩ else some ⟨gq, 1, none⟩) (nq - 1) (C - 1)] W fun e w' => Below W.heap.size W w' ∧ ((setO c0 cr = none ∧ e = .returned (.tuple #[.agg #[.string ⟨#[]⟩, .slice none 0 0], .bool false])) ∨ ∃ R v, setO c0 cr = some R ∧ e = .returned (.tuple #[.agg #[.string ⟨c0.toArray⟩, v], .bool true]) ∧ w'.ownsRow W.heap.size 9 1 v R.length (stx (srtT R)))) := fun W hW => term_any c0 cr (nq - 1) _ (C - 1) W (by have := HNQ.out; omega) (by omega) (HOT.out _ List.mem_cons_self) (fun t ht => HOT.out _ (List.mem_cons_of_mem _ ht)) (HS1.out.later hW)
                  obtain ⟨q1, hq1⟩ : ∃ q1 : Option Addr, (if C = 1 then some ⟨gq, 0, none⟩ else some ⟨gq, 1, none⟩) = q1 := ⟨_, rfl⟩
                  rw [hq1] at HTE
                  have HB5 : Hid (Below wr.heap.size wr W5) := hb5
                  have hk0 := HC0.out W5 (Below.refl _ _)
                  have hk0d : W5.drew.cell? ⟨gq, 0, none⟩ = some (.string ⟨c0.toArray⟩) := hk0
                  clear hnq oQ hb5 HCP hc hqC HIQ HS1
                  cases hso : setO c0 cr with
                  | none =>
                    have HST2 : Hid (stD ((P.take (k + 1)).map tcon) = stD ((P.take k).map tcon)) := by
                      unfold Hid
                      rw [HST.out, hso]
                      simp
                    have HT2 : Hid (∀ W, Below W5.heap.size W5 W → Calls Tryz.prog 48 #[.string ⟨c0.toArray⟩, .slice q1 (nq - 1) (C - 1)] W fun e w' => e = .returned (.tuple #[.agg #[.string ⟨#[]⟩, .slice none 0 0], .bool false]) ∧ Below W.heap.size W w') := fun W hW => (HTE.out W hW).mono (fun e w' h => ⟨(h.2.resolve_right (fun ⟨R, v, hR, _⟩ => by rw [hso] at hR; cases hR)).2, h.1⟩)
                    clear HTE hso HST
                    go_upto_region 26 with fail
                    go_region_held3 (fun W => W.cell? ⟨gq, 0, none⟩ = some (.string ⟨c0.toArray⟩)) (first | with_reducible exact hk0 | with_reducible exact hk0d | with_reducible exact hk6 | with_reducible exact hk7 _ | with_reducible exact hk8 _ _ | go_keep) (first | (go_at_call 48; refine (HT2.out _ (by first | exact Below.refl _ _ | exact (Below.refl _ _).drew | exact (belA (Below.refl _ _) _).drew)).mono ?_; rintro e w6 ⟨rfl, hb6⟩; have hb6' : Below W5.heap.size W5 w6 := (by first | exact hb6 | exact und hb6 | exact bel0 (belA (Below.refl _ _) _) (und hb6)); (first | (have ht6 := keepblk3 (und hb6) (alloc_get W5 _); obtain ⟨hct6, hft6⟩ := cells_block ht6) | skip); have hk6 := HC0.out w6 hb6'; have hk7 := fun o => HC0.out (w6.alloc o) (belA hb6' o); have hk8 := fun x y => HC0.out ((w6.setCell ⟨W5.heap.size, 0, none⟩ x).setCell ⟨W5.heap.size, 1, none⟩ y) ((hb6'.setCell (p := ⟨W5.heap.size, 0, none⟩) (Nat.le_refl _) _).setCell (p := ⟨W5.heap.size, 1, none⟩) (Nat.le_refl _) _)))
                    · have hBX := bel0 HB5.out (belA hb6' (.cells #[.string ⟨#[]⟩, .slice none 0 0] 64 (0, 0)))
                      go_wp2_with fail
                      go_roundw
                      case rel => exact ⟨k + 1, Z, by go_num, by omega, by omega, by unfold Hid; rw [HST2.out]; exact HD.out.below hBX⟩
                      case measure => simp [intOf]; omega
                    · have hBX := bel0 HB5.out ((hb6'.setCell (p := ⟨W5.heap.size, 0, none⟩) (Nat.le_refl _) (.string ⟨#[]⟩)).setCell (p := ⟨W5.heap.size, 1, none⟩) (Nat.le_refl _) (.slice none 0 0))
                      go_wp2_with fail
                      go_roundw
                      case rel => exact ⟨k + 1, Z, by go_num, by omega, by omega, by unfold Hid; rw [HST2.out]; exact HD.out.below hBX⟩
                      case measure => simp [intOf]; omega
                  | some R =>
                    obtain ⟨S, hS⟩ : ∃ S, srtT R = S := ⟨_, rfl⟩
                    obtain ⟨nS, hnS⟩ : ∃ nS, R.length = nS := ⟨_, rfl⟩
                    have HSL : Hid (S.length = nS) := by unfold Hid; rw [← hS, srtT_len, hnS]
                    have hnS2 : nS ≤ 1000000 := by
                      have h1 := setO_len hso
                      have h2 := HNQ.out
                      omega
                    have HSG : Hid (good c0 = true ∧ ∀ t ∈ S, good t = true) := ⟨HOT.out _ List.mem_cons_self, fun t ht => by
                      rw [← hS] at ht
                      have h1 := (srtT_perm R).mem_iff.1 ht
                      have h2 := (put_some hso).1
                      have h3 : t ∈ putL (lesL c0 cr) := by rw [h2]; exact (srtT_perm R).mem_iff.2 h1
                      exact lesL_good (HOT.out _ List.mem_cons_self) (fun m hm => HOT.out _ (List.mem_cons_of_mem _ hm)) t (putL_mem h3)⟩
                    have HST2 : Hid (stD ((P.take (k + 1)).map tcon) = stD ((P.take k).map tcon) ++ [(c0, S)]) := by
                      unfold Hid
                      rw [HST.out, hso, ← hS]
                    have HT2 : Hid (∀ W, Below W5.heap.size W5 W → Calls Tryz.prog 48 #[.string ⟨c0.toArray⟩, .slice q1 (nq - 1) (C - 1)] W fun e w' => ∃ pv cv, e = .returned (.tuple #[.agg #[.string ⟨c0.toArray⟩, .slice pv nS cv], .bool true]) ∧ Below W.heap.size W w' ∧ w'.ownsRow W.heap.size 9 1 (.slice pv nS cv) nS (stx S)) := fun W hW => (HTE.out W hW).mono (fun e w' h => by
                      rcases h with ⟨h1, ⟨h2, _⟩ | ⟨R2, v, h2, h3, h4⟩⟩
                      · rw [hso] at h2; cases h2
                      · rw [hso] at h2
                        obtain rfl := Option.some.inj h2
                        rw [hnS, hS] at h4
                        obtain ⟨pv, cv, rfl⟩ := shapeQ1 h4
                        exact ⟨pv, cv, h3, h1, h4⟩)
                    clear HTE hso HST hS hnS
                    go_upto_region 26 with fail
                    go_region_held3 (fun W => W.cell? ⟨gq, 0, none⟩ = some (.string ⟨c0.toArray⟩)) (first | with_reducible exact hk0 | with_reducible exact hk0d | with_reducible exact hk6 | with_reducible exact hk7 _ | with_reducible exact hk8 _ _ | go_keep) (first | (go_at_call 48; refine (HT2.out _ (by first | exact Below.refl _ _ | exact (Below.refl _ _).drew | exact (belA (Below.refl _ _) _).drew)).mono ?_; rintro e w6 ⟨pv, cv, rfl, hb6, o6⟩; have hb6' : Below W5.heap.size W5 w6 := (by first | exact hb6 | exact und hb6 | exact bel0 (belA (Below.refl _ _) _) (und hb6)); (first | (have ht6 := keepblk3 (und hb6) (alloc_get W5 _); obtain ⟨hct6, hft6⟩ := cells_block ht6) | skip); have hk6 := HC0.out w6 hb6'; have hk7 := fun o => HC0.out (w6.alloc o) (belA hb6' o); have hk8 := fun x y => HC0.out ((w6.setCell ⟨W5.heap.size, 0, none⟩ x).setCell ⟨W5.heap.size, 1, none⟩ y) ((hb6'.setCell (p := ⟨W5.heap.size, 0, none⟩) (Nat.le_refl _) _).setCell (p := ⟨W5.heap.size, 1, none⟩) (Nat.le_refl _) _)))
                    · have hT : (w6.alloc (.cells #[.string ⟨c0.toArray⟩, .slice pv nS cv] 64 (0, 0))).heap[w6.heap.size]? = some (.cells #[.string ⟨c0.toArray⟩, .slice pv nS cv] 64 (0, 0)) := alloc_get _ _
                      have hBX : Below wr.heap.size wr (w6.alloc (.cells #[.string ⟨c0.toArray⟩, .slice pv nS cv] 64 (0, 0))) := bel0 HB5.out (belA hb6' _)
                      have oX : (w6.alloc (.cells #[.string ⟨c0.toArray⟩, .slice pv nS cv] 64 (0, 0))).ownsRow 0 9 1 (.slice pv nS cv) nS (stx S) := own_base (o6.alloc _) (Nat.zero_le _)
                      obtain ⟨X, hX⟩ : ∃ X, (w6.alloc (.cells #[.string ⟨c0.toArray⟩, .slice pv nS cv] 64 (0, 0))) = X := ⟨_, rfl⟩
                      rw [hX] at hT hBX oX ⊢
                      obtain ⟨hcT, -⟩ := cells_block hT
                      have HDX : Hid (DZ W4 u11 Z (stD ((P.take k).map tcon)) X) := HD.out.below hBX
                      have oZ := HDX.out.2.1
                      have hXs := HDX.out.2.2.2.size
                      have HOX : Hid (X.ownsRow 0 9 1 (.slice pv nS cv) nS (stx S)) := oX
                      clear hT oX hX hBX hk0 hk0d hk6 hk7 hk8 hb6 hb6' o6
                      go_wp2_with (at_builtin; refine wpList_append_own _ rfl _ _ 25 rfl W4.heap.size 64 iT _ 2 40 Tryz.underlying25 hiT hzT0 hzT1 hzT2 rfl (by decide) _ _ _ rfl (oZ.alloc _) ⟨_, 0, none⟩ 1 1 [.string ⟨c0.toArray⟩, .slice pv nS cv] rfl rfl (World.news_of_block (cs := #[.string ⟨c0.toArray⟩, .slice pv nS cv]) (t := 64) (fr := (0, 0)) (alloc_get _ _)) (by simp [Value.oneCell']) (by unfold maxLen; omega) (by omega) (by simp; omega) ?_)
                      intro v8 w8 o8 g8 _
                      have HD8 : Hid (DZ W4 v8 (Z ++ [⟨c0, pv, cv, S⟩]) (stD ((P.take (k + 1)).map tcon)) w8) := by
                        have hS := HSL.out
                        refine ⟨?_, ?_, ?_, ?_⟩
                        · rw [HST2.out, List.map_append, HDX.out.1]
                          rfl
                        · rw [rts_snoc, List.length_append, hS]
                          exact o8
                        · intro z hz
                          rcases List.mem_append.1 hz with hz | hz
                          · exact ⟨own_other ((HDX.out.2.2.1 z hz).1.alloc _) (oZ.alloc _) (by decide) g8, (HDX.out.2.2.1 z hz).2⟩
                          · obtain rfl := List.mem_singleton.1 hz
                            refine ⟨?_, ?_, HSG.out.1, HSG.out.2⟩
                            · show w8.ownsRow 0 9 1 (.slice pv S.length cv) S.length (stx S)
                              rw [hS]
                              exact own_other (HOX.out.alloc _) (oZ.alloc _) (by decide) g8
                            · show S.length ≤ 1000000
                              rw [hS]
                              omega
                        · exact (belA HDX.out.2.2.2 _).grown g8 (belA HDX.out.2.2.2 _).size (fun b e => (oZ.lt b e).1)
                      clear o8 g8 oZ hcT HDX HOX
                      go_wp2_with fail
                      go_roundw
                      case rel => exact ⟨k + 1, _, by go_num, by omega, by rw [List.length_append]; simp; omega, HD8⟩
                      case measure => simp [intOf]; omega
                    · have hT : ((w6.setCell ⟨W5.heap.size, 0, none⟩ (.string ⟨c0.toArray⟩)).setCell ⟨W5.heap.size, 1, none⟩ (.slice pv nS cv)).heap[W5.heap.size]? = some (.cells #[.string ⟨c0.toArray⟩, .slice pv nS cv] 64 (0, 0)) := set2_get _ _ ht6
                      have hBX : Below wr.heap.size wr ((w6.setCell ⟨W5.heap.size, 0, none⟩ (.string ⟨c0.toArray⟩)).setCell ⟨W5.heap.size, 1, none⟩ (.slice pv nS cv)) := bel0 HB5.out ((hb6'.setCell (p := ⟨W5.heap.size, 0, none⟩) (Nat.le_refl _) _).setCell (p := ⟨W5.heap.size, 1, none⟩) (Nat.le_refl _) _)
                      have oX : ((w6.setCell ⟨W5.heap.size, 0, none⟩ (.string ⟨c0.toArray⟩)).setCell ⟨W5.heap.size, 1, none⟩ (.slice pv nS cv)).ownsRow 0 9 1 (.slice pv nS cv) nS (stx S) := own_base ((o6.kept (set_grS _ _ _ _) (.inr (fun e => by have h1 := (o6.lt _ e).1; simp at h1; omega))).kept (set_grS _ _ _ _) (.inr (fun e => by have h1 := (o6.lt _ e).1; simp at h1; omega))) (Nat.zero_le _)
                      obtain ⟨X, hX⟩ : ∃ X, ((w6.setCell ⟨W5.heap.size, 0, none⟩ (.string ⟨c0.toArray⟩)).setCell ⟨W5.heap.size, 1, none⟩ (.slice pv nS cv)) = X := ⟨_, rfl⟩
                      rw [hX] at hT hBX oX ⊢
                      obtain ⟨hcT, -⟩ := cells_block hT
                      have HDX : Hid (DZ W4 u11 Z (stD ((P.take k).map tcon)) X) := HD.out.below hBX
                      have oZ := HDX.out.2.1
                      have hXs := HDX.out.2.2.2.size
                      have HOX : Hid (X.ownsRow 0 9 1 (.slice pv nS cv) nS (stx S)) := oX
                      clear hT oX hX hBX hk0 hk0d hk6 hk7 hk8 hb6 hb6' o6
                      go_wp2_with (at_builtin; refine wpList_append_own _ rfl _ _ 25 rfl W4.heap.size 64 iT _ 2 40 Tryz.underlying25 hiT hzT0 hzT1 hzT2 rfl (by decide) _ _ _ rfl (oZ.alloc _) ⟨_, 0, none⟩ 1 1 [.string ⟨c0.toArray⟩, .slice pv nS cv] rfl rfl (World.news_of_block (cs := #[.string ⟨c0.toArray⟩, .slice pv nS cv]) (t := 64) (fr := (0, 0)) (alloc_get _ _)) (by simp [Value.oneCell']) (by unfold maxLen; omega) (by omega) (by simp; omega) ?_)
                      intro v8 w8 o8 g8 _
                      have HD8 : Hid (DZ W4 v8 (Z ++ [⟨c0, pv, cv, S⟩]) (stD ((P.take (k + 1)).map tcon)) w8) := by
                        have hS := HSL.out
                        refine ⟨?_, ?_, ?_, ?_⟩
                        · rw [HST2.out, List.map_append, HDX.out.1]
                          rfl
                        · rw [rts_snoc, List.length_append, hS]
                          exact o8
                        · intro z hz
                          rcases List.mem_append.1 hz with hz | hz
                          · exact ⟨own_other ((HDX.out.2.2.1 z hz).1.alloc _) (oZ.alloc _) (by decide) g8, (HDX.out.2.2.1 z hz).2⟩
                          · obtain rfl := List.mem_singleton.1 hz
                            refine ⟨?_, ?_, HSG.out.1, HSG.out.2⟩
                            · show w8.ownsRow 0 9 1 (.slice pv S.length cv) S.length (stx S)
                              rw [hS]
                              exact own_other (HOX.out.alloc _) (oZ.alloc _) (by decide) g8
                            · show S.length ≤ 1000000
                              rw [hS]
                              omega
                        · exact (belA HDX.out.2.2.2 _).grown g8 (belA HDX.out.2.2.2 _).size (fun b e => (oZ.lt b e).1)
                      clear o8 g8 oZ hcT HDX HOX
                      go_wp2_with fail
                      go_roundw
                      case rel => exact ⟨k + 1, _, by go_num, by omega, by rw [List.length_append]; simp; omega, HD8⟩
                      case measure => simp [intOf]; omega
                · have k1 : ¬ (k : Int) < (np : Int) := by omega
                  have e : P.take k = P := List.take_of_length_le (by rw [HNP.out]; omega)
                  rw [e] at HD
                  clear e
                  obtain ⟨hZ, oZ, hZZ, hBz⟩ := HD.out
                  obtain ⟨pZ, cZ, rfl⟩ := shapeQ1 oZ
                  have HFO : Hid (Calls Tryz.prog 49 #[.int .i64 (n : Int), .slice pZ Z.length cZ] wr fun e w' => ∃ V, e = .returned (.agg #[.int .i64 (n : Int), V]) ∧ RSR w' V (frmD (topC (Z.map ZT.cont))) ∧ Below wr.heap.size wr w') := dform_any (n : Int) Z Z.length pZ cZ wr rfl (by omega) (IRR_own oZ rfl) (fun z hz => ⟨IRSt_own (hZZ z hz).1 rfl, (hZZ z hz).2⟩)
                  have HZ : Hid (frmD (topC (Z.map ZT.cont)) = prT (n : Int) l) := by
                    unfold Hid prT frmD
                    rw [HE.out, if_pos rfl, if_neg H5.out, hZ, HPP.out]
                    exact frm_eq _
                  clear hZ oZ hZZ HD
                  go_wp2_with fail
                  refine HFO.out.mono ?_
                  rintro e W6 ⟨V, rfl, hV, hb6⟩
                  have hB6 := bel0 hBz hb6
                  obtain ⟨hres, hBw⟩ := HRB.out W6 (bel0 HB3.out hB6)
                  obtain ⟨hcR, hfR⟩ := cells_block hres
                  have hBf : Below w.heap.size w ((W6.setCell ⟨w.heap.size, 0, none⟩ (.int .i64 (n : Int))).setCell ⟨w.heap.size, 1, none⟩ V) := bels2 HA.out.2 hBw _ _
                  have HRV : Hid (RSR ((W6.setCell ⟨w.heap.size, 0, none⟩ (.int .i64 (n : Int))).setCell ⟨w.heap.size, 1, none⟩ V) V (prT (n : Int) l)) := by
                    unfold Hid
                    rw [← HZ.out]
                    exact RSR_store hres hV
                  obtain ⟨Z6, p6, c6, hV6, -⟩ := hV
                  obtain ⟨m6, hm6⟩ : ∃ m6, Z6.length = m6 := ⟨_, rfl⟩
                  rw [hm6] at hV6
                  clear hm6
                  subst hV6
                  have HF : Hid (_ = _) := set2_get (.int .i64 (n : Int)) (.slice p6 m6 c6) hres
                  clear hres
                  go_wp2_with fail
                  refine bodyPost_ret (v := .tuple #[.agg #[.int .i64 (n : Int), .slice p6 m6 c6], .int .i64 0]) (res_rs2 _ _ w.heap.size _ _ Tryz.results21 rfl HF.out) rfl ?_
                  refine ⟨.slice p6 m6 c6, ?_, HRV.out, hBf⟩
                  unfold prB
                  rw [HE.out, if_pos rfl]
end Go.Proofs.YtmdnapognaddbaaGreatDoor
