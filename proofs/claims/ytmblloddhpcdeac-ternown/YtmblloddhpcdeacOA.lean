import Derived.Test.YtmblloddhpcdeacO9
import Derived.Deep.DeepCutAuto
namespace Go.Proofs.Ytmblloddhpcdeac
open Go.RowKit

set_option maxRecDepth 100000 in
set_option maxHeartbeats 4000000 in
theorem ternOwn_walk (p : Option Addr) (len cap : Nat) (SL : List ByteArray) (w : World)
    (hlen0 : SL.length = len) (hcell0 : ∀ i, i < len → ∃ ad, p = some ad ∧ w.cell? (ad.add i) = some (.string (SL.getD i ByteArray.empty))) (hsz0 : ∀ s ∈ SL, s.size ≤ maxLen) (hlc : len ≤ cap) (hb : len ≤ maxLen) :
    Calls Try.prog 8 #[.slice p len cap] w fun e w' => e = .returned (.bool true) ∧ Below w.heap.size w w' := by
  have hlen : Hid (SL.length = len) := hlen0
  have hcell : Hid (∀ i, i < len → ∃ ad, p = some ad ∧ w.cell? (ad.add i) = some (.string (SL.getD i ByteArray.empty))) := hcell0
  have hsz : Hid (∀ s ∈ SL, s.size ≤ maxLen) := hsz0
  clear hlen0 hcell0 hsz0
  unfold maxLen at hb
  go_enter Try.func8, Try.ntmps8
  go_upto_if 19 with fail
  go_cut [0] (fun l wc => ∃ n c' : Nat, n ≤ 200 ∧ n ≤ len ∧ l = .slice p n c' ∧ w = wc)
  case first =>
    by_cases hc : (200 : Int) < (len : Int)
    · have hc2 : (200 : Int) ≤ (cap : Int) := by omega
      have hc3 : 200 ≤ cap := by omega
      go_wp2_with fail
      go_meet
      exact ⟨200, cap, by omega, by omega, rfl, rfl⟩
    · go_wp2_with fail
      go_meet
      exact ⟨len, cap, by omega, by omega, rfl, rfl⟩
  case rest =>
    obtain ⟨n, c, hn, hnl, rfl, rfl⟩ := hcut
    go_wp2_with fail
    refine (marks_any 5 _ (by omega)).mono ?_
    rintro e w1 ⟨rfl, hb1⟩
    go_wp2_with fail
    refine (text_any (mkT 5) _ (mkT_good 5)).mono ?_
    rintro e w2 ⟨rfl, hb2⟩
    have B2 : Hid (Below w.heap.size w w2) := bel0 hb1 hb2
    have e5 : mkT 5 = [49, 48, 49, 48, 48, 48, 48, 48, 48, 48, 48, 48, 48, 48, 48, 48] := by decide
    rw [e5]
    clear hb1 hb2 e5
    go_wp2
    go_loopw [3, 4, 5, 6] (fun bv hv wv r wr => ∃ (rr : Nat) (E : List (Value × Value × List UInt8)) (H Q : List (Value × List (List UInt8))), rr ≤ 2 ∧ r = .int .i64 rr ∧ ST w wr E H Q bv hv wv ∧ E.length ≤ 200 * rr ∧ H.length ≤ 400 * rr) (fun _ _ _ r _ => 2 - (intOf r).toNat)
    case atStart => exact ⟨0, [], [], [], by omega, rfl, ⟨IOw.start w w2 B2.out, rfl, fun x hx => by cases hx⟩, by simp, by simp⟩
    case round =>
      obtain ⟨rr, E, H, Q, hrr, rfl, hS, hE, hH⟩ := hrel
      by_cases hr2 : rr < 2
      · have j2 : (rr : Int) < 2 := by omega
        go_wp2
        go_loopw [3, 4, 5, 7] (fun bv hv wv i wr => ∃ (k : Nat) (E : List (Value × Value × List UInt8)) (H Q : List (Value × List (List UInt8))), k ≤ 199 ∧ i = .int .i64 k ∧ ST w wr E H Q bv hv wv ∧ E.length ≤ 200 * rr + k ∧ H.length ≤ 400 * rr + 2 * k) (fun _ _ _ i _ => n - (intOf i).toNat)
        case atStart => exact ⟨0, E, H, Q, by omega, rfl, hS, by omega, by omega⟩
        case round =>
          clear hS hE hH
          obtain ⟨k, E, H, Q, hk, rfl, hS, hE, hH⟩ := hrel
          by_cases hlt : k + 1 < n
          · have i1 : (k : Int) + 1 < (n : Int) := by omega
            obtain ⟨L, gL0, lL, HP0⟩ := pair_at p len n c k SL w hlen.out hcell.out hsz.out hn hnl hlt
            have gL : Hid (∀ x ∈ L, good x = true) := gL0
            have HP : Hid (∀ W, Below w.heap.size w W → Calls Try.prog 34 #[.slice p n c, .int .i64 (k : Int)] W fun e w' => ∃ V, e = .returned (.tuple #[V, .bool true]) ∧ w'.ownsRow W.heap.size 26 9 V L.length (cels L) ∧ Below W.heap.size W w') := HP0
            clear gL0 HP0
            go_wp2_with fail
            refine (HP.out _ hS.1.be).mono ?_
            rintro e w3 ⟨V, rfl, oV, hb3⟩
            obtain ⟨q, cV, rfl⟩ := shapeP oV
            by_cases hr1 : rr = 1
            · subst hr1
              obtain ⟨pH, cH, rfl⟩ := shapeP hS.1.ho
              obtain ⟨pQ, cQ, rfl⟩ := shapeP hS.1.wo
              obtain ⟨iR, hiR, hR0, hR1, hR2⟩ := info_parts info_row
              have S3 := hS.1.below hb3
              have hq := hS.2.1
              have nH : Hid (∀ x ∈ H, newer w x.1) := hS.2.2
              have nV : Hid (newer w (.slice q L.length cV)) := newer_own oV hS.1.be.size
              obtain ⟨fr1, fr2⟩ := hS.1.fresh oV (Nat.le_refl _)
              have FR1 : Hid (∀ x ∈ H, dis x.1 (.slice q L.length cV)) := fr1
              have FR2 : Hid (∀ e ∈ E, dis (.slice q L.length cV) e.1 ∧ dis (.slice q L.length cV) e.2.1) := fr2
              have Hq : Hid (H.map (·.2) = Q.map (·.2)) := hq
              have hz3 : w.heap.size ≤ w3.heap.size := S3.be.size
              have hHl : H.length ≤ 1200 := by omega
              have hQl : Q.length ≤ 1200 := by have := congrArg List.length Hq.out; rw [List.length_map, List.length_map] at this; omega
              have oH0 : w3.ownsRow w.heap.size 51 1 (.slice pH H.length cH) H.length (H.map (·.1)) := by have := S3.ho; rw [List.length_map] at this; exact this
              clear hS hb3 fr1 fr2 hq
              go_wp2_with (at_builtin; refine wpList_append_lies _ rfl _ _ 60 rfl w.heap.size 51 iR (.slice none 0 0) 1 24 Try.underlying60 hiR hR0 hR1 hR2 rfl (by decide) _ _ _ rfl (oH0.alloc _) ⟨w3.heap.size, 0, none⟩ 1 1 [.slice q L.length cV] rfl rfl (cell_one_new _ _ _) (by simp [Value.oneCell']) (by decide) (by unfold maxLen; omega) (by omega) (by simp; omega) _ rfl ?_; intro g c3 w4 oH hgrow hlies _)
              have S4 := (S3.below ((Below.refl _ _).alloc (Nat.le_refl _) (.cells #[.slice q L.length cV] 51))).held (N := [(.slice q L.length cV, L)]) (g := g) (c := c3) (by rw [List.length_map]; exact oH) (by rw [List.length_map]; exact hgrow) (by rcases hlies with h | h; exact .inl (by rw [List.length_map]; exact h); exact .inr (Nat.le_of_eq h.symm)) (by intro x hx; obtain rfl := List.mem_singleton.1 hx; exact ⟨⟨_, oV.alloc _⟩, gL.out, lL⟩) (List.pairwise_singleton _ _) (by intro x hx y hy; obtain rfl := List.mem_singleton.1 hy; exact FR1.out x hx) (by intro x hx y hy; obtain rfl := List.mem_singleton.1 hy; exact FR2.out x hx)
              obtain ⟨⟨BL, oV4⟩, _⟩ := S4.hk (.slice q L.length cV, L) (by simp)
              clear S3 oH0 hgrow hlies oH
              refine (copied_any L _ _ _ (by omega) oV4).mono ?_
              rintro e w5 ⟨V5, rfl, oC, hb5⟩
              obtain ⟨q5, c5, rfl⟩ := shapeP oC
              have S5 := S4.below hb5
              have oQ0 : w5.ownsRow w.heap.size 51 1 (.slice pQ Q.length cQ) Q.length (Q.map (·.1)) := by have := S5.wo; rw [List.length_map] at this; exact this
              have hz5 : w.heap.size ≤ w5.heap.size := S5.be.size
              clear S4 hb5 oV4
              go_wp2_with (at_builtin; refine wpList_append_lies _ rfl _ _ 60 rfl w.heap.size 51 iR (.slice none 0 0) 1 24 Try.underlying60 hiR hR0 hR1 hR2 rfl (by decide) _ _ _ rfl (oQ0.alloc _) ⟨w5.heap.size, 0, none⟩ 1 1 [.slice q5 L.length c5] rfl rfl (cell_one_new _ _ _) (by simp [Value.oneCell']) (by decide) (by unfold maxLen; omega) (by omega) (by simp; omega) _ rfl ?_; intro g6 c6 w6 oW hgrow hlies _)
              have S6 := (S5.below ((Below.refl _ _).alloc (Nat.le_refl _) (.cells #[.slice q5 L.length c5] 51))).wass (N := [(.slice q5 L.length c5, L)]) (g := g6) (c := c6) (by rw [List.length_map]; exact oW) (by rw [List.length_map]; exact hgrow) (by rcases hlies with h | h; exact .inl (by rw [List.length_map]; exact h); exact .inr (Nat.le_of_eq h.symm)) (by intro x hx; obtain rfl := List.mem_singleton.1 hx; exact ⟨⟨_, oC.alloc _⟩, gL.out, lL⟩)
              have R : ∃ (k' : Nat) (E' : List (Value × Value × List UInt8)) (H' Q' : List (Value × List (List UInt8))), k' ≤ 199 ∧ Value.int .i64 ((k : Int) + 1) = .int .i64 k' ∧ ST w w6 E' H' Q' u3 (.slice (some ⟨g, 0, none⟩) (H.length + 1) c3) (.slice (some ⟨g6, 0, none⟩) (Q.length + 1) c6) ∧ E'.length ≤ 200 * 1 + k' ∧ H'.length ≤ 400 * 1 + 2 * k' :=
                ⟨k + 1, E, H ++ [(.slice q L.length cV, L)], Q ++ [(.slice q5 L.length c5, L)], by omega, by go_num, by have := ST_add S6 Hq.out rfl nH.out (by intro x hx; obtain rfl := List.mem_singleton.1 hx; exact nV.out); rw [List.length_map, List.length_map] at this; exact this, by omega, by rw [List.length_append]; simp; omega⟩
              go_roundw
              case rel => (repeat apply Exists.intro); exact ⟨R, rfl⟩
              case measure => simp [intOf]; omega
            · obtain rfl : rr = 0 := by omega
              obtain ⟨pB, cB, rfl⟩ := shapeP hS.1.bo
              obtain ⟨pH, cH, rfl⟩ := shapeP hS.1.ho
              obtain ⟨pQ, cQ, rfl⟩ := shapeP hS.1.wo
              obtain ⟨iR, hiR, hR0, hR1, hR2⟩ := info_parts info_row
              obtain ⟨iK, hiK, hK0, hK1, hK2⟩ := info_parts info_kept
              have Hq : Hid (H.map (·.2) = Q.map (·.2)) := hS.2.1
              have nH : Hid (∀ x ∈ H, newer w x.1) := hS.2.2
              have hHl : H.length ≤ 1200 := by omega
              have hQl : Q.length ≤ 1200 := by have := congrArg List.length Hq.out; rw [List.length_map, List.length_map] at this; omega
              have hEl : E.length ≤ 400 := by omega
              obtain ⟨M, hM⟩ : ∃ M, mkT E.length = M := ⟨_, rfl⟩
              have gM : Hid (good M = true) := by unfold Hid; rw [← hM]; exact mkT_good _
              have HK : Hid (Calls Try.prog 36 #[.slice q L.length cV, .int .i64 (E.length : Int)] w3 fun e w' => ∃ G p c, (.slice q L.length cV : Value) = .slice p L.length c ∧ e = .returned (.agg (#[.slice q L.length cV, G] ++ #[.int .i64 (M.length : Int), .int .u64 (FW M 0 : Int), .int .u64 (FW M 1 : Int), .int .u64 (FW M 2 : Int), .int .u64 (FW M 3 : Int), .int .u64 (OW M 0 : Int), .int .u64 (OW M 1 : Int), .int .u64 (OW M 2 : Int), .int .u64 (OW M 3 : Int)])) ∧ KG w' p c L.length 64 wr.heap.size w3.heap.size M G ∧ w3.grownBy w' (Value.slice q L.length cV).ownBlock) := kept_raw L _ _ E.length M w3 hM (by omega) (by omega) oV
              clear hM
              go_wp2_with fail
              refine HK.out.mono ?_
              rintro e w4 ⟨G, pv, cv', eV, rfl, hKG, hgk⟩
              injection eV with e1 _ e3
              subst e1 e3
              obtain ⟨qG, cG, rfl⟩ := KG_shape hKG
              have hB4 : Below wr.heap.size wr w4 := bel_grown hb3 hgk (fun k e => (oV.lt k e).1)
              have S4 := hS.1.below hB4
              have EK : Hid (EOK w4 (.slice q L.length cV, .slice qG (L.length + 64) cG, M)) := ⟨_, _, _, _, _, rfl, lL, gM.out, hKG⟩
              have FD : Hid (∀ x ∈ H, dis x.1 (.slice q L.length cV) ∧ dis x.1 (.slice qG (L.length + 64) cG)) := by
                obtain ⟨B', n', xs', hB', oG⟩ := KG_fresh hKG (Nat.le_refl _) hb3.size
                exact fun x hx => ⟨(hS.1.fresh oV (Nat.le_refl _)).1 x hx, (hS.1.fresh oG hB').1 x hx⟩
              have hz4 : w.heap.size ≤ w4.heap.size := S4.be.size
              clear hS hb3 hKG hgk hB4 oV HK
              go_wp2_with (at_builtin; refine wpList_append_own _ rfl _ _ 59 rfl w.heap.size 65 iK _ 11 120 Try.underlying59 hiK hK0 hK1 hK2 rfl (by decide) _ _ _ rfl (S4.bo.alloc _) ⟨w4.heap.size, 0, none⟩ 1 1 (ecel (.slice q L.length cV, .slice qG (L.length + 64) cG, M)) rfl rfl (World.news_of_block (cs := #[.slice q L.length cV, .slice qG (L.length + 64) cG, .int .i64 (M.length : Int), .int .u64 (FW M 0 : Int), .int .u64 (FW M 1 : Int), .int .u64 (FW M 2 : Int), .int .u64 (FW M 3 : Int), .int .u64 (OW M 0 : Int), .int .u64 (OW M 1 : Int), .int .u64 (OW M 2 : Int), .int .u64 (OW M 3 : Int)]) (t := 65) (fr := (0, 0)) (alloc1O _ _)) (by simp [ecel, cel, Value.oneCell']) (by unfold maxLen; omega) (by omega) (by simp; omega) ?_; intro v5 w5 oB hgrow _)
              have S5 := (S4.below ((Below.refl _ _).alloc (Nat.le_refl _) _)).book (e := (.slice q L.length cV, .slice qG (L.length + 64) cG, M)) oB hgrow (EOK_below EK.out ((Below.refl _ _).alloc (Nat.le_refl _) _)) FD.out
              clear S4 EK FD oB hgrow
              refine (HP.out _ S5.be).mono ?_
              rintro e w6 ⟨V6, rfl, oV6, hb6⟩
              obtain ⟨q6, c6, rfl⟩ := shapeP oV6
              go_wp2_with fail
              refine (HP.out _ (S5.below hb6).be).mono ?_
              rintro e w7 ⟨V7, rfl, oV7, hb7⟩
              obtain ⟨q7, c7, rfl⟩ := shapeP oV7
              obtain ⟨f61, f62⟩ := S5.fresh oV6 (Nat.le_refl _)
              obtain ⟨f71, f72⟩ := S5.fresh oV7 hb6.size
              have F1 : Hid (∀ x ∈ H, dis x.1 (.slice q6 L.length c6) ∧ dis x.1 (.slice q7 L.length c7)) := fun x hx => ⟨f61 x hx, f71 x hx⟩
              have F2 : Hid (∀ e ∈ E ++ [(.slice q L.length cV, .slice qG (L.length + 64) cG, M)], (dis (.slice q6 L.length c6) e.1 ∧ dis (.slice q6 L.length c6) e.2.1) ∧ dis (.slice q7 L.length c7) e.1 ∧ dis (.slice q7 L.length c7) e.2.1) := fun x hx => ⟨f62 x hx, f72 x hx⟩
              have F3 : Hid (dis (.slice q6 L.length c6) (.slice q7 L.length c7)) := dis_new oV7 oV6 (Nat.le_refl _)
              have n6 : Hid (newer w (.slice q6 L.length c6)) := newer_own oV6 S5.be.size
              have n7 : Hid (newer w (.slice q7 L.length c7)) := newer_own oV7 (S5.below hb6).be.size
              have S7 := (S5.below hb6).below hb7
              have oV6' : Hid (∃ B, w7.ownsRow B 26 9 (.slice q6 L.length c6) L.length (cels L)) := ⟨_, owns_below oV6 hb7⟩
              have oV7' : Hid (∃ B, w7.ownsRow B 26 9 (.slice q7 L.length c7) L.length (cels L)) := ⟨_, oV7⟩
              have HSn : Hid (∀ W, Below w7.heap.size w7 W → Calls Try.prog 37 #[v5] W fun e w' => e = .returned (.bool true) ∧ Below w7.heap.size w7 w') := fun W hW => (seen_any _ v5 _ W (by rw [List.length_append]; simp; omega) (S7.below hW).bo (S7.below hW).eo).mono (fun e w' h => ⟨h.1, bel0 hW h.2⟩)
              clear S5 oV6 oV7 hb6 hb7 f61 f62 f71 f72
              go_wp2_with (first
                | (go_at_call 37; refine (HSn.out _ (by belw)).mono ?_; rintro e w8 ⟨rfl, hb8⟩; have S8 := S7.below hb8; have oH0 : w8.ownsRow w.heap.size 51 1 (.slice pH H.length cH) H.length (H.map (·.1)) := (by have := S8.ho; rw [List.length_map] at this; exact this); have hz8 : w.heap.size ≤ w8.heap.size := S8.be.size)
                | (at_builtin; refine wpList_append_lies _ rfl _ _ 60 rfl w.heap.size 51 iR (.slice none 0 0) 1 24 Try.underlying60 hiR hR0 hR1 hR2 rfl (by decide) _ _ _ rfl (oH0.alloc _) ⟨w8.heap.size, 0, none⟩ 2 2 [.slice q6 L.length c6, .slice q7 L.length c7] rfl rfl (World.news_of_block (cs := #[.slice q6 L.length c6, .slice q7 L.length c7]) (t := 51) (fr := (0, 0)) (alloc1O _ _)) (by simp [Value.oneCell']) (by decide) (by unfold maxLen; omega) (by omega) (by simp; omega) _ rfl ?_; intro g9 c9 w9 oH hgrow hlies _))
              have S9 := (S8.below ((Below.refl _ _).alloc (Nat.le_refl _) (.cells #[.slice q6 L.length c6, .slice q7 L.length c7] 51))).held (N := [(.slice q6 L.length c6, L), (.slice q7 L.length c7, L)]) (g := g9) (c := c9) (by rw [List.length_map]; exact oH) (by rw [List.length_map]; exact hgrow) (by rcases hlies with h | h; exact .inl (by rw [List.length_map]; exact h); exact .inr (Nat.le_of_eq h.symm))
                (by
                  intro x hx
                  obtain ⟨B6, o6⟩ := oV6'.out
                  obtain ⟨B7, o7⟩ := oV7'.out
                  simp only [List.mem_cons, List.not_mem_nil, or_false] at hx
                  rcases hx with rfl | rfl
                  · exact ⟨⟨_, (owns_below o6 hb8).alloc _⟩, gL.out, lL⟩
                  · exact ⟨⟨_, (owns_below o7 hb8).alloc _⟩, gL.out, lL⟩)
                (by
                  refine List.pairwise_cons.2 ⟨fun y hy => ?_, List.pairwise_singleton _ _⟩
                  obtain rfl := List.mem_singleton.1 hy
                  exact F3.out)
                (by
                  intro x hx y hy
                  simp only [List.mem_cons, List.not_mem_nil, or_false] at hy
                  rcases hy with rfl | rfl
                  · exact (F1.out x hx).1
                  · exact (F1.out x hx).2)
                (by
                  intro x hx y hy
                  simp only [List.mem_cons, List.not_mem_nil, or_false] at hy
                  rcases hy with rfl | rfl
                  · exact (F2.out x hx).1
                  · exact (F2.out x hx).2)
              obtain ⟨⟨B6, o6⟩, _⟩ := S9.hk (.slice q6 L.length c6, L) (by simp)
              obtain ⟨⟨B7, o7⟩, _⟩ := S9.hk (.slice q7 L.length c7, L) (by simp)
              clear S7 S8 oH0 hgrow hlies oH hb8 HSn F1 F2 F3 oV6' oV7'
              refine (copied_any L _ _ _ (by omega) o6).mono ?_
              rintro e w10 ⟨C6, rfl, oC6, hb10⟩
              obtain ⟨r6, d6, rfl⟩ := shapeP oC6
              go_wp2_with fail
              refine (copied_any L _ _ _ (by omega) (owns_below o7 hb10)).mono ?_
              rintro e w11 ⟨C7, rfl, oC7, hb11⟩
              obtain ⟨r7, d7, rfl⟩ := shapeP oC7
              have S11 := (S9.below hb10).below hb11
              have oC6' := owns_below oC6 hb11
              have oQ0 : w11.ownsRow w.heap.size 51 1 (.slice pQ Q.length cQ) Q.length (Q.map (·.1)) := by have := S11.wo; rw [List.length_map] at this; exact this
              have hz11 : w.heap.size ≤ w11.heap.size := S11.be.size
              clear S9 hb10 hb11 o6 o7 oC6
              go_wp2_with (at_builtin; refine wpList_append_lies _ rfl _ _ 60 rfl w.heap.size 51 iR (.slice none 0 0) 1 24 Try.underlying60 hiR hR0 hR1 hR2 rfl (by decide) _ _ _ rfl (oQ0.alloc _) ⟨w11.heap.size, 0, none⟩ 2 2 [.slice r6 L.length d6, .slice r7 L.length d7] rfl rfl (World.news_of_block (cs := #[.slice r6 L.length d6, .slice r7 L.length d7]) (t := 51) (fr := (0, 0)) (alloc1O _ _)) (by simp [Value.oneCell']) (by decide) (by unfold maxLen; omega) (by omega) (by simp; omega) _ rfl ?_; intro g12 c12 w12 oW hgrow hlies _)
              have S12 := (S11.below ((Below.refl _ _).alloc (Nat.le_refl _) (.cells #[.slice r6 L.length d6, .slice r7 L.length d7] 51))).wass (N := [(.slice r6 L.length d6, L), (.slice r7 L.length d7, L)]) (g := g12) (c := c12) (by rw [List.length_map]; exact oW) (by rw [List.length_map]; exact hgrow) (by rcases hlies with h | h; exact .inl (by rw [List.length_map]; exact h); exact .inr (Nat.le_of_eq h.symm))
                (by
                  intro x hx
                  simp only [List.mem_cons, List.not_mem_nil, or_false] at hx
                  rcases hx with rfl | rfl
                  · exact ⟨⟨_, oC6'.alloc _⟩, gL.out, lL⟩
                  · exact ⟨⟨_, oC7.alloc _⟩, gL.out, lL⟩)
              have R : ∃ (k' : Nat) (E' : List (Value × Value × List UInt8)) (H' Q' : List (Value × List (List UInt8))), k' ≤ 199 ∧ Value.int .i64 ((k : Int) + 1) = .int .i64 k' ∧ ST w w12 E' H' Q' v5 (.slice (some ⟨g9, 0, none⟩) (H.length + 2) c9) (.slice (some ⟨g12, 0, none⟩) (Q.length + 2) c12) ∧ E'.length ≤ 200 * 0 + k' ∧ H'.length ≤ 400 * 0 + 2 * k' :=
                ⟨k + 1, E ++ [(.slice q L.length cV, .slice qG (L.length + 64) cG, M)], H ++ [(.slice q6 L.length c6, L), (.slice q7 L.length c7, L)], Q ++ [(.slice r6 L.length d6, L), (.slice r7 L.length d7, L)], by omega, by go_num, by have := ST_add S12 Hq.out rfl nH.out (by intro x hx; simp only [List.mem_cons, List.not_mem_nil, or_false] at hx; rcases hx with rfl | rfl; exact n6.out; exact n7.out); rw [List.length_map, List.length_map] at this; exact this, by rw [List.length_append]; simp; omega, by rw [List.length_append]; simp; omega⟩
              go_roundw
              case rel => first | exact R | ((repeat apply Exists.intro); exact ⟨R, rfl⟩)
              case measure => simp [intOf]; omega
          · have i1 : ¬ (k : Int) + 1 < (n : Int) := by omega
            go_wp2
            go_roundw
            case rel => exact ⟨rr + 1, E, H, Q, by omega, by go_num, hS, by omega, by omega⟩
            case measure => simp [intOf]; omega
      · have j2 : ¬ (rr : Int) < 2 := by omega
        obtain ⟨pH, cH, rfl⟩ := shapeP hS.1.ho
        obtain ⟨pQ, cQ, rfl⟩ := shapeP hS.1.wo
        have Hq : Hid (H.map (·.2) = Q.map (·.2)) := hS.2.1
        have nH : Hid (∀ x ∈ H, newer w x.1) := hS.2.2
        have S0 : Hid (IOw w wr E H Q (H.map (·.1)) (Q.map (·.1)) u3 (.slice pH (H.map (·.1)).length cH) (.slice pQ (Q.map (·.1)).length cQ)) := hS.1
        have hHl : H.length ≤ 800 := by omega
        have hEl : E.length ≤ 400 := by omega
        have hQH : Hid (Q.length = H.length) := by have := congrArg List.length Hq.out; rw [List.length_map, List.length_map] at this; exact this.symm
        clear hS
        rename World => wq
        go_wp2
        go_loopw [14] (fun i wr => ∃ k : Nat, k ≤ H.length ∧ i = .int .i64 k ∧ Below wq.heap.size wq wr) (fun i _ => H.length - (intOf i).toNat)
        case atStart => exact ⟨0, Nat.zero_le _, rfl, Below.refl _ _⟩
        case round =>
          obtain ⟨k, hk, rfl, hB⟩ := hrel
          by_cases hlt : k < H.length
          · have i0 : (0 : Int) ≤ (k : Int) := by omega
            have i1 : (k : Int) < (H.length : Int) := by omega
            have i2 : (k : Int) < (Q.length : Int) := by rw [hQH.out]; exact i1
            obtain ⟨Lh, hLk, Vh, Vq, hVh, hVq⟩ : ∃ Lh : List (List UInt8), (∀ W, Below wq.heap.size wq W → LOK W (H[k].1, Lh) ∧ LOK W ((Q[k]'(by rw [hQH.out]; exact hlt)).1, Lh)) ∧ ∃ Vh Vq, H[k].1 = Vh ∧ (Q[k]'(by rw [hQH.out]; exact hlt)).1 = Vq := by
              have hkq : k < Q.length := by rw [hQH.out]; exact hlt
              have e2 : H[k].2 = Q[k].2 := by
                have h := congrArg (fun l => l[k]?) Hq.out
                simp only [List.getElem?_map, List.getElem?_eq_getElem hlt, List.getElem?_eq_getElem hkq, Option.map_some] at h
                exact Option.some.inj h
              refine ⟨H[k].2, fun W hW => ⟨(S0.out.below hW).hk H[k] (List.getElem_mem hlt), ?_⟩, _, _, rfl, rfl⟩
              rw [e2]
              exact (S0.out.below hW).qk Q[k] (List.getElem_mem hkq)
            rw [hVh, hVq] at hLk
            have oHk : ∀ W, Below wq.heap.size wq W → ∃ ad, pH = some ad ∧ W.cell? (ad.add k) = some Vh := by
              intro W hW
              have o := (S0.out.below hW).ho
              rw [List.length_map] at o
              rcases shapeO o with ⟨_, h⟩ | ⟨g, c', h⟩
              · omega
              · injection h with h1 _ _
                refine ⟨_, h1, ?_⟩
                subst h1
                refine o.cells rfl k Vh ?_
                rw [List.getElem?_map, List.getElem?_eq_getElem hlt, ← hVh]; rfl
            have oQk : ∀ W, Below wq.heap.size wq W → ∃ ad, pQ = some ad ∧ W.cell? (ad.add k) = some Vq := by
              intro W hW
              have hkq : k < Q.length := by rw [hQH.out]; exact hlt
              have o := (S0.out.below hW).wo
              rw [List.length_map] at o
              rcases shapeO o with ⟨_, h⟩ | ⟨g, c', h⟩
              · omega
              · injection h with h1 _ _
                refine ⟨_, h1, ?_⟩
                subst h1
                refine o.cells rfl k Vq ?_
                rw [List.getElem?_map, List.getElem?_eq_getElem hkq, ← hVq]; rfl
            obtain ⟨aH, rfl, _⟩ := oHk wq (Below.refl _ _)
            obtain ⟨aQ, rfl, _⟩ := oQk wq (Below.refl _ _)
            have XH : Hid (∀ W, Below wq.heap.size wq W → W.cell? (aH.add k) = some Vh) := fun W hW => by obtain ⟨x, e, h⟩ := oHk W hW; injection e with e; subst e; exact h
            have XQ : Hid (∀ W, Below wq.heap.size wq W → W.cell? (aQ.add k) = some Vq) := fun W hW => by obtain ⟨x, e, h⟩ := oQk W hW; injection e with e; subst e; exact h
            have XA : Hid (∀ W, Below wq.heap.size wq W → Calls Try.prog 38 #[Vh, Vq] W fun e w' => e = .returned (.bool true) ∧ Below wq.heap.size wq w') := by
              intro W hW
              obtain ⟨⟨⟨_, o1⟩, g1, l1⟩, ⟨⟨_, o2⟩, _, _⟩⟩ := hLk W hW
              exact (alike_any Lh Vh Vq _ _ W (by simp only at l1; omega) g1 o1 o2).mono (fun e w' h => ⟨h.1, bel0 hW h.2⟩)
            obtain ⟨ph, ch, e1⟩ : ∃ ph ch, Vh = .slice ph Lh.length ch := by obtain ⟨⟨⟨_, o1⟩, _⟩, _⟩ := hLk wq (Below.refl _ _); exact shapeP o1
            obtain ⟨pq, cq, e2⟩ : ∃ pq cq, Vq = .slice pq Lh.length cq := by obtain ⟨_, ⟨⟨_, o2⟩, _⟩⟩ := hLk wq (Below.refl _ _); exact shapeP o2
            clear hLk hVh hVq oHk oQk
            subst e1 e2
            go_wp2_with fail
            refine quiet_lit3 (C := snC wq) (by kernel_rfl) (by kernel_rfl) (show Below _ _ _ from hB.drew) ?_
            clear hB
            go_big_quiet_want
            go_big_quiet_op
            go_big_quiet_on
            go_big_quiet_want
            go_big_quiet_op
            go_big_quiet_on
            go_big_quiet_want
            refine ⟨.pointer (some (aH.add k)), fun W hW => ?_, ?_⟩
            · go_simp
            go_big_quiet_on
            simp only [Act.put, List.setIfInBounds_toArray, List.set_cons_zero, List.set_cons_succ]
            go_big_quiet_want
            refine ⟨.slice ph Lh.length ch, fun W hW => ?_, ?_⟩
            · have x0 := XH.out W hW
              go_simp
            go_big_quiet_on
            simp only [Act.put, List.setIfInBounds_toArray, List.set_cons_zero, List.set_cons_succ]
            go_big_quiet_want
            go_big_quiet_op
            go_big_quiet_on
            go_big_quiet_want
            go_big_quiet_op
            go_big_quiet_on
            go_big_quiet_want
            refine ⟨.pointer (some (aQ.add k)), fun W hW => ?_, ?_⟩
            · go_simp
            go_big_quiet_on
            simp only [Act.put, List.setIfInBounds_toArray, List.set_cons_zero, List.set_cons_succ]
            go_big_quiet_want
            refine ⟨.slice pq Lh.length cq, fun W hW => ?_, ?_⟩
            · have x0 := XQ.out W hW
              go_simp
            go_big_quiet_on
            simp only [Act.put, List.setIfInBounds_toArray, List.set_cons_zero, List.set_cons_succ]
            go_big_quiet_want
            refine ⟨.bool true, fun W hW => ?_, ?_⟩
            · go_simp
              refine (XA.out W hW).mono ?_
              rintro e w' ⟨rfl, hb⟩
              exact ⟨rfl, hb⟩
            go_big_quiet_on
            simp only [Act.put, List.setIfInBounds_toArray, List.set_cons_zero, List.set_cons_succ]
            go_big_quiet_want
            go_big_quiet_op
            go_big_quiet_on
            refine wpQuiet_nil ?_
            intro W hW
            go_wp2
            go_roundw
            case rel => exact ⟨k + 1, by omega, by go_num, hW⟩
            case measure => simp [intOf]; omega
          · have i1 : ¬ (k : Int) < (H.length : Int) := by omega
            have SN : Hid (IOw w wr E H [] (H.map (·.1)) [] u3 (.slice pH H.length cH) (.slice none 0 0)) := by have := (S0.out.below hB).nowas; rw [List.length_map] at this; exact this
            clear hB S0 hQH Hq
            rename World => wz
            go_wp2
            go_loopw [3, 16] (fun bv i wr => ∃ (k : Nat) (E' : List (Value × Value × List UInt8)), k ≤ H.length ∧ i = .int .i64 k ∧ IOw w wr E' (H.drop k) [] (H.map (·.1)) [] bv (.slice pH H.length cH) (.slice none 0 0) ∧ E'.length ≤ 400 + k) (fun _ i _ => H.length - (intOf i).toNat)
            case atStart => exact ⟨0, E, Nat.zero_le _, rfl, by rw [List.drop_zero]; exact SN.out, by omega⟩
            case round =>
              clear SN
              obtain ⟨m, E', hm, rfl, hI, hE'⟩ := hrel
              obtain ⟨pB, cB, rfl⟩ := shapeP hI.bo
              by_cases hlm : m < H.length
              · have i0 : (0 : Int) ≤ (m : Int) := by omega
                have i2 : (m : Int) < (H.length : Int) := by omega
                obtain ⟨V, L, hdr, hxm⟩ : ∃ V L, H.drop m = (V, L) :: H.drop (m + 1) ∧ H[m] = (V, L) := ⟨_, _, List.drop_eq_getElem_cons hlm, rfl⟩
                have nV : Hid (newer w V) := by have := nH.out H[m] (List.getElem_mem hlm); rw [hxm] at this; exact this
                rw [hdr] at hI
                obtain ⟨⟨B, oV⟩, _, lL⟩ := hI.hk (V, L) (List.mem_cons_self ..)
                simp only at oV lL
                obtain ⟨q, cV, rfl⟩ := shapeP oV
                obtain ⟨aH, rfl, cH0⟩ : ∃ ad, pH = some ad ∧ wr.cell? (ad.add m) = some (.slice q L.length cV) := by
                  have o := hI.ho
                  rw [List.length_map] at o
                  rcases shapeO o with ⟨_, h⟩ | ⟨g, c', h⟩
                  · omega
                  · injection h with h1 _ _
                    refine ⟨_, h1, ?_⟩
                    subst h1
                    refine o.cells rfl m _ ?_
                    rw [List.getElem?_map, List.getElem?_eq_getElem hlm, hxm]; rfl
                obtain ⟨iK, hiK, hK0, hK1, hK2⟩ := info_parts info_kept
                obtain ⟨M, hM⟩ : ∃ M, mkT E'.length = M := ⟨_, rfl⟩
                have gM : Hid (good M = true) := by unfold Hid; rw [← hM]; exact mkT_good _
                have HK : Hid (Calls Try.prog 36 #[.slice q L.length cV, .int .i64 (E'.length : Int)] wr fun e w' => ∃ G p c, (.slice q L.length cV : Value) = .slice p L.length c ∧ e = .returned (.agg (#[.slice q L.length cV, G] ++ #[.int .i64 (M.length : Int), .int .u64 (FW M 0 : Int), .int .u64 (FW M 1 : Int), .int .u64 (FW M 2 : Int), .int .u64 (FW M 3 : Int), .int .u64 (OW M 0 : Int), .int .u64 (OW M 1 : Int), .int .u64 (OW M 2 : Int), .int .u64 (OW M 3 : Int)])) ∧ KG w' p c L.length 64 B wr.heap.size M G ∧ wr.grownBy w' (Value.slice q L.length cV).ownBlock) := kept_raw L _ _ E'.length M wr hM (by omega) (by omega) oV
                clear hM hdr hxm
                have HI : Hid (IOw w wr E' ((.slice q L.length cV, L) :: H.drop (m + 1)) [] (H.map (·.1)) [] (.slice pB E'.length cB) (.slice (some aH) H.length cH) (.slice none 0 0)) := hI
                clear hI
                go_wp2_with fail
                refine HK.out.mono ?_
                rintro e w4 ⟨G, pv, cv', eV, rfl, hKG, hgk⟩
                injection eV with e1 _ e3
                subst e1 e3
                obtain ⟨qG, cG, rfl⟩ := KG_shape hKG
                have S4 := HI.out.write hgk nV.out
                have EK : Hid (EOK w4 (.slice q L.length cV, .slice qG (L.length + 64) cG, M)) := ⟨_, _, _, _, _, rfl, lL, gM.out, hKG⟩
                have FD : Hid (∀ x ∈ H.drop (m + 1), dis x.1 (.slice q L.length cV) ∧ dis x.1 (.slice qG (L.length + 64) cG)) := by
                  have hp := List.pairwise_cons.1 HI.out.pw
                  have hd : ∀ x ∈ H.drop (m + 1), dis x.1 (.slice q L.length cV) := fun x hx => dis_symm (hp.1 x hx)
                  exact fun x hx => ⟨hd x hx, KG_dis hKG (fun y hy => HI.out.hk y (List.mem_cons_of_mem _ hy)) hd x hx⟩
                have hz4 : w.heap.size ≤ w4.heap.size := S4.be.size
                clear HI hKG hgk oV HK
                go_wp2_with (at_builtin; refine wpList_append_own _ rfl _ _ 59 rfl w.heap.size 65 iK _ 11 120 Try.underlying59 hiK hK0 hK1 hK2 rfl (by decide) _ _ _ rfl (S4.bo.alloc _) ⟨w4.heap.size, 0, none⟩ 1 1 (ecel (.slice q L.length cV, .slice qG (L.length + 64) cG, M)) rfl rfl (World.news_of_block (cs := #[.slice q L.length cV, .slice qG (L.length + 64) cG, .int .i64 (M.length : Int), .int .u64 (FW M 0 : Int), .int .u64 (FW M 1 : Int), .int .u64 (FW M 2 : Int), .int .u64 (FW M 3 : Int), .int .u64 (OW M 0 : Int), .int .u64 (OW M 1 : Int), .int .u64 (OW M 2 : Int), .int .u64 (OW M 3 : Int)]) (t := 65) (fr := (0, 0)) (alloc1O _ _)) (by simp [ecel, cel, Value.oneCell']) (by unfold maxLen; omega) (by omega) (by simp; omega) ?_; intro v5 w5 oB hgrow _)
                have S5 := (S4.below ((Below.refl _ _).alloc (Nat.le_refl _) _)).book (e := (.slice q L.length cV, .slice qG (L.length + 64) cG, M)) oB hgrow (EOK_below EK.out ((Below.refl _ _).alloc (Nat.le_refl _) _)) FD.out
                have R : ∃ (k' : Nat) (E2 : List (Value × Value × List UInt8)), k' ≤ H.length ∧ Value.int .i64 ((m : Int) + 1) = .int .i64 k' ∧ IOw w w5 E2 (H.drop k') [] (H.map (·.1)) [] v5 (.slice (some aH) H.length cH) (.slice none 0 0) ∧ E2.length ≤ 400 + k' :=
                  ⟨m + 1, _, by omega, by go_num, S5, by rw [List.length_append]; simp; omega⟩
                go_roundw
                case rel => first | exact R | ((repeat apply Exists.intro); exact ⟨R, rfl⟩)
                case measure => simp [intOf]; omega
              · have i2 : ¬ (m : Int) < (H.length : Int) := by omega
                go_wp2_with fail
                refine (seen_any E' _ _ _ (by omega) hI.bo hI.eo).mono ?_
                rintro e w5 ⟨rfl, hb5⟩
                have R := bel0 hI.be hb5
                go_wp2
                go_ret
                exact ⟨rfl, R⟩
end Go.Proofs.Ytmblloddhpcdeac
