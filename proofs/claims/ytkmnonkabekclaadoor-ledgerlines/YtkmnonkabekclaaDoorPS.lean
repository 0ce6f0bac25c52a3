import Derived.Test.YtkmnonkabekclaaDoorPR
namespace Go.Proofs.YtkmnonkabekclaaDoor
open Go.RowKit Go.Shelf
set_option maxRecDepth 100000 in
set_option maxHeartbeats 8000000 in
theorem ledgerLines_walk (L : List (List UInt8)) (p : Option Addr) (n c : Nat) (tx : List UInt8) (w : World) (hn : L.length = n) (hr : TR w p L) (hx : LB L) (htx : tx.length ≤ 281474976710656) (hv : VWP w) :
    Calls Tryd.prog 6 #[.slice p n c, .string ⟨tx.toArray⟩] w fun e w' => e = .returned (.bool true) ∧ Below w.heap.size w w' := by
  have HR : Hid (TR w p L) := hr
  have HN : Hid (L.length = n) := hn
  have HX : Hid (LB L) := hx
  have HV : Hid (∀ W, Below w.heap.size w W → VWP W) := fun W h => hv.below h
  clear hr hn hx hv
  by_cases h1 : 200000 < n
  · have h1' : (200000 : Int) < (n : Int) := by omega
    go_enter Tryd.func6, Tryd.ntmps6
    go_wp2_with fail
    go_ret
    exact ⟨rfl, Below.refl _ _⟩
  have h1' : ¬ (200000 : Int) < (n : Int) := by omega
  have hA : ∀ (W : World) (o : Obj), Below w.heap.size w W → Below w.heap.size w (W.alloc o) := fun W o h => belAZ h o
  go_enter Tryd.func6, Tryd.ntmps6
  go_wp2_with (at_builtin; refine app_strs rfl _ _ rfl w.heap.size _ [] rfl (OS_empty (alloc_getZ _ _) (Nat.le_refl _)) _ _ _ L rfl HN.out (HR.out.below (hA _ _ (Below.refl _ _))) (by rw [List.length_nil]; omega) (hA _ _ (Below.refl _ _)).size ?_)
  intro v1 W1 o1 g1 _
  have b1 : Below w.heap.size w W1 := bel_grZ (hA _ _ (Below.refl _ _)) g1 (fun k e => by cases e; exact Nat.le_refl _)
  obtain ⟨p1, c1, rfl⟩ := shapeZ o1
  have HO1 : Hid (TR W1 p1 L) := OS.tr o1
  have HB1 : Hid (Below w.heap.size w W1) := b1
  clear o1 g1 b1
  simp only [HN.out]
  have HRM := roomy_any L p n c W1 HN.out (by omega) (HR.out.below HB1.out)
  go_wp2_with fail
  refine HRM.mono ?_
  rintro e W2 ⟨g, cap, rfl, hcap, o2, b2⟩
  have HG2 : Hid (∀ W, Below W2.heap.size W2 W → ∀ (k : Nat) (x : List UInt8), (L ++ [behT, farT])[k]? = some x → W.cell? ⟨g, k, none⟩ = some (.string ⟨x.toArray⟩)) := fun W h k x hx => (o2.below h).at hx
  have HO2 : Hid (TR W2 p1 L) := HO1.out.below b2
  have HB2 : Hid (Below w.heap.size w W2) := bel0Z HB1.out b2
  clear o2 b2 HRM HO1 HB1
  have HP := pack_any L (some ⟨g, 0, none⟩) n cap W2 HN.out (by omega) (HV.out W2 HB2.out).pow (TR.pre (HG2.out W2 (Below.refl _ _))) HX.out
  obtain ⟨PS, hPS⟩ : ∃ PS, pkS L = PS := ⟨_, rfl⟩
  obtain ⟨PE, hPE⟩ : ∃ PE, pkE L = PE := ⟨_, rfl⟩
  have HPQ : Hid (∀ w e w', PKQ L w e w' → e = .returned (.tuple #[.string ⟨PS.toArray⟩, .int .i64 (PE : Int)]) ∧ Below w.heap.size w w') := fun w e w' h => by rw [← hPS, ← hPE]; exact h
  have HPF : Hid (PE = 0 → PS.length ≤ 16384 ∧ unW PS = some L) := fun h => by
    rw [← hPE] at h
    rw [← hPS]
    obtain ⟨e1, e2, e3⟩ := forth_pk h
    exact ⟨by rw [e1]; exact e2, e3⟩
  have HP2 : Hid (PE ≠ 0 → PE = 2) := fun h => by rw [← hPE] at h ⊢; exact pkE_two h
  clear hPS hPE
  go_wp2_with fail
  refine (HP.mono (HPQ.out _)).mono ?_
  rintro e W3 ⟨rfl, b3⟩
  have HO3 : Hid (TR W3 p1 L) := HO2.out.below b3
  have HB3 : Hid (Below w.heap.size w W3) := bel0Z HB2.out b3
  have HU := unturned_any L p1 n c1 g cap W3 HN.out (by omega) hcap (HG2.out W3 b3) HO3.out
  clear b3 HP HO2 HB2 HG2
  go_wp2_with fail
  refine HU.mono ?_
  rintro e W4 ⟨rfl, b4⟩
  have HO4 : Hid (TR W4 p1 L) := HO3.out.below b4
  have HB4 : Hid (Below w.heap.size w W4) := bel0Z HB3.out b4
  clear b4 HU HO3 HB3
  by_cases h0 : PE = 0
  · subst h0
    obtain ⟨hps, hun⟩ := HPF.out rfl
    have HU5 := unpack_any PS W4 (by omega) (HV.out W4 HB4.out)
    have HUN : Hid (unW PS = some L) := hun
    clear hun HPF HP2 HPQ
    go_wp2_with fail
    refine HU5.mono ?_
    rintro e W5 ⟨⟨v5, E5, rfl, hc5⟩, b5⟩
    rcases hc5 with ⟨a, _⟩ | ⟨_, ⟨u, _⟩ | ⟨M, u, rfl, o5⟩⟩
    · omega
    · rw [HUN.out] at u; cases u
    rw [HUN.out] at u
    obtain rfl := Option.some.inj u
    obtain ⟨q5, c5, rfl⟩ := shapeZ o5
    have HT1 : Hid (TR W5 q5 L) := OS.tr o5
    have HT2 : Hid (TR W5 p1 L) := HO4.out.below b5
    have HB5 : Hid (Below w.heap.size w W5) := bel0Z HB4.out b5
    clear o5 b5 u HU5 HUN HO4 HB4
    simp only [HN.out]
    go_wp2_with fail
    go_loopw [11] (fun vi wr => ∃ i : Nat, vi = .int .i64 (i : Int) ∧ i ≤ n ∧ Hid (Below W5.heap.size W5 wr)) (fun vi _ => n - (intOf vi).toNat)
    case atStart => exact ⟨0, rfl, Nat.zero_le _, Below.refl _ _⟩
    case round =>
      obtain ⟨i, rfl, hi, HBW⟩ := hrel
      by_cases hlt : i < n
      · obtain ⟨x, hx⟩ : ∃ x, L[i]? = some x := ⟨_, List.getElem?_eq_getElem (by rw [HN.out]; exact hlt)⟩
        obtain ⟨g1, o1, rfl, k1⟩ := HT1.out i x hx
        obtain ⟨g2, o2, rfl, k2⟩ := HT2.out i x hx
        have j0 : (0 : Int) ≤ (i : Int) := by omega
        have j1 : (i : Int) < (n : Int) := by omega
        have HC1 : Hid (∀ U, Below wr.heap.size wr U → U.cell? ⟨g1, o1 + i, none⟩ = some (.string ⟨x.toArray⟩)) := fun U hU => ((bel0Z HBW.out hU).cell (World.block_lt_of_cell? W5 _ k1)).trans k1
        have HC2 : Hid (∀ U, Below wr.heap.size wr U → U.cell? ⟨g2, o2 + i, none⟩ = some (.string ⟨x.toArray⟩)) := fun U hU => ((bel0Z HBW.out hU).cell (World.block_lt_of_cell? W5 _ k2)).trans k2
        clear hx k1 k2
        go_wp2_with fail
        refine quiet_lit3 (C := fun U => Below wr.heap.size wr U) (by kernel_rfl) (by kernel_rfl) (show Below _ _ _ from (Below.refl _ _).drew) ?_
        go_big_quiet_want
        go_big_quiet_op
        go_big_quiet_on
        go_big_quiet_want
        go_big_quiet_op
        go_big_quiet_on
        go_big_quiet_want
        refine ⟨.pointer (some ⟨g1, o1 + i, none⟩), fun W hW => ?_, ?_⟩
        · go_simp
        go_big_quiet_on
        simp only [Act.put, List.setIfInBounds_toArray, List.set_cons_zero, List.set_cons_succ]
        go_big_quiet_want
        refine ⟨.string ⟨x.toArray⟩, fun W hW => ?_, ?_⟩
        · have cx := HC1.out W hW
          go_simp
        go_big_quiet_on
        simp only [Act.put, List.setIfInBounds_toArray, List.set_cons_zero, List.set_cons_succ]
        go_big_quiet_want
        go_big_quiet_op
        go_big_quiet_on
        go_big_quiet_want
        go_big_quiet_op
        go_big_quiet_on
        go_big_quiet_want
        refine ⟨.pointer (some ⟨g2, o2 + i, none⟩), fun W hW => ?_, ?_⟩
        · go_simp
        go_big_quiet_on
        simp only [Act.put, List.setIfInBounds_toArray, List.set_cons_zero, List.set_cons_succ]
        go_big_quiet_want
        refine ⟨.string ⟨x.toArray⟩, fun W hW => ?_, ?_⟩
        · have cx := HC2.out W hW
          go_simp
        go_big_quiet_on
        simp only [Act.put, List.setIfInBounds_toArray, List.set_cons_zero, List.set_cons_succ]
        go_big_quiet_want
        refine ⟨.bool false, fun W hW => ?_, ?_⟩
        · go_simp
        go_big_quiet_on
        simp only [Act.put, List.setIfInBounds_toArray, List.set_cons_zero, List.set_cons_succ]
        refine wpQuiet_nil ?_
        intro W6 hW6
        have HB6 : Hid (Below W5.heap.size W5 W6) := bel0Z HBW.out hW6
        clear HC1 HC2 hW6 HBW
        go_wp2_with fail
        exact ⟨⟨i + 1, rfl, by omega, HB6⟩, by simp only [intOf]; omega⟩
      · obtain rfl : i = n := by omega
        have HBX : Hid (Below w.heap.size w wr) := bel0Z HB5.out HBW.out
        clear HT1 HT2 hlt hi HB5 HBW
        have HY := unpack_any tx wr htx (HV.out wr HBX.out)
        go_wp2_with fail
        refine HY.mono ?_
        rintro e W6 ⟨⟨v6, E6, rfl, hc6⟩, b6⟩
        have HB6 : Hid (Below w.heap.size w W6) := bel0Z HBX.out b6
        clear HY b6 HBX
        rcases hc6 with ⟨_, rfl, rfl⟩ | ⟨htl, ⟨_, rfl, rfl⟩ | ⟨M, u, rfl, o6⟩⟩
        · go_wp2_with fail
          have HX := unpack_any [49, 58, 97] W6 (by decide) (HV.out W6 HB6.out)
          go_wp2_with fail
          refine HX.mono ?_
          rintro e W9 ⟨⟨v9, E9, rfl, hc9⟩, b9⟩
          rcases hc9 with ⟨a, _⟩ | ⟨_, ⟨u, _⟩ | ⟨M9, u, rfl, o9⟩⟩
          · simp at a
          · rw [ex_V] at u; cases u
          rw [ex_V] at u
          obtain rfl := Option.some.inj u
          obtain ⟨q9, c9, rfl⟩ := shapeZ o9
          have HB9 : Hid (Below w.heap.size w W9) := bel0Z HB6.out b9
          clear o9 b9 u HX
          go_wp2_with fail
          go_ret
          exact ⟨rfl, HB9.out⟩
        · go_wp2_with fail
          have HX := unpack_any [49, 58, 97] W6 (by decide) (HV.out W6 HB6.out)
          go_wp2_with fail
          refine HX.mono ?_
          rintro e W9 ⟨⟨v9, E9, rfl, hc9⟩, b9⟩
          rcases hc9 with ⟨a, _⟩ | ⟨_, ⟨u, _⟩ | ⟨M9, u, rfl, o9⟩⟩
          · simp at a
          · rw [ex_V] at u; cases u
          rw [ex_V] at u
          obtain rfl := Option.some.inj u
          obtain ⟨q9, c9, rfl⟩ := shapeZ o9
          have HB9 : Hid (Below w.heap.size w W9) := bel0Z HB6.out b9
          clear o9 b9 u HX
          go_wp2_with fail
          go_ret
          exact ⟨rfl, HB9.out⟩
        obtain ⟨es, ee, hlb, hml⟩ := back_pk htl u
        obtain ⟨q6, c6, rfl⟩ := shapeZ o6
        have HPM := pack_any M q6 M.length c6 W6 rfl (by omega) (HV.out W6 HB6.out).pow (OS.tr o6) hlb
        unfold PKQ at HPM
        rw [es, ee] at HPM
        clear u o6 es ee hlb
        go_wp2_with fail
        refine HPM.mono ?_
        rintro e W7 ⟨rfl, b7⟩
        have HB7 : Hid (Below w.heap.size w W7) := bel0Z HB6.out b7
        clear HPM b7 HB6
        go_wp2_with fail
        have HX := unpack_any [49, 58, 97] W7 (by decide) (HV.out W7 HB7.out)
        go_wp2_with fail
        refine HX.mono ?_
        rintro e W9 ⟨⟨v9, E9, rfl, hc9⟩, b9⟩
        rcases hc9 with ⟨a, _⟩ | ⟨_, ⟨u, _⟩ | ⟨M9, u, rfl, o9⟩⟩
        · simp at a
        · rw [ex_V] at u; cases u
        rw [ex_V] at u
        obtain rfl := Option.some.inj u
        obtain ⟨q9, c9, rfl⟩ := shapeZ o9
        have HB9 : Hid (Below w.heap.size w W9) := bel0Z HB7.out b9
        clear o9 b9 u HX
        go_wp2_with fail
        go_ret
        exact ⟨rfl, HB9.out⟩
  · obtain rfl := HP2.out h0
    clear HPF HP2 HPQ h0 HO4
    have HY := unpack_any tx W4 htx (HV.out W4 HB4.out)
    go_wp2_with fail
    refine HY.mono ?_
    rintro e W6 ⟨⟨v6, E6, rfl, hc6⟩, b6⟩
    have HB6 : Hid (Below w.heap.size w W6) := bel0Z HB4.out b6
    clear HY b6 HB4
    rcases hc6 with ⟨_, rfl, rfl⟩ | ⟨htl, ⟨_, rfl, rfl⟩ | ⟨M, u, rfl, o6⟩⟩
    · go_wp2_with fail
      have HX := unpack_any [49, 58, 97] W6 (by decide) (HV.out W6 HB6.out)
      go_wp2_with fail
      refine HX.mono ?_
      rintro e W9 ⟨⟨v9, E9, rfl, hc9⟩, b9⟩
      rcases hc9 with ⟨a, _⟩ | ⟨_, ⟨u, _⟩ | ⟨M9, u, rfl, o9⟩⟩
      · simp at a
      · rw [ex_V] at u; cases u
      rw [ex_V] at u
      obtain rfl := Option.some.inj u
      obtain ⟨q9, c9, rfl⟩ := shapeZ o9
      have HB9 : Hid (Below w.heap.size w W9) := bel0Z HB6.out b9
      clear o9 b9 u HX
      go_wp2_with fail
      go_ret
      exact ⟨rfl, HB9.out⟩
    · go_wp2_with fail
      have HX := unpack_any [49, 58, 97] W6 (by decide) (HV.out W6 HB6.out)
      go_wp2_with fail
      refine HX.mono ?_
      rintro e W9 ⟨⟨v9, E9, rfl, hc9⟩, b9⟩
      rcases hc9 with ⟨a, _⟩ | ⟨_, ⟨u, _⟩ | ⟨M9, u, rfl, o9⟩⟩
      · simp at a
      · rw [ex_V] at u; cases u
      rw [ex_V] at u
      obtain rfl := Option.some.inj u
      obtain ⟨q9, c9, rfl⟩ := shapeZ o9
      have HB9 : Hid (Below w.heap.size w W9) := bel0Z HB6.out b9
      clear o9 b9 u HX
      go_wp2_with fail
      go_ret
      exact ⟨rfl, HB9.out⟩
    obtain ⟨es, ee, hlb, hml⟩ := back_pk htl u
    obtain ⟨q6, c6, rfl⟩ := shapeZ o6
    have HPM := pack_any M q6 M.length c6 W6 rfl (by omega) (HV.out W6 HB6.out).pow (OS.tr o6) hlb
    unfold PKQ at HPM
    rw [es, ee] at HPM
    clear u o6 es ee hlb
    go_wp2_with fail
    refine HPM.mono ?_
    rintro e W7 ⟨rfl, b7⟩
    have HB7 : Hid (Below w.heap.size w W7) := bel0Z HB6.out b7
    clear HPM b7 HB6
    go_wp2_with fail
    have HX := unpack_any [49, 58, 97] W7 (by decide) (HV.out W7 HB7.out)
    go_wp2_with fail
    refine HX.mono ?_
    rintro e W9 ⟨⟨v9, E9, rfl, hc9⟩, b9⟩
    rcases hc9 with ⟨a, _⟩ | ⟨_, ⟨u, _⟩ | ⟨M9, u, rfl, o9⟩⟩
    · simp at a
    · rw [ex_V] at u; cases u
    rw [ex_V] at u
    obtain rfl := Option.some.inj u
    obtain ⟨q9, c9, rfl⟩ := shapeZ o9
    have HB9 : Hid (Below w.heap.size w W9) := bel0Z HB7.out b9
    clear o9 b9 u HX
    go_wp2_with fail
    go_ret
    exact ⟨rfl, HB9.out⟩
end Go.Proofs.YtkmnonkabekclaaDoor
