import Derived.Test.YtodhgeolcbmeiabRF
namespace Go.Proofs.Ytodhgeolcbmeiab
open Go.RowKit
theorem alike_ownribSlims {W : World} {Ba Bb : Nat} {va vb : Value} {O : List IRt} (hl : O.length ≤ 281474976710656) (ha : W.ownsRow Ba 34 4 va O.length (rels O)) (hb : W.ownsRow Bb 34 4 vb O.length (rels O)) : Calls Try.prog 8 #[va, vb] W fun e w' => e = .returned (.bool true) ∧ Below W.heap.size W w' := by
  obtain ⟨qa, ca, rfl⟩ := shapeP ha
  obtain ⟨qb, cb, rfl⟩ := shapeP hb
  exact ralike_any O qa qb ca cb W hl (IRR_of_own ha) (IRR_of_own hb)
set_option maxRecDepth 100000 in
set_option maxHeartbeats 2000000 in
theorem ribSlims_walk (bits : Int) (L : List IRt) (n : Nat) (ad : Option Addr) (cap : Nat) (w : World) (hLn : L.length = n) (hr : IRR w ad L) :
    Calls Try.prog 3 #[.int .i64 bits, .slice ad n cap] w fun e w' => e = .returned (.bool true) ∧ Below w.heap.size w w' := by
  by_cases h270 : 270 < n
  · have i1 : (270 : Int) < (n : Int) := by omega
    clear hr
    go_enter Try.func3, Try.ntmps3
    go_wp2_with fail
    go_ret
    exact ⟨rfl, Below.refl _ _⟩
  have i1 : ¬ (270 : Int) < (n : Int) := by omega
  have HCP : Hid (Calls Try.prog 4 #[.slice ad n cap] w fun e w' => ∃ g c' : Nat, e = .returned (.slice (some ⟨g, 0, none⟩) n c') ∧ n + 2 ≤ c' ∧ w'.ownsRow w.heap.size 34 4 (.slice (some ⟨g, 0, none⟩) (n + 2) c') (n + 2) (rels (L ++ [(91, 0, 0, 0), (92, 0, 0, 0)])) ∧ Below w.heap.size w w') := by
    unfold Hid
    subst hLn
    exact copied_own L ad cap w (by omega) hr
  have HB : Hid (∀ (K : List IRt) (W : World) (g c : Nat), K.length = n → IRR W (some ⟨g, 0, none⟩) K → Calls Try.prog 5 #[.int .i64 bits, .slice (some ⟨g, 0, none⟩) n c] W fun e w' => ∃ (O : List IRt) (v : Value), e = .returned (.tuple #[v, .int .i64 (rfit bits K)]) ∧ slimR bits K O ∧ w'.ownsRow W.heap.size 34 4 v O.length (rels O) ∧ Below W.heap.size W w') := fun K W g c hk ir => by
    subst hk
    exact bslim_any bits K (some ⟨g, 0, none⟩) c W (by omega) ir
  have HQ : Hid (∀ (K : List IRt) (W : World) (o : Option Addr) (c : Nat), K.length = n → IRR W o K → Calls Try.prog 6 #[.int .i64 bits, .slice o n c] W fun e w' => ∃ (O : List IRt) (v : Value), e = .returned (.tuple #[v, .int .i64 (rfit bits K)]) ∧ slimR bits K O ∧ w'.ownsRow W.heap.size 34 4 v O.length (rels O) ∧ Below W.heap.size W w') := fun K W o c hk ir => by
    subst hk
    exact qslim_any bits K o c W (by omega) ir
  have HU : Hid (∀ (K : List IRt) (W : World) (g c : Nat) (o : Option Addr) (c2 : Nat), K.length = n → n + 2 ≤ c → IRR W (some ⟨g, 0, none⟩) (K ++ [(91, 0, 0, 0), (92, 0, 0, 0)]) → IRR W o K → Calls Try.prog 9 #[.slice (some ⟨g, 0, none⟩) n c, .slice o n c2] W fun e w' => e = .returned (.bool true) ∧ Below W.heap.size W w') := fun K W g c o c2 hk hc ir ir2 => by
    subst hk
    exact runtouched_any K g c o c2 W (by omega) hc ir ir2
  have HCH : Hid (∀ W : World, Below w.heap.size w W → Calls Try.prog 10 #[.slice ad n cap] W fun e w' => ∃ v : Value, e = .returned v ∧ w'.ownsRow W.heap.size 34 4 v n (rels (chg L n)) ∧ Below W.heap.size W w') := fun W hW => by
    subst hLn
    exact changed_any L ad cap W (by omega) (hr.later hW)
  have HI : Hid (IRR w ad L) := hr
  have HLN : Hid (L.length = n) := hLn
  have HDN : Hid ((chg L n).length = n) := by unfold Hid; rw [chg_len]; exact hLn
  have HOL : Hid (∀ (K O : List IRt), K.length = n → slimR bits K O → O.length ≤ 281474976710656) := fun K O hk ho => Nat.le_trans (slimR_len ho) (by omega)
  clear hr hLn
  go_enter Try.func3, Try.ntmps3
  go_wp2_with fail
  refine HCP.out.mono ?_
  rintro e W1 ⟨g, c', rfl, hc', hI, hb1⟩
  have HO1 : Hid (W1.ownsRow w.heap.size 34 4 (.slice (some ⟨g, 0, none⟩) (n + 2) c') (n + 2) (rels (L ++ [(91, 0, 0, 0), (92, 0, 0, 0)]))) := hI
  have HBB : Hid (Calls Try.prog 5 #[.int .i64 bits, .slice (some ⟨g, 0, none⟩) n c'] W1 fun e w' => ∃ (O : List IRt) (v : Value), e = .returned (.tuple #[v, .int .i64 (rfit bits L)]) ∧ slimR bits L O ∧ w'.ownsRow W1.heap.size 34 4 v O.length (rels O) ∧ Below W1.heap.size W1 w') := HB.out L W1 g c' HLN.out (IRR_pre (IRR_of_own hI))
  clear hI HCP
  obtain ⟨F, hF⟩ : ∃ F, rfit bits L = F := ⟨_, rfl⟩
  rw [hF] at HBB
  have HQL : Hid (∀ W : World, Below w.heap.size w W → Calls Try.prog 6 #[.int .i64 bits, .slice ad n cap] W fun e w' => ∃ (O : List IRt) (v : Value), e = .returned (.tuple #[v, .int .i64 (F)]) ∧ slimR bits L O ∧ w'.ownsRow W.heap.size 34 4 v O.length (rels O) ∧ Below W.heap.size W w') := fun W hW => by
    have := HQ.out L W ad cap HLN.out (HI.out.later hW)
    rw [hF] at this
    exact this
  have y1 : (F == F) = true := beq_self_eq_true F
  clear hF
  go_wp2_with fail
  refine HBB.out.mono ?_
  rintro e W2 ⟨O, va, rfl, hO, oa, hb2⟩
  have hB2 := bel0 hb1 hb2
  have HOA : Hid (slimR bits L O ∧ W2.ownsRow W1.heap.size 34 4 va O.length (rels O)) := ⟨hO, oa⟩
  clear hO oa HBB
  go_wp2_with fail
  refine (HQL.out _ hB2).mono ?_
  rintro e W3 ⟨O', vb, rfl, hO', ob, hb3⟩
  obtain rfl : O' = O := slimR_uniq hO' HOA.out.1
  have hB3 := bel0 hB2 hb3
  have hC3 := bel0 hb2 hb3
  have HAL : Hid (Calls Try.prog 8 #[va, vb] W3 fun e w' => e = .returned (.bool true) ∧ Below W3.heap.size W3 w') := alike_ownribSlims (HOL.out _ _ HLN.out HOA.out.1) (owns_below HOA.out.2 hb3) ob
  clear hO' ob HOA
  go_wp2_with fail
  refine (rnum_any F _).mono ?_
  rintro e W4 ⟨rfl, rfl⟩
  go_wp2_with fail
  refine HAL.out.mono ?_
  rintro e W5 ⟨rfl, hb5⟩
  have hB5 := bel0 hB3 hb5
  have hC5 := bel0 hC3 hb5
  have HUT : Hid (Calls Try.prog 9 #[.slice (some ⟨g, 0, none⟩) n c', .slice ad n cap] W5 fun e w' => e = .returned (.bool true) ∧ Below W5.heap.size W5 w') := HU.out L W5 g c' ad cap HLN.out hc' (IRR_of_own (owns_below HO1.out hC5)) (HI.out.later hB5)
  clear HAL
  go_wp2_with fail
  refine HUT.out.mono ?_
  rintro e W6 ⟨rfl, hb6⟩
  have hB6 := bel0 hB5 hb6
  have hC6 := bel0 hC5 hb6
  clear HUT
  go_wp2_with fail
  refine (HCH.out _ hB6).mono ?_
  rintro e W7 ⟨vd, rfl, od, hb7⟩
  have hB7 := bel0 hB6 hb7
  have HO7 := owns_below HO1.out (bel0 hC6 hb7)
  have HLY : Hid (Calls Try.prog 11 #[.slice (some ⟨g, 0, none⟩) n c', vd] W7 fun e w' => e = .returned (.tuple #[]) ∧ w'.ownsRow w.heap.size 34 4 (.slice (some ⟨g, 0, none⟩) (n + 2) c') (n + 2) (rels (chg L n ++ [(91, 0, 0, 0), (92, 0, 0, 0)])) ∧ W7.grownBy w' (some g)) := lay_any (by omega) HLN.out HDN.out HO7 od (fun k e => by
    have h1 := (od.lt k e).1
    have h2 := (HO1.out.lt g rfl).2
    have h3 := hC6.size
    omega)
  have HDK : Hid (∀ w' : World, W7.grownBy w' (some g) → w'.ownsRow W6.heap.size 34 4 vd n (rels (chg L n)) ∧ Below w.heap.size w w') := fun w' hg => ⟨od.kept hg (by
    cases e : vd.ownBlock with
    | none => exact .inl rfl
    | some k =>
      refine .inr (fun e2 => ?_)
      have h1 := (od.lt k e).1
      have h2 := (HO1.out.lt g rfl).2
      have h3 := hC6.size
      injection e2 with e2
      omega), hB7.grown hg hB7.size (fun k e => by
    injection e with e
    have := (HO1.out.lt g rfl).1
    omega)⟩
  obtain ⟨qd, cd, rfl⟩ := shapeP od
  clear HO7 od
  go_wp2_with fail
  refine HLY.out.mono ?_
  rintro e W8 ⟨rfl, o8, g8⟩
  obtain ⟨d8, hB8⟩ := HDK.out W8 g8
  have HO8 : Hid (W8.ownsRow w.heap.size 34 4 (.slice (some ⟨g, 0, none⟩) (n + 2) c') (n + 2) (rels (chg L n ++ [(91, 0, 0, 0), (92, 0, 0, 0)]))) := o8
  have HD8 : Hid (W8.ownsRow W6.heap.size 34 4 (.slice qd n cd) n (rels (chg L n))) := d8
  clear HLY HDK g8 o8 d8
  obtain ⟨G, hG⟩ : ∃ G, rfit bits (chg L n) = G := ⟨_, rfl⟩
  have HB8 : Hid (Calls Try.prog 5 #[.int .i64 bits, .slice (some ⟨g, 0, none⟩) n c'] W8 fun e w' => ∃ (O : List IRt) (v : Value), e = .returned (.tuple #[v, .int .i64 (G)]) ∧ slimR bits (chg L n) O ∧ w'.ownsRow W8.heap.size 34 4 v O.length (rels O) ∧ Below W8.heap.size W8 w') := by
    have := HB.out (chg L n) W8 g c' HDN.out (IRR_pre (IRR_of_own HO8.out))
    rw [hG] at this
    exact this
  have HQ8 : Hid (∀ W : World, Below W8.heap.size W8 W → Calls Try.prog 6 #[.int .i64 bits, .slice qd n cd] W fun e w' => ∃ (O : List IRt) (v : Value), e = .returned (.tuple #[v, .int .i64 (G)]) ∧ slimR bits (chg L n) O ∧ w'.ownsRow W.heap.size 34 4 v O.length (rels O) ∧ Below W.heap.size W w') := fun W hW => by
    have := HQ.out (chg L n) W qd cd HDN.out ((IRR_of_own HD8.out).later hW)
    rw [hG] at this
    exact this
  have y2 : (G == G) = true := beq_self_eq_true G
  clear hG
  go_wp2_with fail
  refine HB8.out.mono ?_
  rintro e W9 ⟨P, vp, rfl, hP, op, hb9⟩
  have HPA : Hid (slimR bits (chg L n) P ∧ W9.ownsRow W8.heap.size 34 4 vp P.length (rels P)) := ⟨hP, op⟩
  clear hP op HB8
  go_wp2_with fail
  refine (HQ8.out _ hb9).mono ?_
  rintro e W10 ⟨P', vq, rfl, hP', oq, hb10⟩
  obtain rfl : P' = P := slimR_uniq hP' HPA.out.1
  have hC10 := bel0 hb9 hb10
  have HAL : Hid (Calls Try.prog 8 #[vp, vq] W10 fun e w' => e = .returned (.bool true) ∧ Below W10.heap.size W10 w') := alike_ownribSlims (HOL.out _ _ HDN.out HPA.out.1) (owns_below HPA.out.2 hb10) oq
  clear hP' oq HPA
  go_wp2_with fail
  refine (rnum_any G _).mono ?_
  rintro e W11 ⟨rfl, rfl⟩
  go_wp2_with fail
  refine HAL.out.mono ?_
  rintro e W12 ⟨rfl, hb12⟩
  have hC12 := bel0 hC10 hb12
  have HUT : Hid (Calls Try.prog 9 #[.slice (some ⟨g, 0, none⟩) n c', .slice qd n cd] W12 fun e w' => e = .returned (.bool true) ∧ Below W12.heap.size W12 w') := HU.out (chg L n) W12 g c' qd cd HDN.out hc' (IRR_of_own (owns_below HO8.out hC12)) ((IRR_of_own HD8.out).later hC12)
  clear HAL
  go_wp2_with fail
  refine HUT.out.mono ?_
  rintro e W13 ⟨rfl, hb13⟩
  go_wp2_with fail
  go_ret
  exact ⟨rfl, hB8.trans ((bel0 hC12 hb13).mono hB8.size)⟩
end Go.Proofs.Ytodhgeolcbmeiab
