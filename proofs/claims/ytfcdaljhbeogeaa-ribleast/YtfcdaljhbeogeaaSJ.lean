import Derived.Test.YtfcdaljhbeogeaaSI
import Derived.Test.YtfcdaljhbeogeaaSG
namespace Go.Proofs.Ytfcdaljhbeogeaa
open Go.RowKit
theorem pts_nat {b : Nat} {L : List IRt} (hm : ∀ r ∈ L, rmay b r = true) {x : Int} (hx : x ∈ pts b L) : 0 ≤ x := by
  unfold pts at hx
  rcases List.mem_cons.1 hx with h | h
  · omega
  · obtain ⟨r, hr, h1⟩ := List.mem_flatMap.1 h
    obtain ⟨_, _, m3, _⟩ := may_ok (hm r hr)
    have hp : (0 : Int) ≤ 2 ^ (b - r.2.2.1.toNat) := by rw [pow_cast]; exact Int.natCast_nonneg _
    unfold pt1 at h1
    split at h1
    · simp only [List.mem_cons, List.not_mem_nil, or_false] at h1
      rcases h1 with h1 | h1
      · rw [h1]; exact m3
      · rw [h1]; exact Int.add_nonneg m3 hp
    · simp only [List.mem_cons, List.not_mem_nil, or_false] at h1
      rw [h1]; exact m3
set_option maxRecDepth 100000 in
set_option maxHeartbeats 4000000 in
theorem ribSame_walk (bits : Int) (L : List IRt) (n : Nat) (o : Option Addr) (c : Nat) (w : World) (hL : L.length = n) (hr : IRR w o L) :
    Calls Try.prog 7 #[.int .i64 bits, .slice o n c] w fun e w' => e = .returned (.bool true) ∧ Below w.heap.size w w' := by
  have HAW : Hid (Calls Try.prog 22 #[] w fun e w' => e = .returned (.bool true) ∧ Below w.heap.size w w') := awake_any w
  by_cases h60 : 60 < n
  · have i1 : (60 : Int) < (n : Int) := by omega
    clear hr
    go_enter Try.func7, Try.ntmps7
    go_wp2_with fail
    refine HAW.out.mono ?_
    rintro e W0 ⟨rfl, hb0⟩
    go_wp2_with fail
    go_ret
    exact ⟨rfl, hb0⟩
  have i1 : ¬ (60 : Int) < (n : Int) := by omega
  have hOR : ∀ W, Below w.heap.size w W → Calls Try.prog 16 #[.int .i64 bits, .slice o n c] W fun e w' => ∃ (O : List IRt) (v : Value), e = .returned (.tuple #[v, .int .i64 (rfit bits L)]) ∧ ordR bits L O ∧ w'.ownsRow W.heap.size 59 4 v O.length (rels O) ∧ Below W.heap.size W w' := fun W hW => by
    have := bord_any bits L o c W (by omega) (hr.later hW)
    rw [hL] at this
    exact this
  have hSL : ∀ W, Below w.heap.size w W → Calls Try.prog 28 #[.int .i64 bits, .slice o n c] W fun e w' => ∃ (O : List IRt) (v : Value), e = .returned (.tuple #[v, .int .i64 (rfit bits L)]) ∧ slimR bits L O ∧ w'.ownsRow W.heap.size 59 4 v O.length (rels O) ∧ Below W.heap.size W w' := fun W hW => by
    have := bslim_any bits L o c W (by omega) (hr.later hW)
    rw [hL] at this
    exact this
  by_cases hF : rfit bits L = 0
  rotate_left
  · have HE : Hid (∀ O, (ordR bits L O → O = []) ∧ (slimR bits L O → O = [])) := fun O => by
      unfold ordR slimR
      rw [if_neg hF, if_neg hF]
      exact ⟨fun h => h, fun h => h⟩
    obtain ⟨F, hF2⟩ : ∃ F, rfit bits L = F := ⟨_, rfl⟩
    rw [hF2] at hOR hSL hF
    have y0 : (F == 0) = false := beq_false_of_ne hF
    have y1 : (F == F) = true := beq_self_eq_true F
    have HOR : Hid (∀ W, Below w.heap.size w W → Calls Try.prog 16 #[.int .i64 bits, .slice o n c] W fun e w' => ∃ (O : List IRt) (v : Value), e = .returned (.tuple #[v, .int .i64 F]) ∧ ordR bits L O ∧ w'.ownsRow W.heap.size 59 4 v O.length (rels O) ∧ Below W.heap.size W w') := hOR
    have HSL : Hid (∀ W, Below w.heap.size w W → Calls Try.prog 28 #[.int .i64 bits, .slice o n c] W fun e w' => ∃ (O : List IRt) (v : Value), e = .returned (.tuple #[v, .int .i64 F]) ∧ slimR bits L O ∧ w'.ownsRow W.heap.size 59 4 v O.length (rels O) ∧ Below W.heap.size W w') := hSL
    clear hr hOR hSL hF2
    go_enter Try.func7, Try.ntmps7
    go_wp2_with fail
    refine HAW.out.mono ?_
    rintro e W0 ⟨rfl, hb0⟩
    go_wp2_with fail
    refine (HOR.out _ hb0).mono ?_
    rintro e W1 ⟨O, v1, rfl, ho, o1, hb1⟩
    obtain rfl := (HE.out O).1 ho
    obtain ⟨p1, c1, rfl⟩ := shapeP o1
    go_wp2_with fail
    refine (HSL.out _ (bel0 hb0 hb1)).mono ?_
    rintro e W2 ⟨O, v2, rfl, hs, o2, hb2⟩
    obtain rfl := (HE.out O).2 hs
    obtain ⟨p2, c2, rfl⟩ := shapeP o2
    clear o1 o2 ho hs HOR HSL HE
    go_wp2_with fail
    go_ret
    exact ⟨rfl, bel0 (bel0 hb0 hb1) hb2⟩
  obtain ⟨⟨hb1, hb2⟩, hm⟩ := rfit_ok2 hF
  obtain ⟨b, rfl⟩ : ∃ b : Nat, bits = b := ⟨bits.toNat, by omega⟩
  rw [Int.toNat_natCast] at hm
  have hb32 : b ≤ 32 := by omega
  have k1 : ¬ (b : Int) < 1 := by omega
  have k2 : ¬ (32 : Int) < (b : Int) := by omega
  have HE : Hid (∀ O M, ordR (b : Int) L O → slimR (b : Int) L M → (O.length ≤ n ∧ M.length ≤ O.length) ∧ (∀ r ∈ O, rmay b r = true) ∧ (∀ r ∈ M, rmay b r = true) ∧ ∀ v, outL b v O = outL b v L ∧ outL b v M = outL b v L) := fun O M h1 h2 => by
    unfold ordR at h1
    unfold slimR at h2
    rw [if_pos hF] at h1 h2
    obtain ⟨O2, h3, rfl⟩ := h2
    obtain rfl := ord_uniq h1 h3
    rw [Int.toNat_natCast]
    have s1 := (nedL_sub b (metL b O)).trans (metL_sub b O)
    exact ⟨⟨by rw [← hL]; exact ord_len h1.srt (fun o ho => h1.mem ho), s1.length_le⟩, fun r hr => hm r (h1.mem hr), fun r hr => hm r (h1.mem (s1.subset hr)), fun v => ⟨ord_out hm h1, slim_out hm h1⟩⟩
  have HOR : Hid (∀ W, Below w.heap.size w W → Calls Try.prog 16 #[.int .i64 (b : Int), .slice o n c] W fun e w' => ∃ (O : List IRt) (v : Value), e = .returned (.tuple #[v, .int .i64 0]) ∧ ordR (b : Int) L O ∧ w'.ownsRow W.heap.size 59 4 v O.length (rels O) ∧ Below W.heap.size W w') := by
    unfold Hid
    rw [hF] at hOR
    exact hOR
  have HSL : Hid (∀ W, Below w.heap.size w W → Calls Try.prog 28 #[.int .i64 (b : Int), .slice o n c] W fun e w' => ∃ (O : List IRt) (v : Value), e = .returned (.tuple #[v, .int .i64 0]) ∧ slimR (b : Int) L O ∧ w'.ownsRow W.heap.size 59 4 v O.length (rels O) ∧ Below W.heap.size W w') := by
    unfold Hid
    rw [hF] at hSL
    exact hSL
  have HPT : Hid (∀ W, Below w.heap.size w W → Calls Try.prog 25 #[.int .i64 (b : Int), .slice o n c] W fun e w' => ∃ v : Value, e = .returned v ∧ w'.ownsRow W.heap.size 3 1 v (pts b L).length (iv (pts b L)) ∧ Below W.heap.size W w') := fun W hW => points_any b n L o c W hb32 hL (by omega) (hr.later hW) hm
  have HOU : Hid (∀ (W : World) (v : Nat) (p : Option Addr) (c m : Nat) (S : List IRt), S.length = m → m ≤ n → (∀ r ∈ S, rmay b r = true) → IRR W p S → Calls Try.prog 29 #[.int .i64 (b : Int), .slice p m c, .int .i64 (v : Int)] W fun e w' => e = .returned (.int .i64 (outL b v S)) ∧ Below W.heap.size W w') := fun W v p c m S h1 h2 h3 h4 => out_any b v m S p c W hb32 h1 (by omega) h4 h3
  have HLL : Hid (IRR w o L ∧ L.length = n ∧ ∀ r ∈ L, rmay b r = true) := ⟨hr, hL, hm⟩
  have HZP : Hid (∀ x ∈ pts b L, 0 ≤ x) := fun x hx => pts_nat hm hx
  have hpl := pts_len b L
  rw [hL] at hpl
  obtain ⟨Y, hY⟩ : ∃ Y, pts b L = Y := ⟨_, rfl⟩
  have hY1 : 1 ≤ Y.length := by rw [← hY]; unfold pts; simp
  simp only [hY] at HPT hpl HZP
  clear hr hOR hSL hF hm hb1 hb2 hL hY
  go_enter Try.func7, Try.ntmps7
  go_wp2_with fail
  refine HAW.out.mono ?_
  rintro e W0 ⟨rfl, hb0⟩
  go_wp2_with fail
  refine (HOR.out _ hb0).mono ?_
  rintro e W1 ⟨O, v1, rfl, hO, o1, hb1⟩
  have hbW1 := bel0 hb0 hb1
  obtain ⟨p1, c1, rfl⟩ := shapeP o1
  go_wp2_with fail
  refine (HSL.out _ hbW1).mono ?_
  rintro e W2 ⟨M, v2, rfl, hM, o2, hb2⟩
  have hbW2 := bel0 hbW1 hb2
  obtain ⟨p2, c2, rfl⟩ := shapeP o2
  obtain ⟨⟨g1, g2⟩, g3, g4, g5⟩ := HE.out O M hO hM
  obtain ⟨nO, hnO⟩ : ∃ nO, O.length = nO := ⟨_, rfl⟩
  obtain ⟨nM, hnM⟩ : ∃ nM, M.length = nM := ⟨_, rfl⟩
  have HOO : Hid (IRR W1 p1 O ∧ O.length = nO ∧ (∀ r ∈ O, rmay b r = true) ∧ ∀ v, outL b v O = outL b v L) := ⟨IRR_of_own o1, hnO, g3, fun v => (g5 v).1⟩
  have HMM : Hid (IRR W2 p2 M ∧ M.length = nM ∧ (∀ r ∈ M, rmay b r = true) ∧ ∀ v, outL b v M = outL b v L) := ⟨IRR_of_own o2, hnM, g4, fun v => (g5 v).2⟩
  rw [hnO, hnM] at g2
  rw [hnO] at g1
  simp only [hnO, hnM]
  have g6 : (nM : Int) ≤ (nO : Int) := Int.ofNat_le.2 g2
  have g7 : (nO : Int) ≤ (n : Int) := Int.ofNat_le.2 g1
  clear o1 o2 hO hM HE g3 g4 g5 hnO hnM HOR HSL HAW hb0 hb1
  go_wp2_with fail
  refine (HPT.out _ hbW2).mono ?_
  rintro e W3 ⟨v3, rfl, o3, hb3⟩
  have hbW3 := bel0 hbW2 hb3
  obtain ⟨p3, c3, rfl⟩ := shapeP o3
  obtain ⟨g8, rfl⟩ := rown_at o3 (by omega)
  have HZ : Hid (IRI W3 (some ⟨g8, 0, none⟩) Y) := IRI_of o3
  obtain ⟨z, hz⟩ : ∃ z, Y.length = z := ⟨_, rfl⟩
  have HZN : Hid (Y.length = z) := hz
  rw [hz] at hpl hY1
  simp only [hz]
  have HB3 : Hid (Below W1.heap.size W1 W3 ∧ Below W2.heap.size W2 W3) := ⟨bel0 hb2 hb3, hb3⟩
  clear o3 hz HPT hbW2 hb3 hb2 hbW1
  go_wp2_with fail
  go_loopw [10] (fun vi wr => ∃ i : Nat, vi = .int .i64 (i : Int) ∧ i ≤ z ∧ Below W3.heap.size W3 wr) (fun vi _ => z - (intOf vi).toNat)
  case atStart => exact ⟨0, rfl, Nat.zero_le _, Below.refl _ _⟩
  case round =>
    obtain ⟨i, rfl, hin, hB⟩ := hrel
    by_cases hlt : i < z
    · have j1 : (i : Int) < (z : Int) := by omega
      have j0 : (0 : Int) ≤ (i : Int) := by omega
      obtain ⟨x, hxi⟩ : ∃ x, Y[i]? = some x := ⟨_, List.getElem?_eq_getElem (by rw [HZN.out]; omega)⟩
      have hx0 := HZP.out x (List.mem_of_getElem? hxi)
      obtain ⟨v, rfl⟩ : ∃ v : Nat, x = v := ⟨x.toNat, (Int.toNat_of_nonneg hx0).symm⟩
      have p0 : wr.cell? ⟨g8, i, none⟩ = some (.int .i64 (v : Int)) := by
        have := iri_cell HZ.out hxi hB
        simpa using this
      obtain ⟨X, hX⟩ : ∃ X, outL b v L = X := ⟨_, rfl⟩
      have HC1 : Hid (∀ W, Below W3.heap.size W3 W → Calls Try.prog 29 #[.int .i64 (b : Int), .slice o n c, .int .i64 (v : Int)] W fun e w' => e = .returned (.int .i64 X) ∧ Below W.heap.size W w') := fun W hW => by
        have := HOU.out W v o c n L HLL.out.2.1 (Nat.le_refl _) HLL.out.2.2 (HLL.out.1.later (bel0 hbW3 hW))
        rw [hX] at this
        exact this
      have HC2 : Hid (∀ W, Below W3.heap.size W3 W → Calls Try.prog 29 #[.int .i64 (b : Int), .slice p1 nO c1, .int .i64 (v : Int)] W fun e w' => e = .returned (.int .i64 X) ∧ Below W.heap.size W w') := fun W hW => by
        have := HOU.out W v p1 c1 nO O HOO.out.2.1 g1 HOO.out.2.2.1 (HOO.out.1.later (bel0 HB3.out.1 hW))
        rw [HOO.out.2.2.2, hX] at this
        exact this
      have HC3 : Hid (∀ W, Below W3.heap.size W3 W → Calls Try.prog 29 #[.int .i64 (b : Int), .slice p2 nM c2, .int .i64 (v : Int)] W fun e w' => e = .returned (.int .i64 X) ∧ Below W.heap.size W w') := fun W hW => by
        have := HOU.out W v p2 c2 nM M HMM.out.2.1 (Nat.le_trans g2 g1) HMM.out.2.2.1 (HMM.out.1.later (bel0 HB3.out.2 hW))
        rw [HMM.out.2.2.2, hX] at this
        exact this
      have y1 : (X == X) = true := beq_self_eq_true X
      clear hX hxi hx0
      go_wp2_with fail
      refine (HC1.out _ hB).mono ?_
      rintro e W5 ⟨rfl, hb5⟩
      have hB5 := bel0 hB hb5
      go_wp2_with fail
      refine (HC2.out _ hB5).mono ?_
      rintro e W6 ⟨rfl, hb6⟩
      have hB6 := bel0 hB5 hb6
      go_wp2_with fail
      refine (HC3.out _ hB6).mono ?_
      rintro e W7 ⟨rfl, hb7⟩
      go_wp2_with fail
      go_roundw
      case rel => exact ⟨i + 1, by go_num, by omega, bel0 hB6 hb7⟩
      case measure => simp [intOf]; omega
    · have j1 : ¬ (i : Int) < (z : Int) := by omega
      go_wp2_with fail
      go_ret
      exact ⟨rfl, bel0 hbW3 hB⟩
end Go.Proofs.Ytfcdaljhbeogeaa
