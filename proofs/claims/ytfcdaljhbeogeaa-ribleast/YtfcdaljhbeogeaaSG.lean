import Derived.Test.YtfcdaljhbeogeaaSF
import Derived.Laws.AppendOwnNone
namespace Go.Proofs.Ytfcdaljhbeogeaa
open Go.RowKit
theorem ivk_news {w : World} {ad : Addr} {V : List Int} (h : IRI w (some ad) V) (j : Nat) (u : Value) (hu : (iv V)[j]? = some u) : w.cell? (ad.add j) = some u := by
  unfold iv at hu
  rw [List.getElem?_map] at hu
  obtain ⟨x, hx, rfl⟩ := Option.map_eq_some_iff.1 hu
  obtain ⟨g, o0, e, hc⟩ := h w (Below.refl _ _) j x hx
  injection e with e
  subst e
  unfold Addr.add
  split
  · rename_i e
    subst e
    simpa using hc
  · exact hc
theorem ivk_one (V : List Int) : ∀ u ∈ iv V, u.oneCell' = true := fun u hu => by
  unfold iv at hu
  obtain ⟨x, -, rfl⟩ := List.mem_map.1 hu
  rfl
theorem shb {b : Nat} (hb : b ≤ 32) : ∃ Pb : Nat, 2 ^ b = Pb ∧ (0 : Int) ≤ (b : Int) ∧ (b : Int) < 64 ∧ wrap64 ((2 : Int) ^ b) = (Pb : Int) := by
  have hp2 : 2 ^ b ≤ 2 ^ 32 := Nat.pow_le_pow_right (by decide) (by omega)
  refine ⟨2 ^ b, rfl, by omega, by omega, ?_⟩
  rw [pow_cast]
  generalize 2 ^ b = Q at hp2 ⊢
  exact w64 (by omega) (by omega)
theorem rfit_ok2 {bits : Int} {L : List IRt} (h : rfit bits L = 0) : (1 ≤ bits ∧ bits ≤ 32) ∧ ∀ r ∈ L, rmay bits.toNat r = true := by
  unfold rfit at h
  split at h
  · cases h
  · split at h
    · cases h
    · rename_i h2
      split at h
      · rename_i h3
        exact ⟨Classical.not_not.1 h2, fun r hr => List.all_eq_true.1 h3 r hr⟩
      · cases h
theorem rlook_in {b v : Nat} {L : List IRt} (hf : rfit (b : Int) L = 0) (hv : v < 2 ^ b) : rlook (b : Int) L (v : Int) = ((rfirst b v L L.length : Int) - 1, 0) := by
  unfold rlook
  rw [if_neg (fun h => h hf), if_neg (fun h => h ⟨Int.natCast_nonneg _, by rw [Int.toNat_natCast]; exact Int.ofNat_lt.2 hv⟩), Int.toNat_natCast, Int.toNat_natCast]
theorem rlook_out {b : Nat} {x : Int} {L : List IRt} (hf : rfit (b : Int) L = 0) (hv : ¬ (0 ≤ x ∧ x < ((2 ^ b : Nat) : Int))) : rlook (b : Int) L x = (0, 1) := by
  unfold rlook
  rw [if_neg (fun h => h hf), if_pos (by rw [Int.toNat_natCast]; exact hv)]
set_option maxRecDepth 100000 in
set_option maxHeartbeats 4000000 in
theorem ribLongest_walk (bits : Int) (L : List IRt) (V : List Int) (n nd : Nat) (o ov : Option Addr) (c cv : Nat) (w : World) (hL : L.length = n) (hV : V.length = nd) (hnd : nd ≤ 1048576) (hn : n ≤ 281474976710656) (hr : IRR w o L) (hv : IRI w ov V) (hov : ov = none → cv = 0) :
    Calls Try.prog 6 #[.int .i64 bits, .slice o n c, .slice ov nd cv] w fun e w' => e = .returned (.bool true) ∧ Below w.heap.size w w' := by
  have HAW : Hid (Calls Try.prog 22 #[] w fun e w' => e = .returned (.bool true) ∧ Below w.heap.size w w') := awake_any w
  by_cases h60 : 60 < n
  · have i1 : (60 : Int) < (n : Int) := by omega
    clear hr hv
    go_enter Try.func6, Try.ntmps6
    go_wp2_with fail
    refine HAW.out.mono ?_
    rintro e W0 ⟨rfl, hb0⟩
    go_wp2_with fail
    go_ret
    exact ⟨rfl, hb0⟩
  have i1 : ¬ (60 : Int) < (n : Int) := by omega
  have hOR : ∀ W, Below w.heap.size w W → Calls Try.prog 16 #[.int .i64 bits, .slice o n c] W fun e w' => ∃ v : Value, e = .returned (.tuple #[v, .int .i64 (rfit bits L)]) ∧ Below W.heap.size W w' := fun W hW => by
    have := bord_any bits L o c W (by omega) (hr.later hW)
    rw [hL] at this
    refine this.mono ?_
    rintro e w' ⟨O, v, rfl, -, -, hb⟩
    exact ⟨v, rfl, hb⟩
  by_cases hF : rfit bits L = 0
  rotate_left
  · obtain ⟨F, hF2⟩ : ∃ F, rfit bits L = F := ⟨_, rfl⟩
    rw [hF2] at hOR hF
    have y0 : (F == 0) = false := beq_false_of_ne hF
    have HOR : Hid (∀ W, Below w.heap.size w W → Calls Try.prog 16 #[.int .i64 bits, .slice o n c] W fun e w' => ∃ v : Value, e = .returned (.tuple #[v, .int .i64 F]) ∧ Below W.heap.size W w') := hOR
    clear hr hv hOR hF2
    go_enter Try.func6, Try.ntmps6
    go_wp2_with fail
    refine HAW.out.mono ?_
    rintro e W0 ⟨rfl, hb0⟩
    go_wp2_with fail
    refine (HOR.out _ hb0).mono ?_
    rintro e W1 ⟨v, rfl, hb1⟩
    go_wp2_with fail
    go_ret
    exact ⟨rfl, bel0 hb0 hb1⟩
  obtain ⟨⟨hb1, hb2⟩, hm⟩ := rfit_ok2 hF
  obtain ⟨b, rfl⟩ : ∃ b : Nat, bits = b := ⟨bits.toNat, by omega⟩
  rw [Int.toNat_natCast] at hm
  have hb32 : b ≤ 32 := by omega
  have k1 : ¬ (b : Int) < 1 := by omega
  have k2 : ¬ (32 : Int) < (b : Int) := by omega
  obtain ⟨i8, hi8, hy0, hy1, hy2⟩ := info_parts info_int8
  obtain ⟨Pb, hPb, b2, b3, b4⟩ := shb hb32
  have B5 : Hid (IntKind.i64.wrap ((2 : Int) ^ b) = (Pb : Int)) := by unfold Hid; rw [IntWalk.i64_left]; exact b4
  have HOR : Hid (∀ W, Below w.heap.size w W → Calls Try.prog 16 #[.int .i64 (b : Int), .slice o n c] W fun e w' => ∃ v : Value, e = .returned (.tuple #[v, .int .i64 0]) ∧ Below W.heap.size W w') := by
    unfold Hid
    rw [hF] at hOR
    exact hOR
  have HPT : Hid (∀ W, Below w.heap.size w W → Calls Try.prog 25 #[.int .i64 (b : Int), .slice o n c] W fun e w' => ∃ v : Value, e = .returned v ∧ w'.ownsRow W.heap.size 3 1 v (pts b L).length (iv (pts b L)) ∧ Below W.heap.size W w') := fun W hW => points_any b n L o c W hb32 hL (by omega) (hr.later hW) hm
  have HLO : Hid (∀ (W : World) (x : Int), Below w.heap.size w W → ¬ (0 ≤ x ∧ x < (Pb : Int)) → Calls Try.prog 26 #[.int .i64 (b : Int), .slice o n c, .int .i64 x] W fun e w' => e = .returned (.tuple #[.int .i64 0, .int .i64 1]) ∧ Below W.heap.size W w') := fun W x hW hx => by
    have := blook_any (b : Int) L o c x W (by omega) (hr.later hW)
    rw [hL, rlook_out hF (by rw [hPb]; exact hx)] at this
    exact this
  have HLI : Hid (∀ (W : World) (v : Nat), Below w.heap.size w W → v < Pb → Calls Try.prog 26 #[.int .i64 (b : Int), .slice o n c, .int .i64 (v : Int)] W fun e w' => e = .returned (.tuple #[.int .i64 ((rfirst b v L n : Int) - 1), .int .i64 0]) ∧ Below W.heap.size W w') := fun W v hW hx => by
    have := blook_any (b : Int) L o c (v : Int) W (by omega) (hr.later hW)
    rw [hL, rlook_in hF (by rw [hPb]; exact hx), hL] at this
    exact this
  have HLG : Hid (∀ (W : World) (v : Nat), Below w.heap.size w W → Calls Try.prog 27 #[.int .i64 (b : Int), .slice o n c, .int .i64 (v : Int), .int .i64 ((rfirst b v L n : Int) - 1)] W fun e w' => e = .returned (.bool true) ∧ Below W.heap.size W w') := fun W v hW => longest_any b v n (rfirst b v L n) L o c W hb32 hL (by omega) (hr.later hW) hm (longK_ok b v L hm n (by omega))
  have HVV : Hid (IRI w ov V) := hv
  have HVN : Hid (V.length = nd) := hV
  have hli : (iv V).length = nd * 1 := by unfold iv; rw [List.length_map]; omega
  have hpl := pts_len b L
  rw [hL] at hpl
  obtain ⟨Y, hY⟩ : ∃ Y, pts b L = Y := ⟨_, rfl⟩
  have hY1 : 1 ≤ Y.length := by rw [← hY]; unfold pts; simp
  simp only [hY] at HPT hpl
  clear hr hv hOR hF hm hb1 hb2 hPb hV hL hY
  go_enter Try.func6, Try.ntmps6
  go_wp2_with fail
  refine HAW.out.mono ?_
  rintro e W0 ⟨rfl, hb0⟩
  go_wp2_with fail
  refine (HOR.out _ hb0).mono ?_
  rintro e W1 ⟨v1, rfl, hb1⟩
  have hbW1 := bel0 hb0 hb1
  clear HAW HOR hb0 hb1
  go_upto_region 10 with fail
  go_cut [9] (fun v wc => Hid (wc.ownsRow W1.heap.size 3 1 v (Y.length + nd) (iv (Y ++ V))) ∧ Below W1.heap.size W1 wc)
  case first =>
    have HP1 := HPT.out W1 hbW1
    clear HLO HLI HLG HPT
    go_wp2_with fail
    refine HP1.mono ?_
    rintro e W2 ⟨v2, rfl, o2, hb2⟩
    have O2 : Hid (W2.ownsRow W1.heap.size 3 1 v2 Y.length (iv Y)) := o2
    cases ov with
    | none =>
      have h0 : V = [] := by
        cases V with
        | nil => rfl
        | cons r L =>
          obtain ⟨_, _, e, -⟩ := HVV.out w (Below.refl _ _) 0 r rfl
          cases e
      have h1 : nd = 0 := by rw [← HVN.out, h0]; rfl
      have h2 := hov rfl
      clear HVV HVN o2 HP1 hov
      subst h0 h1 h2
      go_wp2_with (at_builtin; refine wpList_append_own_none rfl _ _ 23 rfl W1.heap.size 3 i8 1 Try.underlying23 hi8 v2 Y.length (iv Y) rfl O2.out rfl ?_)
      go_meet
      exact ⟨by rw [List.append_nil]; exact O2, hb2⟩
    | some ad =>
      have HNW : Hid (∀ (j : Nat) (u : Value), (iv V)[j]? = some u → W2.cell? (ad.add j) = some u) := fun j u h => ivk_news (HVV.out.later (bel0 hbW1 hb2)) j u h
      have HON : Hid (∀ u ∈ iv V, u.oneCell' = true) := ivk_one V
      clear HVV HVN HP1 o2 hov
      go_wp2_with (at_builtin; refine wpList_append_own _ rfl _ _ 23 rfl W1.heap.size 3 i8 _ 1 8 Try.underlying23 hi8 hy0 hy1 hy2 rfl (by decide) _ Y.length (iv Y) rfl O2.out ad nd cv (iv V) rfl hli HNW.out HON.out (by unfold maxLen; omega) (by omega) hb2.size ?_; intro v5 w5 oA hg5 _)
      go_meet
      exact ⟨by unfold Hid; rw [show iv (Y ++ V) = iv Y ++ iv V by simp [iv]]; exact oA, hb2.grown hg5 hb2.size (fun k e => (O2.out.lt k e).1)⟩
  case rest =>
    obtain ⟨o5, hb5⟩ := hcut
    obtain ⟨w5, rfl⟩ : ∃ w5, w5 = wc := ⟨wc, rfl⟩
    have o5' := o5.out
    obtain ⟨p5, c5, rfl⟩ := shapeP o5'
    obtain ⟨g5, rfl⟩ := rown_at o5' (by omega)
    have HZ : Hid (IRI w5 (some ⟨g5, 0, none⟩) (Y ++ V)) := IRI_of o5'
    have HZN : Hid ((Y ++ V).length = Y.length + nd) := by unfold Hid; rw [List.length_append, HVN.out]
    have hbW5 := bel0 hbW1 hb5
    obtain ⟨z, hz⟩ : ∃ z, Y.length + nd = z := ⟨_, rfl⟩
    have hzb : z ≤ 1048697 := by omega
    simp only [hz] at HZN ⊢
    obtain ⟨Z, hZ⟩ : ∃ Z, Y ++ V = Z := ⟨_, rfl⟩
    simp only [hZ] at HZ HZN
    clear o5 o5' hb5 HVV HVN HPT hli hpl hY1 hz hZ hbW1
    go_wp2_with fail
    go_loopw [10] (fun vi wr => ∃ i : Nat, vi = .int .i64 (i : Int) ∧ i ≤ z ∧ Below w5.heap.size w5 wr) (fun vi _ => z - (intOf vi).toNat)
    case atStart => exact ⟨0, rfl, Nat.zero_le _, Below.refl _ _⟩
    case round =>
      obtain ⟨i, rfl, hin, hB⟩ := hrel
      by_cases hlt : i < z
      · have j1 : (i : Int) < (z : Int) := by omega
        have j0 : (0 : Int) ≤ (i : Int) := by omega
        by_cases h200 : i < 200
        · have j2 : (i : Int) < 200 := by omega
          obtain ⟨x, hxi⟩ : ∃ x, Z[i]? = some x := ⟨_, List.getElem?_eq_getElem (by rw [HZN.out]; omega)⟩
          have HC : Hid (∀ W, Below w5.heap.size w5 W → W.cell? ⟨g5, i, none⟩ = some (.int .i64 x)) := fun W hW => by
            have := iri_cell HZ.out hxi hW
            simpa using this
          have p0 := HC.out wr hB
          clear hxi
          by_cases hx : 0 ≤ x ∧ x < (Pb : Int)
          · obtain ⟨v, rfl⟩ : ∃ v : Nat, x = v := ⟨x.toNat, (Int.toNat_of_nonneg hx.1).symm⟩
            have hvP : v < Pb := Int.ofNat_lt.1 hx.2
            have q1 : ¬ (Pb : Int) ≤ (v : Int) := by omega
            have q2 : ¬ (v : Int) < 0 := by omega
            have HL1 : Hid (Calls Try.prog 26 #[.int .i64 (b : Int), .slice o n c, .int .i64 (v : Int)] wr fun e w' => e = .returned (.tuple #[.int .i64 ((rfirst b v L n : Int) - 1), .int .i64 0]) ∧ Below wr.heap.size wr w') := HLI.out wr v (bel0 hbW5 hB) hvP
            have hLG1 : ∀ W, Below w.heap.size w W → Calls Try.prog 27 #[.int .i64 (b : Int), .slice o n c, .int .i64 (v : Int), .int .i64 ((rfirst b v L n : Int) - 1)] W fun e w' => e = .returned (.bool true) ∧ Below W.heap.size W w' := fun W hW => HLG.out W v hW
            obtain ⟨K, hK⟩ : ∃ K, ((rfirst b v L n : Int) - 1) = K := ⟨_, rfl⟩
            rw [hK] at HL1 hLG1
            have HG1 : Hid (∀ W, Below w.heap.size w W → Calls Try.prog 27 #[.int .i64 (b : Int), .slice o n c, .int .i64 (v : Int), .int .i64 K] W fun e w' => e = .returned (.bool true) ∧ Below W.heap.size W w') := hLG1
            clear hLG1 hK hx hvP
            go_wp2_with fail
            refine HL1.out.mono ?_
            rintro e W6 ⟨rfl, hb6⟩
            have hB6 := bel0 hB hb6
            have p6 := HC.out W6 hB6
            clear p0 HL1
            go_upto_region 15 with fail
            go_quiet (fail)
            have D1 : decide ((v : Int) < 0) = false := decide_eq_false (by omega)
            have D2 : decide ((Pb : Int) ≤ (v : Int)) = false := decide_eq_false (by omega)
            simp only [B5.out, D1, D2, Bool.or_false]
            clear D1 D2
            have hB7 : Below w5.heap.size w5 (W6.drewN nq) := bel_drewN _ hB6
            obtain ⟨W7, hW7⟩ : ∃ W7, W6.drewN nq = W7 := ⟨_, rfl⟩
            rw [hW7] at hB7 ⊢
            have p7 := HC.out W7 hB7
            clear p6 hW7
            go_wp2_with fail
            refine (HG1.out _ (bel0 hbW5 hB7)).mono ?_
            rintro e W8 ⟨rfl, hb8⟩
            go_wp2_with fail
            go_roundw
            case rel => exact ⟨i + 1, by go_num, by omega, bel0 hB7 hb8⟩
            case measure => simp [intOf]; omega
          · have HL1 : Hid (Calls Try.prog 26 #[.int .i64 (b : Int), .slice o n c, .int .i64 x] wr fun e w' => e = .returned (.tuple #[.int .i64 0, .int .i64 1]) ∧ Below wr.heap.size wr w') := HLO.out wr x (bel0 hbW5 hB) hx
            by_cases hx0 : x < 0
            · clear hx
              go_wp2_with fail
              refine HL1.out.mono ?_
              rintro e W6 ⟨rfl, hb6⟩
              have hB6 := bel0 hB hb6
              have p6 := HC.out W6 hB6
              clear p0 HL1
              go_upto_region 15 with fail
              go_quiet (fail)
              go_wp2_with fail
              go_roundw
              case rel => exact ⟨i + 1, by go_num, by omega, bel_drewN _ hB6⟩
              case measure => simp [intOf]; omega
            · have q1 : (Pb : Int) ≤ x := by
                rcases Int.lt_or_le x (Pb : Int) with h | h
                · exact absurd ⟨Int.not_lt.1 hx0, h⟩ hx
                · exact h
              clear hx
              go_wp2_with fail
              refine HL1.out.mono ?_
              rintro e W6 ⟨rfl, hb6⟩
              have hB6 := bel0 hB hb6
              have p6 := HC.out W6 hB6
              clear p0 HL1
              go_upto_region 15 with fail
              go_quiet (fail)
              have D1 : decide (x < 0) = false := decide_eq_false (Int.not_lt.2 hx0)
              have D2 : decide ((Pb : Int) ≤ x) = true := decide_eq_true q1
              simp only [B5.out, D1, D2, Bool.false_or]
              clear D1 D2
              go_wp2_with fail
              go_roundw
              case rel => exact ⟨i + 1, by go_num, by omega, bel_drewN _ hB6⟩
              case measure => simp [intOf]; omega
        · have j2 : ¬ (i : Int) < 200 := by omega
          go_wp2_with fail
          go_ret
          exact ⟨rfl, bel0 hbW5 hB⟩
      · have j1 : ¬ (i : Int) < (z : Int) := by omega
        go_wp2_with fail
        go_ret
        exact ⟨rfl, bel0 hbW5 hB⟩
end Go.Proofs.Ytfcdaljhbeogeaa
