import Derived.Test.YtmdnapognaddbaaGreatDoorXAT
import Derived.Deep.RegionHeld3
namespace Go.Proofs.YtmdnapognaddbaaGreatDoor
open Go.RowKit Go.Shelf
/-- what one list of a term asks of the other term -/
def cvP (a : List UInt8 × List (List UInt8)) (n : List UInt8) : Bool := !(agB n a.1 && !a.2.any (fun y => wiB (mtT n a.1) y))
theorem cvC_eq (a b : List UInt8 × List (List UInt8)) : cvC a b = (wiB a.1 b.1 && b.2.all (cvP a)) := rfl
theorem all_yes2 {L : List (List UInt8)} {p : List UInt8 → Bool} {n : Nat} (hn : L.length ≤ n) (h : ∀ j t, j < n → L[j]? = some t → p t = true) : L.all p = true := by
  rw [List.all_eq_true]
  intro t ht
  obtain ⟨j, hj, he⟩ := List.getElem_of_mem ht
  exact h j t (by omega) (by rw [List.getElem?_eq_getElem hj, he])
set_option maxRecDepth 100000 in
set_option maxHeartbeats 8000000 in
theorem dcovered_any (ca cb : List UInt8) (la lb : List (List UInt8)) (na nb ka kb : Nat) (qa qb : Option Addr) (w : World) (hna : la.length = na) (hnb : lb.length = nb) (hNa : na ≤ 1000000) (hNb : nb ≤ 1000000) (gca : good ca = true) (gla : ∀ t ∈ la, good t = true) (glb : ∀ t ∈ lb, good t = true) (hra : IRSt w qa la) (hrb : IRSt w qb lb) :
    Calls Tryz.prog 70 #[.agg #[.string ⟨ca.toArray⟩, .slice qa na ka], .agg #[.string ⟨cb.toArray⟩, .slice qb nb kb]] w fun e w' => e = .returned (.bool (cvC (ca, la) (cb, lb))) ∧ Below w.heap.size w w' := by
  obtain ⟨w2, hw2⟩ : ∃ w2, (w.alloc (.cells #[.string ⟨ca.toArray⟩, .slice qa na ka] 64 (0, 0))).alloc (.cells #[.string ⟨cb.toArray⟩, .slice qb nb kb] 64 (0, 0)) = w2 := ⟨_, rfl⟩
  have h0 : w2.heap[w.heap.size]? = some (.cells #[.string ⟨ca.toArray⟩, .slice qa na ka] 64 (0, 0)) := by rw [← hw2]; exact alw_0 _ _ _
  have h1 : w2.heap[w.heap.size + 1]? = some (.cells #[.string ⟨cb.toArray⟩, .slice qb nb kb] 64 (0, 0)) := by rw [← hw2]; exact alw_1 _ _ _
  have hB0 : Below w.heap.size w w2 := by rw [← hw2]; exact belA (belA (Below.refl _ _) _) _
  have HK : Hid (∀ W, Below w2.heap.size w2 W → (∀ j, W.cell? ⟨w.heap.size, j, none⟩ = (#[.string ⟨ca.toArray⟩, .slice qa na ka] : Array Value)[j]?) ∧ (∀ j, W.cell? ⟨w.heap.size + 1, j, none⟩ = (#[.string ⟨cb.toArray⟩, .slice qb nb kb] : Array Value)[j]?)) := fun W hW => ⟨(cells_block (keepblk3 hW h0)).1, (cells_block (keepblk3 hW h1)).1⟩
  have HB0 : Hid (Below w.heap.size w w2) := hB0
  have HA : Hid (IRSt w2 qa la) := hra.later hB0
  have HBR : Hid (IRSt w2 qb lb) := hrb.later hB0
  have HN : Hid (la.length = na ∧ lb.length = nb) := ⟨hna, hnb⟩
  have hk0 := HK.out w2 (Below.refl _ _)
  obtain ⟨hca0, hcb0⟩ := hk0
  have HG : Hid (good ca = true ∧ (∀ t ∈ la, good t = true) ∧ ∀ t ∈ lb, good t = true) := ⟨gca, gla, glb⟩
  have HI : Hid (Calls Tryz.prog 89 #[.string ⟨ca.toArray⟩, .string ⟨cb.toArray⟩] w2 fun e w' => e = .returned (.bool (wiB ca cb)) ∧ Below w2.heap.size w2 w') := dinside_any ca cb w2 gca
  have HCV : Hid (cvC (ca, la) (cb, lb) = (wiB ca cb && lb.all (cvP (ca, la)))) := cvC_eq _ _
  obtain ⟨R, hR⟩ : ∃ R, cvC (ca, la) (cb, lb) = R := ⟨_, rfl⟩
  rw [hR] at HCV ⊢
  clear hR h0 h1 hB0 hra hrb hna hnb gca gla glb
  go_enter Tryz.func70, Tryz.ntmps70
  go_wp2_with fail
  refine HI.out.mono ?_
  rintro e W1 ⟨rfl, hb1⟩
  obtain ⟨hca1, hcb1⟩ := HK.out W1 hb1
  clear hca0 hcb0 HI hw2
  cases hwi : wiB ca cb with
  | false =>
    have HF : Hid (R = false) := by unfold Hid; rw [HCV.out, hwi]; rfl
    clear hwi HCV
    go_wp2_with fail
    go_ret
    exact ⟨by rw [HF.out]; rfl, bel0 HB0.out hb1⟩
  | true =>
    have HR : Hid (R = lb.all (cvP (ca, la))) := by unfold Hid; rw [HCV.out, hwi]; rfl
    clear hwi HCV
    go_wp2_with fail
    go_loopw [5] (fun v5 wr => ∃ k : Nat, v5 = .int .i64 k ∧ k ≤ nb ∧ Hid (∀ j t, j < k → lb[j]? = some t → cvP (ca, la) t = true) ∧ Below w2.heap.size w2 wr) (fun v5 _ => nb - (intOf v5).toNat)
    case atStart => exact ⟨0, rfl, Nat.zero_le _, fun j t hj => by omega, hb1⟩
    case round =>
      clear hca1 hcb1 hb1
      obtain ⟨k, rfl, hk, HNO, hB⟩ := hrel
      obtain ⟨hca, hcb⟩ := HK.out wr hB
      by_cases hlt : k < nb
      · have j1 : (k : Int) < (nb : Int) := by omega
        have j0 : (0 : Int) ≤ (k : Int) := by omega
        obtain ⟨t, ht⟩ : ∃ t, lb[k]? = some t := ⟨_, List.getElem?_eq_getElem (by rw [HN.out.2]; exact hlt)⟩
        obtain ⟨g, o0, rfl, hc⟩ := HBR.out wr hB k t ht
        have gt := HG.out.2.2 t (List.mem_of_getElem? ht)
        have HT : Hid (lb[k]? = some t) := ht
        have HM : Hid (∀ W, Calls Tryz.prog 54 #[.string ⟨t.toArray⟩, .string ⟨ca.toArray⟩] W fun e w' => e = .returned (.tuple #[.string ⟨(mtT t ca).toArray⟩, .bool (agB t ca)]) ∧ Below W.heap.size W w') := fun W => dmeet_any t ca W gt HG.out.1
        have HGM : Hid (good (mtT t ca) = true) := good_mtT t ca gt HG.out.1
        have HCP : Hid (cvP (ca, la) t = !(agB t ca && !la.any (fun y => wiB (mtT t ca) y))) := rfl
        obtain ⟨M, hM⟩ : ∃ M, mtT t ca = M := ⟨_, rfl⟩
        rw [hM] at HM HGM HCP
        obtain ⟨ag, hag⟩ : ∃ ag, agB t ca = ag := ⟨_, rfl⟩
        rw [hag] at HM HCP
        clear ht gt hM hag
        have HC : Hid (∀ W, Below w2.heap.size w2 W → ((∀ j, W.cell? ⟨w.heap.size, j, none⟩ = (#[.string ⟨ca.toArray⟩, .slice qa na ka] : Array Value)[j]?) ∧ (∀ j, W.cell? ⟨w.heap.size + 1, j, none⟩ = (#[.string ⟨cb.toArray⟩, .slice (some ⟨g, o0, none⟩) nb kb] : Array Value)[j]?)) ∧ W.cell? ⟨g, o0 + k, none⟩ = some (.string ⟨t.toArray⟩)) := fun W hW => by
          obtain ⟨g2, o2, e, hc2⟩ := HBR.out W hW k t HT.out
          injection e with e
          injection e with e1 e2
          subst e1 e2
          exact ⟨HK.out W hW, hc2⟩
        have hk0 := HC.out wr hB
        have hk0d : ((∀ j, wr.drew.cell? ⟨w.heap.size, j, none⟩ = (#[.string ⟨ca.toArray⟩, .slice qa na ka] : Array Value)[j]?) ∧ (∀ j, wr.drew.cell? ⟨w.heap.size + 1, j, none⟩ = (#[.string ⟨cb.toArray⟩, .slice (some ⟨g, o0, none⟩) nb kb] : Array Value)[j]?)) ∧ wr.drew.cell? ⟨g, o0 + k, none⟩ = some (.string ⟨t.toArray⟩) := hk0
        go_upto_region 6 with fail
        go_region_held3 (fun W => ((∀ j, W.cell? ⟨w.heap.size, j, none⟩ = (#[.string ⟨ca.toArray⟩, .slice qa na ka] : Array Value)[j]?) ∧ (∀ j, W.cell? ⟨w.heap.size + 1, j, none⟩ = (#[.string ⟨cb.toArray⟩, .slice (some ⟨g, o0, none⟩) nb kb] : Array Value)[j]?)) ∧ W.cell? ⟨g, o0 + k, none⟩ = some (.string ⟨t.toArray⟩)) (first | with_reducible exact hk0 | with_reducible exact hk0d | with_reducible exact hk5) (first | (go_at_call 54; refine (HM.out _).mono ?_; rintro e w5 ⟨rfl, hb5⟩; have hb5' : Below w2.heap.size w2 w5 := (by first | exact bel0 hB hb5 | exact bel0 hB (und hb5)); have hk5 := HC.out w5 hb5'))
        have hB5 := hb5'
        obtain ⟨⟨hca5, hcb5⟩, -⟩ := hk5
        clear hk0 hk0d hb5 hc hca hcb hB
        have HSTEP : Hid (cvP (ca, la) t = true → ∀ j u, j < k + 1 → lb[j]? = some u → cvP (ca, la) u = true) := fun hy j u hj hu => by
          by_cases e : j = k
          · subst e
            rw [HT.out] at hu
            obtain rfl := Option.some.inj hu
            exact hy
          · exact HNO.out j u (by omega) hu
        have HBAD : Hid (cvP (ca, la) t = false → R = false) := fun hy => by
          rw [HR.out, List.all_eq_false]
          exact ⟨t, List.mem_of_getElem? HT.out, by rw [hy]; simp⟩
        clear HNO
        cases ag with
        | false =>
          have HX : Hid (∀ j u, j < k + 1 → lb[j]? = some u → cvP (ca, la) u = true) := HSTEP.out (by rw [HCP.out]; rfl)
          clear HSTEP HBAD HCP
          go_wp2_with fail
          go_roundw
          case rel => exact ⟨k + 1, by go_num, by omega, HX, hB5⟩
          case measure => simp [intOf]; omega
        | true =>
          have HIN : Hid (∀ y W, Calls Tryz.prog 89 #[.string ⟨M.toArray⟩, .string ⟨y.toArray⟩] W fun e w' => e = .returned (.bool (wiB M y)) ∧ Below W.heap.size W w') := fun y W => dinside_any M y W HGM.out
          go_wp2_with fail
          go_loopw [8, 9] (fun v8 v9 ws => ∃ (j : Nat) (x : Bool), v8 = .bool x ∧ v9 = .int .i64 j ∧ j ≤ na ∧ Hid ((x = false ∧ ∀ i u, i < j → la[i]? = some u → wiB M u = false) ∨ (x = true ∧ la.any (fun y => wiB M y) = true)) ∧ Below w2.heap.size w2 ws) (fun v8 v9 _ => 2 * (na - (intOf v9).toNat) + (match v8 with | .bool true => 0 | _ => 1))
          case atStart => exact ⟨0, false, rfl, rfl, Nat.zero_le _, .inl ⟨rfl, fun i u h => by omega⟩, hB5⟩
          case round =>
            clear hca5 hcb5 hB5
            obtain ⟨j, x, rfl, rfl, hj, HJ, hBs⟩ := hrel
            obtain ⟨hca6, hcb6⟩ := HC.out _ hBs
            obtain ⟨hca6, hcb6⟩ := hca6
            cases x with
            | true =>
              have HAN : Hid (la.any (fun y => wiB M y) = true) := by
                rcases HJ.out with ⟨h, _⟩ | ⟨_, h⟩
                · cases h
                · exact h
              have HX : Hid (∀ j u, j < k + 1 → lb[j]? = some u → cvP (ca, la) u = true) := HSTEP.out (by rw [HCP.out, HAN.out]; rfl)
              clear HSTEP HBAD HCP HJ HAN
              by_cases hlj : j < na
              · have j2 : (j : Int) < (na : Int) := by omega
                go_wp2_with fail
                go_roundw
                case rel => exact ⟨k + 1, by go_num, by omega, HX, hBs⟩
                case measure => simp [intOf]; omega
              · have j2 : ¬ (j : Int) < (na : Int) := by omega
                go_wp2_with fail
                go_roundw
                case rel => exact ⟨k + 1, by go_num, by omega, HX, hBs⟩
                case measure => simp [intOf]; omega
            | false =>
              have HNJ : Hid (∀ i u, i < j → la[i]? = some u → wiB M u = false) := by
                rcases HJ.out with ⟨_, h⟩ | ⟨h, _⟩
                · exact h
                · cases h
              clear HJ
              by_cases hlj : j < na
              · have j2 : (j : Int) < (na : Int) := by omega
                have j3 : (0 : Int) ≤ (j : Int) := by omega
                obtain ⟨u, hu⟩ : ∃ u, la[j]? = some u := ⟨_, List.getElem?_eq_getElem (by rw [HN.out.1]; exact hlj)⟩
                obtain ⟨g3, o3, rfl, hc3⟩ := HA.out _ hBs j u hu
                have HU : Hid (la[j]? = some u) := hu
                clear hu
                go_wp2_with fail
                refine (HIN.out u _).mono ?_
                rintro e W8 ⟨rfl, hb8⟩
                have hB8 := bel0 hBs hb8
                obtain ⟨y, hy⟩ : ∃ y, wiB M u = y := ⟨_, rfl⟩
                rw [hy]
                have HJ2 : Hid ((y = false ∧ ∀ i z, i < j + 1 → la[i]? = some z → wiB M z = false) ∨ (y = true ∧ la.any (fun y => wiB M y) = true)) := by
                  cases y with
                  | true => exact .inr ⟨rfl, List.any_eq_true.2 ⟨u, List.mem_of_getElem? HU.out, hy⟩⟩
                  | false =>
                    refine .inl ⟨rfl, fun i z hi hz => ?_⟩
                    by_cases e : i = j
                    · subst e
                      rw [HU.out] at hz
                      obtain rfl := Option.some.inj hz
                      exact hy
                    · exact HNJ.out i z (by omega) hz
                clear hy HNJ HU hBs hb8 hc3
                go_wp2_with fail
                go_roundw
                case rel => exact ⟨j + 1, y, rfl, by go_num, by omega, HJ2, hB8⟩
                case measure => cases y <;> simp [intOf] <;> omega
              · have j2 : ¬ (j : Int) < (na : Int) := by omega
                have HAN : Hid (la.any (fun y => wiB M y) = false) := any_no (by rw [HN.out.1]; omega) HNJ.out
                have HF : Hid (R = false) := HBAD.out (by rw [HCP.out, HAN.out]; rfl)
                clear HSTEP HBAD HCP HNJ HAN
                go_wp2_with fail
                go_ret
                exact ⟨by rw [HF.out]; rfl, bel0 HB0.out hBs⟩
      · have j1 : ¬ (k : Int) < (nb : Int) := by omega
        have HF : Hid (R = true) := by unfold Hid; rw [HR.out]; exact all_yes2 (by rw [HN.out.2]; omega) HNO.out
        clear HNO
        go_wp2_with fail
        go_ret
        exact ⟨by rw [HF.out]; rfl, bel0 HB0.out hB⟩
end Go.Proofs.YtmdnapognaddbaaGreatDoor
namespace Go.Proofs.YtmdnapognaddbaaGreatDoor
open Go.RowKit Go.Shelf
theorem cmpLn_end {A B : List (List UInt8)} {k : Nat} (h : ¬ (k < A.length ∧ k < B.length)) (hk : k ≤ A.length) (hk2 : k ≤ B.length) : decide (cmpLn (A.drop k) (B.drop k) < 0) = decide (A.length < B.length) := by
  by_cases h1 : k < A.length
  · have e : B.drop k = [] := List.drop_eq_nil_of_le (by omega)
    rw [e, List.drop_eq_getElem_cons h1]
    have : ¬ A.length < B.length := by omega
    simp [cmpLn, this]
  · have e : A.drop k = [] := List.drop_eq_nil_of_le (by omega)
    rw [e]
    by_cases h2 : k < B.length
    · rw [List.drop_eq_getElem_cons h2]
      have : A.length < B.length := by omega
      simp [cmpLn, this]
    · rw [List.drop_eq_nil_of_le (by omega)]
      have : ¬ A.length < B.length := by omega
      simp [cmpLn, this]
set_option maxRecDepth 100000 in
set_option maxHeartbeats 8000000 in
theorem dahead_any (ca cb : List UInt8) (la lb : List (List UInt8)) (na nb ka kb : Nat) (qa qb : Option Addr) (w : World) (hna : la.length = na) (hnb : lb.length = nb) (hNa : na ≤ 1000000) (_hNb : nb ≤ 1000000) (hra : IRSt w qa la) (hrb : IRSt w qb lb) :
    Calls Tryz.prog 71 #[.agg #[.string ⟨ca.toArray⟩, .slice qa na ka], .agg #[.string ⟨cb.toArray⟩, .slice qb nb kb]] w fun e w' => e = .returned (.bool (decide (cmpLn (ca :: la) (cb :: lb) < 0))) ∧ Below w.heap.size w w' := by
  obtain ⟨w2, hw2⟩ : ∃ w2, (w.alloc (.cells #[.string ⟨ca.toArray⟩, .slice qa na ka] 64 (0, 0))).alloc (.cells #[.string ⟨cb.toArray⟩, .slice qb nb kb] 64 (0, 0)) = w2 := ⟨_, rfl⟩
  have h0 : w2.heap[w.heap.size]? = some (.cells #[.string ⟨ca.toArray⟩, .slice qa na ka] 64 (0, 0)) := by rw [← hw2]; exact alw_0 _ _ _
  have h1 : w2.heap[w.heap.size + 1]? = some (.cells #[.string ⟨cb.toArray⟩, .slice qb nb kb] 64 (0, 0)) := by rw [← hw2]; exact alw_1 _ _ _
  have hB0 : Below w.heap.size w w2 := by rw [← hw2]; exact belA (belA (Below.refl _ _) _) _
  have HK : Hid (∀ W, Below w2.heap.size w2 W → (∀ j, W.cell? ⟨w.heap.size, j, none⟩ = (#[.string ⟨ca.toArray⟩, .slice qa na ka] : Array Value)[j]?) ∧ (∀ j, W.cell? ⟨w.heap.size + 1, j, none⟩ = (#[.string ⟨cb.toArray⟩, .slice qb nb kb] : Array Value)[j]?)) := fun W hW => ⟨(cells_block (keepblk3 hW h0)).1, (cells_block (keepblk3 hW h1)).1⟩
  have HB0 : Hid (Below w.heap.size w w2) := hB0
  have HA : Hid (IRSt w2 qa la) := hra.later hB0
  have HBR : Hid (IRSt w2 qb lb) := hrb.later hB0
  have HN : Hid (la.length = na ∧ lb.length = nb) := ⟨hna, hnb⟩
  have hk0 := HK.out w2 (Below.refl _ _)
  obtain ⟨hca0, hcb0⟩ := hk0
  obtain ⟨R, hR⟩ : ∃ R, decide (cmpLn (ca :: la) (cb :: lb) < 0) = R := ⟨_, rfl⟩
  have HCV : Hid (decide (cmpLn (ca :: la) (cb :: lb) < 0) = R) := hR
  rw [hR]
  clear hR h0 h1 hB0 hra hrb hna hnb
  by_cases hcc : ca = cb
  · have q1 : (ca == cb) = true := by rw [hcc]; simp
    have HL : Hid (decide (cmpLn (la.drop 0) (lb.drop 0) < 0) = R) := by
      unfold Hid
      rw [← HCV.out, hcc]
      simp [cmpLn, cmpB_self]
    clear HCV hcc
    go_enter Tryz.func71, Tryz.ntmps71
    go_wp2_with fail
    clear q1 hw2
    go_loopw [5] (fun v5 wr => ∃ k : Nat, v5 = .int .i64 k ∧ k ≤ na ∧ k ≤ nb ∧ Hid (decide (cmpLn (la.drop k) (lb.drop k) < 0) = R) ∧ Below w2.heap.size w2 wr) (fun v5 _ => na - (intOf v5).toNat)
    case atStart => exact ⟨0, rfl, Nat.zero_le _, Nat.zero_le _, HL, Below.refl _ _⟩
    case round =>
      clear HL hca0 hcb0
      obtain ⟨k, rfl, hka, hkb, HJ, hB⟩ := hrel
      obtain ⟨hca, hcb⟩ := HK.out wr hB
      by_cases h1 : k < na
      · by_cases h2 : k < nb
        · have j1 : (k : Int) < (na : Int) := by omega
          have j2 : (k : Int) < (nb : Int) := by omega
          have j0 : (0 : Int) ≤ (k : Int) := by omega
          obtain ⟨x, hx⟩ : ∃ x, la[k]? = some x := ⟨_, List.getElem?_eq_getElem (by rw [HN.out.1]; exact h1)⟩
          obtain ⟨y, hy⟩ : ∃ y, lb[k]? = some y := ⟨_, List.getElem?_eq_getElem (by rw [HN.out.2]; exact h2)⟩
          obtain ⟨ga, oa, rfl, pa⟩ := HA.out wr hB k x hx
          obtain ⟨gb, ob, rfl, pb⟩ := HBR.out wr hB k y hy
          have hk0 : ((∀ j, wr.cell? ⟨w.heap.size, j, none⟩ = (#[.string ⟨ca.toArray⟩, .slice (some ⟨ga, oa, none⟩) na ka] : Array Value)[j]?) ∧ (∀ j, wr.cell? ⟨w.heap.size + 1, j, none⟩ = (#[.string ⟨cb.toArray⟩, .slice (some ⟨gb, ob, none⟩) nb kb] : Array Value)[j]?)) ∧ wr.cell? ⟨ga, oa + k, none⟩ = some (.string ⟨x.toArray⟩) ∧ wr.cell? ⟨gb, ob + k, none⟩ = some (.string ⟨y.toArray⟩) := ⟨⟨hca, hcb⟩, pa, pb⟩
          have hk0d : ((∀ j, wr.drew.cell? ⟨w.heap.size, j, none⟩ = (#[.string ⟨ca.toArray⟩, .slice (some ⟨ga, oa, none⟩) na ka] : Array Value)[j]?) ∧ (∀ j, wr.drew.cell? ⟨w.heap.size + 1, j, none⟩ = (#[.string ⟨cb.toArray⟩, .slice (some ⟨gb, ob, none⟩) nb kb] : Array Value)[j]?)) ∧ wr.drew.cell? ⟨ga, oa + k, none⟩ = some (.string ⟨x.toArray⟩) ∧ wr.drew.cell? ⟨gb, ob + k, none⟩ = some (.string ⟨y.toArray⟩) := hk0
          have hk0e : ((∀ j, wr.drew.drew.cell? ⟨w.heap.size, j, none⟩ = (#[.string ⟨ca.toArray⟩, .slice (some ⟨ga, oa, none⟩) na ka] : Array Value)[j]?) ∧ (∀ j, wr.drew.drew.cell? ⟨w.heap.size + 1, j, none⟩ = (#[.string ⟨cb.toArray⟩, .slice (some ⟨gb, ob, none⟩) nb kb] : Array Value)[j]?)) ∧ wr.drew.drew.cell? ⟨ga, oa + k, none⟩ = some (.string ⟨x.toArray⟩) ∧ wr.drew.drew.cell? ⟨gb, ob + k, none⟩ = some (.string ⟨y.toArray⟩) := hk0
          have HJ2 : Hid (decide ((if Lib.compareBytes x y = 0 then cmpLn (la.drop (k + 1)) (lb.drop (k + 1)) else Lib.compareBytes x y) < 0) = R) := by
            unfold Hid
            rw [← cmpLn_step hx hy]
            exact HJ.out
          clear hx hy HJ
          by_cases hxy : x = y
          · have q1 : (x == y) = true := by rw [hxy]; simp
            have HJ3 : Hid (decide (cmpLn (la.drop (k + 1)) (lb.drop (k + 1)) < 0) = R) := by
              have h := HJ2.out
              rw [hxy, if_pos (cmpB_self y)] at h
              exact h
            clear HJ2 hxy
            go_upto_region 6 with fail
            go_region_held3 (fun W => ((∀ j, W.cell? ⟨w.heap.size, j, none⟩ = (#[.string ⟨ca.toArray⟩, .slice (some ⟨ga, oa, none⟩) na ka] : Array Value)[j]?) ∧ (∀ j, W.cell? ⟨w.heap.size + 1, j, none⟩ = (#[.string ⟨cb.toArray⟩, .slice (some ⟨gb, ob, none⟩) nb kb] : Array Value)[j]?)) ∧ W.cell? ⟨ga, oa + k, none⟩ = some (.string ⟨x.toArray⟩) ∧ W.cell? ⟨gb, ob + k, none⟩ = some (.string ⟨y.toArray⟩)) (first | with_reducible exact hk0 | with_reducible exact hk0d) (fail)
            go_wp2_with fail
            go_roundw
            case rel => exact ⟨k + 1, by go_num, by omega, by omega, HJ3, hB.drew⟩
            case measure => simp [intOf]; omega
          · have q1 : (x == y) = false := by rw [beq_eq_false_iff_ne]; exact hxy
            have HJ3 : Hid (Op.bytesLess x y = R) := by
              have h := HJ2.out
              rw [if_neg (fun e => hxy (cmpB_eq x y e))] at h
              unfold Hid
              rw [bl_cmp]
              exact h
            clear HJ2 hxy
            go_upto_region 6 with fail
            go_region_held3 (fun W => ((∀ j, W.cell? ⟨w.heap.size, j, none⟩ = (#[.string ⟨ca.toArray⟩, .slice (some ⟨ga, oa, none⟩) na ka] : Array Value)[j]?) ∧ (∀ j, W.cell? ⟨w.heap.size + 1, j, none⟩ = (#[.string ⟨cb.toArray⟩, .slice (some ⟨gb, ob, none⟩) nb kb] : Array Value)[j]?)) ∧ W.cell? ⟨ga, oa + k, none⟩ = some (.string ⟨x.toArray⟩) ∧ W.cell? ⟨gb, ob + k, none⟩ = some (.string ⟨y.toArray⟩)) (first | with_reducible exact hk0 | with_reducible exact hk0d) (fail)
            go_upto_region 7 with fail
            go_region_held3 (fun W => ((∀ j, W.cell? ⟨w.heap.size, j, none⟩ = (#[.string ⟨ca.toArray⟩, .slice (some ⟨ga, oa, none⟩) na ka] : Array Value)[j]?) ∧ (∀ j, W.cell? ⟨w.heap.size + 1, j, none⟩ = (#[.string ⟨cb.toArray⟩, .slice (some ⟨gb, ob, none⟩) nb kb] : Array Value)[j]?)) ∧ W.cell? ⟨ga, oa + k, none⟩ = some (.string ⟨x.toArray⟩) ∧ W.cell? ⟨gb, ob + k, none⟩ = some (.string ⟨y.toArray⟩)) (first | with_reducible exact hk0 | with_reducible exact hk0d | with_reducible exact hk0e) (fail)
            go_wp2_with fail
            go_ret
            exact ⟨by rw [← HJ3.out]; rfl, bel0 HB0.out hB.drew.drew⟩
        · have j1 : (k : Int) < (na : Int) := by omega
          have j2 : ¬ (k : Int) < (nb : Int) := by omega
          have HF : Hid (decide (na < nb) = R) := by
            have e := cmpLn_end (A := la) (B := lb) (k := k) (by rw [HN.out.2]; omega) (by rw [HN.out.1]; omega) (by rw [HN.out.2]; omega)
            rw [HJ.out, HN.out.1, HN.out.2] at e
            exact e.symm
          clear HJ
          go_wp2_with fail
          go_ret
          exact ⟨by rw [← HF.out]; rfl, bel0 HB0.out hB⟩
      · have j1 : ¬ (k : Int) < (na : Int) := by omega
        have HF : Hid (decide (na < nb) = R) := by
          have e := cmpLn_end (A := la) (B := lb) (k := k) (by rw [HN.out.1]; omega) (by rw [HN.out.1]; omega) (by rw [HN.out.2]; omega)
          rw [HJ.out, HN.out.1, HN.out.2] at e
          exact e.symm
        clear HJ
        go_wp2_with fail
        go_ret
        exact ⟨by rw [← HF.out]; rfl, bel0 HB0.out hB⟩
  · have q1 : (ca == cb) = false := by rw [beq_eq_false_iff_ne]; exact hcc
    have HL : Hid (Op.bytesLess ca cb = R) := by
      unfold Hid
      rw [bl_cmp, ← HCV.out]
      have : Lib.compareBytes ca cb ≠ 0 := fun e => hcc (cmpB_eq ca cb e)
      simp [cmpLn, this]
    clear HCV hcc
    go_enter Tryz.func71, Tryz.ntmps71
    go_wp2_with fail
    go_ret
    exact ⟨by rw [← HL.out]; rfl, HB0.out⟩
end Go.Proofs.YtmdnapognaddbaaGreatDoor
namespace Go.Proofs.YtmdnapognaddbaaGreatDoor
open Go.RowKit Go.Shelf
theorem bys_byte (l : List UInt8) : Lib.byteCells l = bys l := rfl
theorem bys_app (a b : List UInt8) : bys (a ++ b) = bys a ++ bys b := by unfold bys; rw [List.map_append]
theorem bys_str (l : List UInt8) : Lib.strCells ⟨l.toArray⟩ = bys l := rfl
/-- what stands while the document's Text writes -/
def DXI (w2 wr : World) (v : Value) (l : List UInt8) : Prop := wr.ownsRow w2.heap.size 5 1 v l.length (bys l) ∧ Below w2.heap.size w2 wr
/-- a row of the document's terms lies there -/
def IRR (w : World) (p : Option Addr) (Z : List ZT) : Prop := ∀ W : World, Below w.heap.size w W → ∀ (k : Nat) (z : ZT), Z[k]? = some z → ∃ g o0, p = some ⟨g, o0, none⟩ ∧ W.cell? ⟨g, o0 + k * 2, none⟩ = some (.string ⟨z.c.toArray⟩) ∧ W.cell? ⟨g, o0 + k * 2 + 1, none⟩ = some (.slice z.q z.L.length z.k)
theorem IRR.later {w W : World} {p : Option Addr} {Z : List ZT} (h : IRR w p Z) (hb : Below w.heap.size w W) : IRR W p Z := fun X hX k t ht => h X (bel0 hb hX) k t ht
/-- a space of the document, as it is read -/
def RSR (W : World) (V : Value) (Ts : List (List UInt8 × List (List UInt8))) : Prop := ∃ (Z : List ZT) (p : Option Addr) (c : Nat), V = .slice p Z.length c ∧ Z.map ZT.cont = Ts ∧ IRR W p Z ∧ ∀ z ∈ Z, IRSt W z.q z.L
theorem RSR.later {w W : World} {V : Value} {Ts : List (List UInt8 × List (List UInt8))} (h : RSR w V Ts) (hb : Below w.heap.size w W) : RSR W V Ts := by
  obtain ⟨Z, p, c, h1, h2, h3, h4⟩ := h
  exact ⟨Z, p, c, h1, h2, h3.later hb, fun z hz => (h4 z hz).later hb⟩
theorem RSR_nil (W : World) : RSR W (.slice none 0 0) [] := ⟨[], none, 0, rfl, rfl, (fun _ _ k z h => by cases h), (fun z h => by cases h)⟩
theorem szC_step {Z : List ZT} {k : Nat} {z : ZT} (h : Z[k]? = some z) : szC ((Z.take (k + 1)).map ZT.cont) = szC ((Z.take k).map ZT.cont) + (1 + z.L.length) := by
  rw [List.take_add_one, h, List.map_append, szC_append]
  simp [szC, ZT.cont]
theorem szC_take (Z : List ZT) (k : Nat) : szC ((Z.take k).map ZT.cont) ≤ szC (Z.map ZT.cont) := by
  have e : Z.map ZT.cont = (Z.take k).map ZT.cont ++ (Z.drop k).map ZT.cont := by rw [← List.map_append, List.take_append_drop]
  rw [e, szC_append]
  omega
set_option maxRecDepth 100000 in
set_option maxHeartbeats 2000000 in
theorem dSizeL_any (b : Int) (V : Value) (Ts : List (List UInt8 × List (List UInt8))) (w : World) (h : RSR w V Ts) (ho : szC Ts ≤ 1000000) : Calls Tryz.prog 72 #[.agg #[.int .i64 b, V]] w fun e w' => e = .returned (.int .i64 (szC Ts : Int)) ∧ Below w.heap.size w w' := by
  obtain ⟨Z, p, cp, rfl, rfl, hr, -⟩ := h
  have hl := szC_len (Z.map ZT.cont)
  rw [List.length_map] at hl
  obtain ⟨n, hn⟩ : ∃ n, Z.length = n := ⟨_, rfl⟩
  rw [hn] at hl ⊢
  obtain ⟨w2, hw2⟩ : ∃ w2, w.alloc (.cells #[.int .i64 b, .slice p n cp] 27 (0, 0)) = w2 := ⟨_, rfl⟩
  have h0 : w2.heap[w.heap.size]? = some (.cells #[.int .i64 b, .slice p n cp] 27 (0, 0)) := by rw [← hw2]; exact alloc_get _ _
  have hB : Below w.heap.size w w2 := by rw [← hw2]; exact belA (Below.refl _ _) _
  have HN : Hid (Z.length = n) := hn
  have HR : Hid (IRR w2 p Z) := hr.later hB
  have HB : Hid (Below w.heap.size w w2) := hB
  have HSZ : Hid (∀ k, szC ((Z.take k).map ZT.cont) ≤ szC (Z.map ZT.cont)) := szC_take Z
  obtain ⟨hc0, -⟩ := cells_block h0
  clear h0 hr hB hn
  go_enter Tryz.func72, Tryz.ntmps72
  go_wp2_with fail
  go_loopw [3, 4] (fun v3 v4 wr => ∃ k : Nat, v3 = .int .i64 (szC ((Z.take k).map ZT.cont) : Int) ∧ v4 = .int .i64 k ∧ k ≤ n ∧ w2 = wr) (fun _ v4 _ => n - (intOf v4).toNat)
  case atStart => exact ⟨0, rfl, rfl, Nat.zero_le _, rfl⟩
  case round =>
    obtain ⟨k, rfl, rfl, hk, rfl⟩ := hrel
    by_cases hlt : k < n
    · have j1 : (k : Int) < (n : Int) := by omega
      have j0 : (0 : Int) ≤ (k : Int) := by omega
      obtain ⟨z, hz⟩ : ∃ z, Z[k]? = some z := ⟨_, List.getElem?_eq_getElem (by rw [HN.out]; exact hlt)⟩
      obtain ⟨g, o0, rfl, p0, p1⟩ := HR.out w2 (Below.refl _ _) k z hz
      have HST : Hid (szC ((Z.take (k + 1)).map ZT.cont) = szC ((Z.take k).map ZT.cont) + (1 + z.L.length)) := szC_step hz
      have hb1 := HSZ.out (k + 1)
      have hst := HST.out
      obtain ⟨A, hA⟩ : ∃ A, szC ((Z.take k).map ZT.cont) = A := ⟨_, rfl⟩
      rw [hA] at HST hst ⊢
      clear hz hA
      go_wp2_with fail
      go_roundw
      case rel => exact ⟨k + 1, by rw [HST.out]; go_num, by go_num, by omega, trivial⟩
      case measure => simp [intOf]; omega
    · have j1 : ¬ (k : Int) < (n : Int) := by omega
      have e : Z.take k = Z := List.take_of_length_le (by rw [HN.out]; omega)
      rw [e]
      clear e
      go_wp2_with fail
      go_ret
      exact ⟨rfl, HB.out⟩
theorem res_rs1 {fn : Func} {p : Tmp} {m : Nat × Nat} (tmps : Array Value) (W : World) (b : Nat) (v0 v1 : Value) (hr : fn.results = #[.cell p 27]) (hp : tmps.getD p undef = .pointer (some ⟨b, 0, none⟩)) (h : W.heap[b]? = some (.cells #[v0, v1] 27 m)) : (results fn tmps).run Tryz.prog W = .ok (.agg #[v0, v1]) W := by
  have hc : ∀ j, W.cell? ⟨b, j, none⟩ = (#[v0, v1] : Array Value)[j]? := by
    intro j; unfold World.cell?; rw [h]; simp
  have hp' : tmps[p]?.getD undef = .pointer (some ⟨b, 0, none⟩) := by simpa using hp
  simp [results, hr, hp', go_sem, hc]
theorem bels2 {w w2 : World} {W : World} (hB : Below w.heap.size w w2) (h : Below w2.heap.size w2 W) (v0 v1 : Value) : Below w.heap.size w ((W.setCell ⟨w.heap.size, 0, none⟩ v0).setCell ⟨w.heap.size, 1, none⟩ v1) := ((bel0 hB h).setCell (Nat.le_refl _) _).setCell (Nat.le_refl _) _
end Go.Proofs.YtmdnapognaddbaaGreatDoor
