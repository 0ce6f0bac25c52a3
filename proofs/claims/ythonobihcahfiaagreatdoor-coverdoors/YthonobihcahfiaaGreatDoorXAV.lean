import Derived.Test.YthonobihcahfiaaGreatDoorXAS
import Derived.Test.YthonobihcahfiaaGreatDoorXAU
import Derived.Maps.OwnSet
import Derived.StringKeys
namespace Go.Proofs.YthonobihcahfiaaGreatDoor.Nt
open Go.RowKit Go.Shelf
set_option maxRecDepth 100000 in
set_option maxHeartbeats 8000000 in
theorem xentry_any (n : NN) (v : NV) (box : Int) (x : NE) (pi : Option Addr) (ci : Nat) (pc : Option Addr) (cc : Nat) (po : Option Addr) (co : Nat) (w : World) (hN : LN w n v) (hE : LEL w x pi ci pc cc po co) (hS : SizeP n) (hO : okE x) :
    Calls Tryz.prog 37 #[.agg (nnA n v), .int .i64 box, .agg (neA x pi ci pc cc po co)] w (BQ (EntryP n box x) w) := by
  obtain ⟨pp, cp, pt, ct, pg, cg⟩ := v
  unfold nnA neA
  simp only at hN ⊢
  obtain ⟨ni, hni⟩ : ∃ ni, x.ins.length = ni := ⟨_, rfl⟩
  obtain ⟨nc, hnc⟩ : ∃ nc, x.cubes.length = nc := ⟨_, rfl⟩
  obtain ⟨no, hno⟩ : ∃ no, x.outs.length = no := ⟨_, rfl⟩
  rw [hni, hnc, hno]
  obtain ⟨W1, hW1⟩ : ∃ W1, (w.alloc (Obj.cells #[.int .i64 n.bits, .slice pp n.ports.length cp, .slice pt n.tabs.length ct, .slice pg n.grds.length cg] 26)).alloc (Obj.cells #[.string ⟨x.nm.toArray⟩, .slice pi ni ci, .slice pc nc cc, .string ⟨x.wr.toArray⟩, .slice po no co] 46) = W1 := ⟨_, rfl⟩
  have b1 : Below w.heap.size w W1 := by rw [← hW1]; exact belAZ (belAZ (Below.refl _ _) _) _
  obtain ⟨B, hB⟩ : ∃ B, w.heap.size = B := ⟨_, rfl⟩
  obtain ⟨E, hEB⟩ : ∃ E, B + 1 = E := ⟨_, rfl⟩
  have k1 : W1.heap[B]? = some (.cells #[.int .i64 n.bits, .slice pp n.ports.length cp, .slice pt n.tabs.length ct, .slice pg n.grds.length cg] 26 (0, 0)) := by rw [← hW1, ← hB]; exact keepZ (belAZ (Below.refl _ _) _) (alloc_getZ _ _)
  have k2 : W1.heap[E]? = some (.cells #[.string ⟨x.nm.toArray⟩, .slice pi ni ci, .slice pc nc cc, .string ⟨x.wr.toArray⟩, .slice po no co] 46 (0, 0)) := by
    have := alloc_getZ (w.alloc (Obj.cells #[.int .i64 n.bits, .slice pp n.ports.length cp, .slice pt n.tabs.length ct, .slice pg n.grds.length cg] 26)) (Obj.cells #[.string ⟨x.nm.toArray⟩, .slice pi ni ci, .slice pc nc cc, .string ⟨x.wr.toArray⟩, .slice po no co] 46)
    rw [alloc2, hB, hEB, hW1] at this
    exact this
  have HC : Hid (∀ U, Below W1.heap.size W1 U → U.cell? ⟨B, 0, none⟩ = some (.int .i64 n.bits) ∧ U.cell? ⟨B, 1, none⟩ = some (.slice pp n.ports.length cp) ∧ U.cell? ⟨B, 2, none⟩ = some (.slice pt n.tabs.length ct) ∧ U.cell? ⟨B, 3, none⟩ = some (.slice pg n.grds.length cg) ∧ U.cell? ⟨E, 0, none⟩ = some (.string ⟨x.nm.toArray⟩) ∧ U.cell? ⟨E, 1, none⟩ = some (.slice pi ni ci) ∧ U.cell? ⟨E, 2, none⟩ = some (.slice pc nc cc) ∧ U.cell? ⟨E, 3, none⟩ = some (.string ⟨x.wr.toArray⟩) ∧ U.cell? ⟨E, 4, none⟩ = some (.slice po no co)) := fun U hU => by
    have h1 := (cellsZ (keepZ hU k1)).1
    have h2 := (cellsZ (keepZ hU k2)).1
    exact ⟨by rw [h1]; rfl, by rw [h1]; rfl, by rw [h1]; rfl, by rw [h1]; rfl, by rw [h2]; rfl, by rw [h2]; rfl, by rw [h2]; rfl, by rw [h2]; rfl, by rw [h2]; rfl⟩
  have hni9 : ni ≤ 17592186043904 := by have := hO.2.1; unfold okI at this; omega
  have hnc9 : nc ≤ 17592186043904 := by have := hO.2.2.1.1; omega
  have HI : Hid (∀ U, Below W1.heap.size W1 U → Calls Tryz.prog 46 #[.agg #[.int .i64 n.bits, .slice pp n.ports.length cp, .slice pt n.tabs.length ct, .slice pg n.grds.length cg], .int .i64 box, .slice pi ni ci] U (BQ (InsP n box x.ins) U)) := fun U hU => xins_any n ⟨pp, cp, pt, ct, pg, cg⟩ box x.ins pi ni ci U (hN.below (bel0Z b1 hU)) hni hni9 (hE.1.below (bel0Z b1 hU))
  have HU : Hid (∀ U, Below W1.heap.size W1 U → Calls Tryz.prog 47 #[.agg #[.int .i64 n.bits, .slice pp n.ports.length cp, .slice pt n.tabs.length ct, .slice pg n.grds.length cg], .int .i64 box, .slice po no co] U (BQ (OutsP n box x.outs) U)) := fun U hU => xouts_any n ⟨pp, cp, pt, ct, pg, cg⟩ box x.outs po no co U (hN.below (bel0Z b1 hU)) hno (by have := hE.2.2.2.2.2; omega) (hE.2.2.2.2.1.below (bel0Z b1 hU))
  have HK : Hid (∀ U, Below W1.heap.size W1 U → Calls Tryz.prog 36 #[.int .i64 n.bits, .slice pc nc cc] U (BQ (CubesP n.bits x.cubes) U)) := fun U hU => xcubes_any n.bits x.cubes pc nc cc U hS.2.1 hnc hnc9 (hE.2.2.1.below (bel0Z b1 hU))
  have HX : Hid (∀ U, Calls Tryz.prog 45 #[.int .i64 n.bits, .string ⟨x.wr.toArray⟩] U (BQ (CubeP n.bits x.wr) U)) := fun U => xcube_any n.bits x.wr U hS.2.1
  obtain ⟨EP, hEP⟩ : ∃ EP : Prop, EntryP n box x = EP := ⟨_, rfl⟩
  have HEP : Hid (EP = EntryP n box x) := hEP.symm
  have HQT : Hid (∀ U, Below W1.heap.size W1 U → EP → BQ EP w (.returned (.bool true)) U) := fun U hU h => BQ.yes h (bel0Z b1 hU)
  have HQF : Hid (∀ U, Below W1.heap.size W1 U → ¬ EP → BQ EP w (.returned (.bool false)) U) := fun U hU h => BQ.no h (bel0Z b1 hU)
  have HBB : Hid (w.heap.size = B ∧ B + 1 = E) := ⟨hB, hEB⟩
  have HW := hideL hW1
  rw [hEP]
  clear k1 k2 b1 hB hEB hW1 hN hE hS hO hni hnc hno hEP hni9 hnc9
  obtain ⟨q0, q1, q2, q3, e0, e1, e2, e3, e4⟩ := HC.out W1 (Below.refl _ _)
  by_cases hnm : x.nm.length ≤ 256
  rotate_left
  · have j0 : ¬ (x.nm.length : Int) ≤ 256 := by omega
    have HQ := hideL (HQF.out W1 (Below.refl _ _) (fun h => hnm (HEP.out ▸ h : EntryP n box x).1))
    clear hnm
    go_enter Tryz.func37, Tryz.ntmps37
    go_upto_region 1 with fail
    rw [HW.out, HBB.out.1, HBB.out.2]
    go_wp2_with fail
    go_ret
    exact HQ.out
  have j0 : (x.nm.length : Int) ≤ 256 := by omega
  have HNM := hideL hnm
  have H1 := HI.out W1 (Below.refl _ _)
  go_enter Tryz.func37, Tryz.ntmps37
  go_upto_region 1 with fail
  rw [HW.out, HBB.out.1, HBB.out.2]
  clear hnm
  go_wp2_with fail
  refine H1.mono ?_
  rintro e W2 ⟨rfl, b1⟩
  have HB1 : Hid (Below W1.heap.size W1 W2) := b1
  clear H1 b1 q0 q1 q2 q3 e0 e1 e2 e3 e4
  obtain ⟨q0, q1, q2, q3, e0, e1, e2, e3, e4⟩ := HC.out W2 HB1.out
  cases hp : pb (InsP n box x.ins) with
  | false =>
    have HQ := hideL (HQF.out W2 HB1.out (fun h => pb_not hp (HEP.out ▸ h : EntryP n box x).2.1))
    clear hp
    go_wp2_with fail
    go_ret
    exact HQ.out
  | true =>
    have HP1 := hideL (pb_iff.1 hp)
    have H2 := HK.out W2 HB1.out
    clear hp
    go_wp2_with fail
    refine H2.mono ?_
    rintro e W3 ⟨rfl, b2⟩
    have HB2 : Hid (Below W1.heap.size W1 W3) := bel0Z HB1.out b2
    clear H2 b2 q0 q1 q2 q3 e0 e1 e2 e3 e4
    obtain ⟨q0, q1, q2, q3, e0, e1, e2, e3, e4⟩ := HC.out W3 HB2.out
    cases hp : pb (CubesP n.bits x.cubes) with
    | false =>
      have HQ := hideL (HQF.out W3 HB2.out (fun h => pb_not hp (HEP.out ▸ h : EntryP n box x).2.2.1))
      clear hp
      go_wp2_with fail
      go_ret
      exact HQ.out
    | true =>
      have HP2 := hideL (pb_iff.1 hp)
      have H3 := HX.out W3
      clear hp
      go_wp2_with fail
      refine H3.mono ?_
      rintro e W4 ⟨rfl, b3⟩
      have HB3 : Hid (Below W1.heap.size W1 W4) := bel0Z HB2.out b3
      clear H3 b3 q0 q1 q2 q3 e0 e1 e2 e3 e4
      obtain ⟨q0, q1, q2, q3, e0, e1, e2, e3, e4⟩ := HC.out W4 HB3.out
      cases hp : pb (CubeP n.bits x.wr) with
      | false =>
        have HQ := hideL (HQF.out W4 HB3.out (fun h => pb_not hp (HEP.out ▸ h : EntryP n box x).2.2.2.1))
        clear hp
        go_wp2_with fail
        go_ret
        exact HQ.out
      | true =>
        have HP3 := hideL (pb_iff.1 hp)
        have H4 := HU.out W4 HB3.out
        clear hp
        go_wp2_with fail
        refine H4.mono ?_
        rintro e W5 ⟨rfl, b4⟩
        have HB4 : Hid (Below W1.heap.size W1 W5) := bel0Z HB3.out b4
        clear H4 b4 q0 q1 q2 q3 e0 e1 e2 e3 e4
        obtain ⟨q0, q1, q2, q3, e0, e1, e2, e3, e4⟩ := HC.out W5 HB4.out
        cases hp : pb (OutsP n box x.outs) with
        | false =>
          have HQ := hideL (HQF.out W5 HB4.out (fun h => pb_not hp (HEP.out ▸ h : EntryP n box x).2.2.2.2))
          clear hp
          go_wp2_with fail
          go_ret
          exact HQ.out
        | true =>
          have HP4 := hideL (pb_iff.1 hp)
          have HQ := hideL (HQT.out W5 HB4.out (HEP.out ▸ (⟨HNM.out, HP1.out, HP2.out, HP3.out, HP4.out⟩ : EntryP n box x)))
          clear hp
          go_wp2_with fail
          go_ret
          exact HQ.out
set_option maxRecDepth 100000 in
set_option maxHeartbeats 8000000 in
theorem xtotG_any (n : NN) (p : Option Addr) (m c : Nat) (w : World) (hm : n.grds.length = m) (hm9 : m ≤ 48) (hL : LGS w p n.grds) (hO : ∀ t ∈ n.grds, t.length ≤ 4398046510976) :
    Calls Tryz.prog 23 #[.slice p m c] w fun e w' => e = .returned (.int .i64 (totG n : Int)) ∧ w' = w := by
  have HM := hideL hm
  have HL := hideL hL
  have HO := hideL hO
  clear hm hL hO
  go_enter Tryz.func23, Tryz.ntmps23
  go_wp2_with fail
  go_loopw [3, 8] (fun v3 vk wr => ∃ k t : Nat, v3 = .int .i64 (t : Int) ∧ vk = .int .i64 (k : Int) ∧ k ≤ m ∧ t ≤ k * 4398046510976 ∧ Hid (((n.grds.take k).map (·.length)).sum = t) ∧ wr = w) (fun _ vk _ => m - (intOf vk).toNat)
  case atStart => exact ⟨0, 0, rfl, rfl, Nat.zero_le _, Nat.zero_le _, rfl, rfl⟩
  case round =>
    obtain ⟨k, t, rfl, rfl, hk, ht, HT, rfl⟩ := hrel
    by_cases hlt : k < m
    · obtain ⟨x, hx⟩ : ∃ x, n.grds[k]? = some x := ⟨_, List.getElem?_eq_getElem (by have := HM.out; omega)⟩
      obtain ⟨g, o, p5, c5, rfl, c0, -, -⟩ := HL.out k x hx
      have hx9 := HO.out x (List.mem_of_getElem? hx)
      obtain ⟨l, hl⟩ : ∃ l, x.length = l := ⟨_, rfl⟩
      rw [hl] at c0 hx9
      have HN1 : Hid (((n.grds.take (k + 1)).map (·.length)).sum = t + l) := by show _ = _; rw [tot_take hx, HT.out, hl]
      have j1 : (k : Int) < (m : Int) := by omega
      have j0 : (0 : Int) ≤ (k : Int) := by omega
      clear hx hl HT
      go_wp2_with fail
      go_roundw
      case rel => exact ⟨k + 1, t + l, by go_num, by go_num, by omega, by omega, HN1, by first | rfl | trivial⟩
      case measure => simp [intOf]; omega
    · obtain rfl : k = m := by omega
      have j1 : ¬ (k : Int) < (k : Int) := by omega
      have HE : Hid (totG n = t) := by
        have h1 := HT.out
        rw [List.take_of_length_le (by have := HM.out; omega)] at h1
        exact h1
      clear HT
      go_wp2_with fail
      go_ret
      exact ⟨by rw [HE.out]; rfl, by first | rfl | trivial⟩
set_option maxRecDepth 100000 in
set_option maxHeartbeats 8000000 in
theorem xtotE_any (n : NN) (p : Option Addr) (m c : Nat) (w : World) (hm : n.tabs.length = m) (hm9 : m ≤ 48) (hL : LT w p n.tabs) (hO : ∀ t ∈ n.tabs, t.length ≤ 4398046510976) :
    Calls Tryz.prog 24 #[.slice p m c] w fun e w' => e = .returned (.int .i64 (totT n : Int)) ∧ w' = w := by
  have HM := hideL hm
  have HL := hideL hL
  have HO := hideL hO
  clear hm hL hO
  go_enter Tryz.func24, Tryz.ntmps24
  go_wp2_with fail
  go_loopw [3, 8] (fun v3 vk wr => ∃ k t : Nat, v3 = .int .i64 (t : Int) ∧ vk = .int .i64 (k : Int) ∧ k ≤ m ∧ t ≤ k * 4398046510976 ∧ Hid (((n.tabs.take k).map (·.length)).sum = t) ∧ wr = w) (fun _ vk _ => m - (intOf vk).toNat)
  case atStart => exact ⟨0, 0, rfl, rfl, Nat.zero_le _, Nat.zero_le _, rfl, rfl⟩
  case round =>
    obtain ⟨k, t, rfl, rfl, hk, ht, HT, rfl⟩ := hrel
    by_cases hlt : k < m
    · obtain ⟨x, hx⟩ : ∃ x, n.tabs[k]? = some x := ⟨_, List.getElem?_eq_getElem (by have := HM.out; omega)⟩
      obtain ⟨g, o, p5, c5, rfl, c0, -, -⟩ := HL.out k x hx
      have hx9 := HO.out x (List.mem_of_getElem? hx)
      obtain ⟨l, hl⟩ : ∃ l, x.length = l := ⟨_, rfl⟩
      rw [hl] at c0 hx9
      have HN1 : Hid (((n.tabs.take (k + 1)).map (·.length)).sum = t + l) := by show _ = _; rw [tot_take hx, HT.out, hl]
      have j1 : (k : Int) < (m : Int) := by omega
      have j0 : (0 : Int) ≤ (k : Int) := by omega
      clear hx hl HT
      go_wp2_with fail
      go_roundw
      case rel => exact ⟨k + 1, t + l, by go_num, by go_num, by omega, by omega, HN1, by first | rfl | trivial⟩
      case measure => simp [intOf]; omega
    · obtain rfl : k = m := by omega
      have j1 : ¬ (k : Int) < (k : Int) := by omega
      have HE : Hid (totT n = t) := by
        have h1 := HT.out
        rw [List.take_of_length_le (by have := HM.out; omega)] at h1
        exact h1
      clear HT
      go_wp2_with fail
      go_ret
      exact ⟨by rw [HE.out]; rfl, by first | rfl | trivial⟩
theorem scan_err0 {x : List UInt8} (h : (scanM x).2.1 ≠ 0) : (scanM x).1 = [] := by
  by_cases hl : x.length ≤ 16384
  · have := (run_done x (x.length + 1) 0 1 0 [] (by omega)).2
    unfold scanM at h ⊢
    rw [if_neg (by omega)] at h ⊢
    exact this h
  · unfold scanM
    rw [if_pos (by omega)]
def TAB (w0 : World) : Prop := ∀ U, Below w0.heap.size w0 U → SH U ∧ SG U ∧ VW U
theorem TAB.at {w U : World} (h : TAB w) (hb : Below w.heap.size w U) : TAB U := fun V hV => h V (bel0Z hb hV)
set_option maxRecDepth 100000 in
set_option maxHeartbeats 8000000 in
theorem xpname_any (x : List UInt8) (w : World) (hx : okS x) (hT : TAB w) :
    Calls Tryz.prog 41 #[.string ⟨x.toArray⟩] w fun e w' => e = .returned (.bool (fullN x)) ∧ Below w.heap.size w w' := by
  have hT1 := hT w (Below.refl _ _)
  have hx : x.length ≤ 140737488351232 := hx
  have HSC := scan_any x w (by omega) hT1.1 hT1.2.1 (FOK_of hT1.2.2)
  have HOF : Hid (fullN x = match (scanM x).1 with | t :: _ => t.1 == 3 && t.2.1 == x | [] => false) := by show fullN x = _; rw [← ofB_port]; rfl
  have HER : Hid ((scanM x).2.1 ≠ 0 → (scanM x).1 = []) := scan_err0
  obtain ⟨q, hq⟩ : ∃ q, fullN x = q := ⟨_, rfl⟩
  rw [hq] at HOF ⊢
  clear hT hT1 hq
  go_enter Tryz.func41, Tryz.ntmps41
  go_wp2_with fail
  refine HSC.mono ?_
  rintro e W2 ⟨v, rfl, o2, b2⟩
  obtain ⟨S, hS⟩ : ∃ S, scanM x = S := ⟨_, rfl⟩
  rw [hS] at o2 HOF HER ⊢
  obtain ⟨l, s1, s2, s3⟩ := S
  simp only at o2 HOF HER ⊢
  have HB2 := hideL b2
  clear hS HSC b2
  by_cases h0 : s1 = 0
  · subst h0
    clear HER
    cases l with
    | nil =>
      obtain ⟨pv, cv, rfl⟩ := shapeZ o2
      simp only at HOF
      clear o2
      go_wp2_with fail
      go_ret
      exact ⟨by rw [HOF.out]; rfl, HB2.out⟩
    | cons t ls =>
      obtain ⟨t1, t2, t3, t4⟩ := t
      obtain ⟨pv, cv, rfl⟩ := shapeZ o2
      obtain ⟨g, rfl⟩ := own_someZ o2 (by simp)
      have k0 : W2.cell? ⟨g, 0, none⟩ = some (.int .i64 (t1 : Int)) := own_atZ o2 rfl
      have k1 : W2.cell? ⟨g, 1, none⟩ = some (.string ⟨t2.toArray⟩) := own_atZ o2 rfl
      obtain ⟨N, hN⟩ : ∃ N, ((t1, t2, t3, t4) :: ls).length = N := ⟨_, rfl⟩
      have j0 : (0 : Int) < (N : Int) := by rw [← hN]; simp only [List.length_cons]; omega
      have j00 : 0 < N := by omega
      rw [hN]
      simp only at HOF
      clear o2 hN
      by_cases h1 : t1 = 3
      · subst h1
        by_cases h2 : t2 = x
        · subst h2
          have HQ : Hid (q = true) := by show q = _; rw [HOF.out]; simp
          clear HOF
          go_wp2_with fail
          go_ret
          exact ⟨by rw [HQ.out]; rfl, HB2.out⟩
        · have y3 : (t2 == x) = false := beq_eq_false_iff_ne.2 h2
          have HQ : Hid (q = false) := by show q = _; rw [HOF.out, y3]; rfl
          clear HOF h2
          go_wp2_with fail
          go_ret
          exact ⟨by rw [HQ.out]; rfl, HB2.out⟩
      · have y3 : ((t1 : Int) == 3) = false := beq_eq_false_iff_ne.2 (by omega)
        have HQ : Hid (q = false) := by show q = _; rw [HOF.out, beq_eq_false_iff_ne.2 h1]; rfl
        clear HOF h1
        go_wp2_with fail
        go_ret
        exact ⟨by rw [HQ.out]; rfl, HB2.out⟩
  · obtain rfl := HER.out h0
    obtain ⟨pv, cv, rfl⟩ := shapeZ o2
    have y1 : ((s1 : Int) == 0) = false := beq_eq_false_iff_ne.2 (by omega)
    simp only at HOF
    clear o2 h0 HER
    go_wp2_with fail
    go_ret
    exact ⟨by rw [HOF.out]; rfl, HB2.out⟩
end Go.Proofs.YthonobihcahfiaaGreatDoor.Nt
namespace Go.Proofs.YthonobihcahfiaaGreatDoor.Nt
open Go.RowKit Go.Shelf
set_option maxRecDepth 100000 in
set_option maxHeartbeats 8000000 in
theorem xport_any (n : NN) (v : NV) (x : NP) (w : World) (hN : LN w n v) (hx : okS x.nm) (hT : TAB w) :
    Calls Tryz.prog 35 #[.agg (nnA n v), .agg #[.string ⟨x.nm.toArray⟩, .int .i64 x.bx, .bool x.inn, .int .i64 x.lk]] w (BQ (PortP n x) w) := by
  obtain ⟨pp, cp, pt, ct, pg, cg⟩ := v
  unfold nnA
  simp only at hN ⊢
  obtain ⟨W1, hW1⟩ : ∃ W1, (w.alloc (Obj.cells #[.int .i64 n.bits, .slice pp n.ports.length cp, .slice pt n.tabs.length ct, .slice pg n.grds.length cg] 26)).alloc (Obj.cells #[.string ⟨x.nm.toArray⟩, .int .i64 x.bx, .bool x.inn, .int .i64 x.lk] 38) = W1 := ⟨_, rfl⟩
  have b1 : Below w.heap.size w W1 := by rw [← hW1]; exact belAZ (belAZ (Below.refl _ _) _) _
  obtain ⟨B, hB⟩ : ∃ B, w.heap.size = B := ⟨_, rfl⟩
  obtain ⟨E, hEB⟩ : ∃ E, B + 1 = E := ⟨_, rfl⟩
  have k1 : W1.heap[B]? = some (.cells #[.int .i64 n.bits, .slice pp n.ports.length cp, .slice pt n.tabs.length ct, .slice pg n.grds.length cg] 26 (0, 0)) := by rw [← hW1, ← hB]; exact keepZ (belAZ (Below.refl _ _) _) (alloc_getZ _ _)
  have k2 : W1.heap[E]? = some (.cells #[.string ⟨x.nm.toArray⟩, .int .i64 x.bx, .bool x.inn, .int .i64 x.lk] 38 (0, 0)) := by
    have := alloc_getZ (w.alloc (Obj.cells #[.int .i64 n.bits, .slice pp n.ports.length cp, .slice pt n.tabs.length ct, .slice pg n.grds.length cg] 26)) (Obj.cells #[.string ⟨x.nm.toArray⟩, .int .i64 x.bx, .bool x.inn, .int .i64 x.lk] 38)
    rw [alloc2, hB, hEB, hW1] at this
    exact this
  have HC : Hid (∀ U, Below W1.heap.size W1 U → U.cell? ⟨B, 0, none⟩ = some (.int .i64 n.bits) ∧ U.cell? ⟨B, 1, none⟩ = some (.slice pp n.ports.length cp) ∧ U.cell? ⟨B, 2, none⟩ = some (.slice pt n.tabs.length ct) ∧ U.cell? ⟨B, 3, none⟩ = some (.slice pg n.grds.length cg) ∧ U.cell? ⟨E, 0, none⟩ = some (.string ⟨x.nm.toArray⟩) ∧ U.cell? ⟨E, 1, none⟩ = some (.int .i64 x.bx) ∧ U.cell? ⟨E, 2, none⟩ = some (.bool x.inn) ∧ U.cell? ⟨E, 3, none⟩ = some (.int .i64 x.lk)) := fun U hU => by
    have h1 := (cellsZ (keepZ hU k1)).1
    have h2 := (cellsZ (keepZ hU k2)).1
    exact ⟨by rw [h1]; rfl, by rw [h1]; rfl, by rw [h1]; rfl, by rw [h1]; rfl, by rw [h2]; rfl, by rw [h2]; rfl, by rw [h2]; rfl, by rw [h2]; rfl⟩
  have HNN : Hid (∀ U, Below W1.heap.size W1 U → LN U n ⟨pp, cp, pt, ct, pg, cg⟩) := fun U hU => hN.below (bel0Z b1 hU)
  have HNU : Hid (∀ U (z : Int), Below W1.heap.size W1 U → Calls Tryz.prog 42 #[.agg #[.int .i64 n.bits, .slice pp n.ports.length cp, .slice pt n.tabs.length ct, .slice pg n.grds.length cg], .int .i64 z] U (BQ (NumP n z) U)) := fun U z hU => xnum_any n ⟨pp, cp, pt, ct, pg, cg⟩ z U (HNN.out U hU)
  have H1 := xpname_any x.nm W1 hx (hT.at b1)
  obtain ⟨EP, hEP⟩ : ∃ EP : Prop, PortP n x = EP := ⟨_, rfl⟩
  have HEP : Hid (EP = PortP n x) := hEP.symm
  have HQT : Hid (∀ U, Below W1.heap.size W1 U → EP → BQ EP w (.returned (.bool true)) U) := fun U hU h => BQ.yes h (bel0Z b1 hU)
  have HQF : Hid (∀ U, Below W1.heap.size W1 U → ¬ EP → BQ EP w (.returned (.bool false)) U) := fun U hU h => BQ.no h (bel0Z b1 hU)
  have HBB : Hid (w.heap.size = B ∧ B + 1 = E) := ⟨hB, hEB⟩
  have HW := hideL hW1
  rw [hEP]
  clear k1 k2 b1 hB hEB hW1 hN hx hT hEP
  obtain ⟨q0, q1, q2, q3, e0, e1, e2, e3⟩ := HC.out W1 (Below.refl _ _)
  go_enter Tryz.func35, Tryz.ntmps35
  go_upto_region 1 with fail
  rw [HW.out, HBB.out.1, HBB.out.2]
  go_wp2_with fail
  refine H1.mono ?_
  rintro e W2 ⟨rfl, b2⟩
  have HB2 := hideL b2
  clear H1 b2 q0 q1 q2 q3 e0 e1 e2 e3
  obtain ⟨q0, q1, q2, q3, e0, e1, e2, e3⟩ := HC.out W2 HB2.out
  have HEX : Hid (EP → PortP n x) := fun h => HEP.out ▸ h
  cases hf : fullN x.nm with
  | false =>
    have HQ := hideL (HQF.out W2 HB2.out (fun h => by have := (HEX.out h).1; rw [hf] at this; cases this))
    clear hf
    go_wp2_with fail
    go_ret
    exact HQ.out
  | true =>
    by_cases hb0 : x.bx < (0 : Int)
    · have HQ := hideL (HQF.out W2 HB2.out (fun h => by have := (HEX.out h).2.1; omega))
      clear hf
      go_wp2_with fail
      go_ret
      exact HQ.out
    by_cases hb1 : (n.tabs.length : Int) ≤ x.bx
    · have j4 : ¬ x.bx < (n.tabs.length : Int) := by omega
      have HQ := hideL (HQF.out W2 HB2.out (fun h => by have := (HEX.out h).2.2.1; omega))
      clear hf
      go_wp2_with fail
      go_ret
      exact HQ.out
    have j4 : x.bx < (n.tabs.length : Int) := by omega
    have HBX : Hid (fullN x.nm = true ∧ 0 ≤ x.bx ∧ x.bx < (n.tabs.length : Int)) := ⟨hf, by omega, j4⟩
    clear hf
    by_cases hl1 : x.lk = -1
    · have y1 : (x.lk == -1) = true := beq_iff_eq.2 hl1
      have HQ := hideL (HQT.out W2 HB2.out (HEP.out ▸ (⟨HBX.out.1, HBX.out.2.1, HBX.out.2.2, .inl hl1⟩ : PortP n x)))
      clear hl1
      go_wp2_with fail
      go_ret
      exact HQ.out
    have y1 : (x.lk == -1) = false := beq_eq_false_iff_ne.2 hl1
    have HLK : Hid (EP → x.inn = false ∧ 0 ≤ x.lk ∧ x.lk < (n.ports.length : Int) ∧ (portAt n x.lk).inn = true) := fun h => by
      rcases (HEX.out h).2.2.2 with h9 | h9
      · exact absurd h9 hl1
      · exact h9
    clear hl1
    cases hin : x.inn with
    | true =>
      rw [hin] at e2
      have HQ := hideL (HQF.out W2 HB2.out (fun h => by have := (HLK.out h).1; rw [hin] at this; cases this))
      clear hin
      go_wp2_with fail
      go_ret
      exact HQ.out
    | false =>
      rw [hin] at e2
      have H2 := HNU.out W2 x.lk HB2.out
      have HIN := hideL hin
      clear hin
      go_wp2_with fail
      refine H2.mono ?_
      rintro e W3 ⟨rfl, b3⟩
      have HB3 : Hid (Below W1.heap.size W1 W3) := bel0Z HB2.out b3
      clear H2 b3 q0 q1 q2 q3 e0 e1 e2 e3
      obtain ⟨q0, q1, q2, q3, e0, e1, e2, e3⟩ := HC.out W3 HB3.out
      cases hp : pb (NumP n x.lk) with
      | false =>
        have HQ := hideL (HQF.out W3 HB3.out (fun h => pb_not hp ⟨(HLK.out h).2.1, (HLK.out h).2.2.1⟩))
        clear hp
        go_wp2_with fail
        go_ret
        exact HQ.out
      | true =>
        obtain ⟨h0, h1⟩ := pb_iff.1 hp
        obtain ⟨l, hl9⟩ : ∃ l : Nat, x.lk = (l : Int) := ⟨x.lk.toNat, by omega⟩
        obtain ⟨y, hy⟩ : ∃ y, n.ports[l]? = some y := ⟨_, List.getElem?_eq_getElem (by omega)⟩
        obtain ⟨g, o, e5, c0, c1, c2, c3⟩ := (HNN.out W3 HB3.out).1 l y hy
        simp only at e5
        subst e5
        have hpa := portAt_of hy
        have HYI : Hid (y.inn = true ↔ EP) := by
          show _ ↔ _
          rw [HEP.out]
          constructor
          · exact fun h => ⟨HBX.out.1, HBX.out.2.1, HBX.out.2.2, .inr ⟨HIN.out, h0, h1, by rw [hl9, hpa]; exact h⟩⟩
          · intro h
            have h9 := (HLK.out (HEP.out ▸ h)).2.2.2
            rw [hl9, hpa] at h9
            exact h9
        rw [hl9] at e3
        have j5 : (0 : Int) ≤ (l : Int) := by omega
        have j6 : (l : Int) < (n.ports.length : Int) := by omega
        clear hp h0 h1 hl9 hy hpa c0 c1 c3 y1
        cases hyi : y.inn with
        | false =>
          rw [hyi] at c2
          have HQ := hideL (HQF.out W3 HB3.out (fun h => by have := HYI.out.2 h; rw [hyi] at this; cases this))
          clear hyi
          go_wp2_with fail
          go_ret
          exact HQ.out
        | true =>
          rw [hyi] at c2
          have HQ := hideL (HQT.out W3 HB3.out (HYI.out.1 hyi))
          clear hyi
          go_wp2_with fail
          go_ret
          exact HQ.out
def MPQ (n : NN) (k : Nat) (D : DataW Unit) : Prop := Maps.Tidy D ∧ (∀ nm : List UInt8, Maps.has D (.string nm) = true ↔ nm ∈ (n.ports.take k).map (·.nm)) ∧ Maps.size D ≤ k ∧ (Maps.size D = k ↔ ((n.ports.take k).map (·.nm)).Nodup)
theorem MPQ.zero (n : NN) : MPQ n 0 (.map []) := ⟨Maps.tidy_empty, fun nm => by simp [Maps.has], Nat.le_refl _, by simp [Maps.size]⟩
theorem take_names {n : NN} {k : Nat} {x : NP} (hx : n.ports[k]? = some x) : (n.ports.take (k + 1)).map (·.nm) = (n.ports.take k).map (·.nm) ++ [x.nm] := by
  rw [List.take_add_one, hx]
  simp
theorem MPQ.put {n : NN} {k : Nat} {D : DataW Unit} {x : NP} (h : MPQ n k D) (hx : n.ports[k]? = some x) (d : DataW Unit) (hT : Maps.Tidy (D.put (.string x.nm) d)) : MPQ n (k + 1) (D.put (.string x.nm) d) := by
  obtain ⟨h1, h2, h3, h4⟩ := h
  have hsz := Maps.size_put (k := .string x.nm) h1 d
  refine ⟨hT, fun nm => ?_, ?_, ?_⟩
  · rw [take_names hx, List.mem_append, List.mem_singleton]
    by_cases he : nm = x.nm
    · subst he
      rw [Maps.has_put_same h1.isMap (by trivial) d]
      simp
    · rw [Maps.has_put_other (by intro h9; injection h9 with h9; exact he h9) d, h2 nm]
      simp [he]
  · rw [hsz]
    split <;> omega
  · rw [hsz, take_names hx, List.nodup_append]
    by_cases hh : Maps.has D (.string x.nm) = true
    · rw [if_pos hh]
      constructor
      · intro h9; omega
      · intro h9
        exact absurd rfl (h9.2.2 x.nm ((h2 x.nm).1 hh) x.nm (by simp))
    · rw [if_neg hh]
      constructor
      · intro h9
        refine ⟨h4.1 (by omega), by simp, fun a ha b hb => ?_⟩
        have hb : b = x.nm := by simpa using hb
        subst hb
        intro he
        subst he
        exact hh ((h2 _).2 ha)
      · intro h9
        have := h4.2 h9.1
        omega
set_option maxRecDepth 100000 in
set_option maxHeartbeats 16000000 in
theorem xports_any (n : NN) (v : NV) (w : World) (hN : LN w n v) (hS : SizeP n) (hO : okN n) (hT : TAB w) :
    Calls Tryz.prog 25 #[.agg (nnA n v)] w (BQ (PortsP n) w) := by
  obtain ⟨pp, cp, pt, ct, pg, cg⟩ := v
  unfold nnA
  simp only at hN ⊢
  obtain ⟨W1, hW1⟩ : ∃ W1, w.alloc (Obj.cells #[.int .i64 n.bits, .slice pp n.ports.length cp, .slice pt n.tabs.length ct, .slice pg n.grds.length cg] 26) = W1 := ⟨_, rfl⟩
  have b1 : Below w.heap.size w W1 := by rw [← hW1]; exact belAZ (Below.refl _ _) _
  obtain ⟨B, hB⟩ : ∃ B, w.heap.size = B := ⟨_, rfl⟩
  have k1 : W1.heap[B]? = some (.cells #[.int .i64 n.bits, .slice pp n.ports.length cp, .slice pt n.tabs.length ct, .slice pg n.grds.length cg] 26 (0, 0)) := by rw [← hW1, ← hB]; exact alloc_getZ _ _
  have HC : Hid (∀ U, Below W1.heap.size W1 U → U.cell? ⟨B, 0, none⟩ = some (.int .i64 n.bits) ∧ U.cell? ⟨B, 1, none⟩ = some (.slice pp n.ports.length cp) ∧ U.cell? ⟨B, 2, none⟩ = some (.slice pt n.tabs.length ct) ∧ U.cell? ⟨B, 3, none⟩ = some (.slice pg n.grds.length cg)) := fun U hU => by
    have := (cellsZ (keepZ hU k1)).1
    exact ⟨by rw [this]; rfl, by rw [this]; rfl, by rw [this]; rfl, by rw [this]; rfl⟩
  have HNN : Hid (∀ U, Below W1.heap.size W1 U → LN U n ⟨pp, cp, pt, ct, pg, cg⟩) := fun U hU => hN.below (bel0Z b1 hU)
  have HB1 := hideL b1
  have HBB := hideL hB
  have HW := hideL hW1
  clear k1 b1 hB hW1 hN
  have hmm := @run_makeMap Tryz.prog
  have HZ : Hid (SizeP n ∧ okN n ∧ TAB w) := ⟨hS, hO, hT⟩
  obtain ⟨np, hnp⟩ : ∃ np, n.ports.length = np := ⟨_, rfl⟩
  have hnp48 : np ≤ 48 := by have := hS.2.2.2.1; omega
  have HNP := hideL hnp
  have HQT : Hid (∀ U, Below W1.heap.size W1 U → PortsP n → BQ (PortsP n) w (.returned (.bool true)) U) := fun U hU h => BQ.yes h (bel0Z HB1.out hU)
  have HQF : Hid (∀ U, Below W1.heap.size W1 U → ¬ PortsP n → BQ (PortsP n) w (.returned (.bool false)) U) := fun U hU h => BQ.no h (bel0Z HB1.out hU)
  have HPO : Hid (∀ U (x : NP), Below W1.heap.size W1 U → okS x.nm → Calls Tryz.prog 35 #[.agg #[.int .i64 n.bits, .slice pp np cp, .slice pt n.tabs.length ct, .slice pg n.grds.length cg], .agg #[.string ⟨x.nm.toArray⟩, .int .i64 x.bx, .bool x.inn, .int .i64 x.lk]] U (BQ (PortP n x) U)) := fun U x hU hx => by
    have := xport_any n ⟨pp, cp, pt, ct, pg, cg⟩ x U (HNN.out U hU) hx (HZ.out.2.2.at (bel0Z HB1.out hU))
    unfold nnA at this
    simp only at this
    rw [HNP.out] at this
    exact this
  rw [hnp] at HC HW ⊢
  obtain ⟨mb, hmb⟩ : ∃ mb, W1.heap.size = mb := ⟨_, rfl⟩
  have HMB := hideL hmb
  clear hS hO hT hnp hmb
  go_enter Tryz.func25, Tryz.ntmps25
  go_upto_region 1 with fail
  rw [HW.out, HBB.out]
  obtain ⟨q0, q1, q2, q3⟩ := HC.out (W1.alloc (.map #[] 0)) (belAZ (Below.refl _ _) _)
  go_wp2_with fail
  rw [HMB.out]
  clear q0 q1 q2 q3
  go_loopw [10] (fun vk wr => ∃ (k : Nat) (D : DataW Unit), vk = .int .i64 (k : Int) ∧ k ≤ np ∧ Hid (wr.ownsMap Tryz.prog 9 (plainElem Tryz.prog 3) mb k D ∧ MPQ n k D ∧ ∀ p ∈ n.ports.take k, PortP n p) ∧ Hid (Below W1.heap.size W1 wr)) (fun vk _ => np - (intOf vk).toNat)
  case atStart => exact ⟨0, .map [], rfl, Nat.zero_le _, ⟨by rw [← HMB.out]; exact World.ownsMap_made _ _ _ _, MPQ.zero n, fun p hp => by simp at hp⟩, belAZ (Below.refl _ _) _⟩
  case round =>
    obtain ⟨k, D, rfl, hk, HMQ, HB⟩ := hrel
    obtain ⟨q0, q1, q2, q3⟩ := HC.out wr HB.out
    by_cases hlt : k < np
    · obtain ⟨x, hx⟩ : ∃ x, n.ports[k]? = some x := ⟨_, List.getElem?_eq_getElem (by have := HNP.out; omega)⟩
      obtain ⟨g0, o0, e5, i0, i1, i2, i3⟩ := (HNN.out wr HB.out).1 k x hx
      simp only at e5
      subst e5
      have hok := HZ.out.2.1.2.1 x (List.mem_of_getElem? hx)
      have HX : Hid (n.ports[k]? = some x ∧ okS x.nm) := ⟨hx, hok⟩
      have j1 : (0 : Int) ≤ (k : Int) := by omega
      have j2 : (k : Int) < (np : Int) := by omega
      obtain ⟨W5, hW5⟩ : ∃ W5, wr.alloc (Obj.cells #[.string ⟨x.nm.toArray⟩, .int .i64 x.bx, .bool x.inn, .int .i64 x.lk] 38) = W5 := ⟨_, rfl⟩
      have b5 : Below wr.heap.size wr W5 := by rw [← hW5]; exact belAZ (Below.refl _ _) _
      obtain ⟨b4, hb4⟩ : ∃ b4, wr.heap.size = b4 := ⟨_, rfl⟩
      have k5 : W5.heap[b4]? = some (.cells #[.string ⟨x.nm.toArray⟩, .int .i64 x.bx, .bool x.inn, .int .i64 x.lk] 38 (0, 0)) := by rw [← hW5, ← hb4]; exact alloc_getZ _ _
      have HB5 : Hid (Below W1.heap.size W1 W5) := bel0Z HB.out b5
      have HK5 : Hid (∀ U, Below W5.heap.size W5 U → (U.cell? ⟨b4, 0, none⟩ = some (.string ⟨x.nm.toArray⟩) ∧ U.cell? ⟨b4, 1, none⟩ = some (.int .i64 x.bx) ∧ U.cell? ⟨b4, 2, none⟩ = some (.bool x.inn) ∧ U.cell? ⟨b4, 3, none⟩ = some (.int .i64 x.lk)) ∧ U.ownsMap Tryz.prog 9 (plainElem Tryz.prog 3) mb k D) := fun U hU => by
        have := (cellsZ (keepZ hU k5)).1
        exact ⟨⟨by rw [this]; rfl, by rw [this]; rfl, by rw [this]; rfl, by rw [this]; rfl⟩, HMQ.out.1.kept (row := none) (gr_belZ (bel0Z b5 hU) none) (by simp)⟩
      have H1 := HPO.out W5 x HB5.out hok
      have HW5 := hideL hW5
      have HB4 := hideL hb4
      clear hx hok b5 hb4 k5 hW5
      go_upto_region 5 with fail
      rw [HW5.out, HB4.out]
      clear i0 i1 i2 i3 q0 q1 q2 q3
      obtain ⟨q0, q1, q2, q3⟩ := HC.out W5 HB5.out
      obtain ⟨⟨i0, i1, i2, i3⟩, -⟩ := HK5.out W5 (Below.refl _ _)
      go_wp2_with fail
      refine H1.mono ?_
      rintro e W6 ⟨rfl, b6⟩
      have HB6 : Hid (Below W1.heap.size W1 W6) := bel0Z HB5.out b6
      obtain ⟨⟨u0, -, -, -⟩, hown⟩ := HK5.out W6 b6
      clear H1 b6 q0 q1 q2 q3 i0 i1 i2 i3
      cases hp : pb (PortP n x) with
      | false =>
        have HQ := hideL (HQF.out W6 HB6.out (fun h => pb_not hp (h.1 x (List.mem_of_getElem? HX.out.1))))
        clear hp hown
        go_wp2_with fail
        go_ret
        exact HQ.out
      | true =>
        have HPX := hideL (pb_iff.1 hp)
        have hkey : keyOf Tryz.prog 9 (.string ⟨x.nm.toArray⟩) = some (.string x.nm) := by
          have := WideMaps.keyOf_string_mk (P := Tryz.prog) (k := 9) Tryz.underlying9 (s := ⟨x.nm.toArray⟩) (by have h9 : x.nm.length ≤ 140737488351232 := HX.out.2; simp [ByteArray.size, maxLen]; omega)
          simpa using this
        clear hp
        go_wp2_with (first
          | (at_mapUpdate; refine wpList_mapUpdate_own _ rfl _ _ _ 63 rfl 9 3 (Maps.string_keyed Tryz.underlying9) Tryz.underlying63 _ mb k D rfl hown (by unfold maxLen; omega) _ _ _ rfl rfl hkey _ [] (plainElem_int Tryz.underlying3 (WalkArith.wf_i64 (by omega))) ?_)
          | fail)
        intro w7 hown7 hg7
        have HN1 : Hid (w7.ownsMap Tryz.prog 9 (plainElem Tryz.prog 3) mb (k + 1) (D.put (.string x.nm) (.lit (.int .i64 (k : Int)))) ∧ MPQ n (k + 1) (D.put (.string x.nm) (.lit (.int .i64 (k : Int)))) ∧ ∀ p ∈ n.ports.take (k + 1), PortP n p) := ⟨hown7, HMQ.out.2.1.put HX.out.1 _ (hown7.tidy (Maps.string_keyed Tryz.underlying9)), all_take HX.out.1 HMQ.out.2.2 HPX.out⟩
        have HB7 : Hid (Below W1.heap.size W1 w7) := bel_grZ HB6.out hg7 (fun k9 e9 => by injection e9 with e9; have := HMB.out; omega)
        clear hown hown7 hg7 hkey HMQ
        go_wp2_with fail
        go_roundw
        case rel => exact ⟨k + 1, _, by go_num, by omega, HN1, HB7⟩
        case measure => simp [intOf]; omega
    · obtain rfl : k = np := by omega
      have j2 : ¬ (k : Int) < (k : Int) := by omega
      obtain ⟨hown, hmq, hall⟩ := HMQ.out
      obtain ⟨sz, hsz⟩ : ∃ sz, Maps.size D = sz := ⟨_, rfl⟩
      have HND : Hid (sz = k ↔ (n.ports.map (·.nm)).Nodup) := by
        have h1 := hmq.2.2.2
        rw [hsz, List.take_of_length_le (by have := HNP.out; omega)] at h1
        exact h1
      have HAL : Hid (∀ p ∈ n.ports, PortP n p) := by
        have h1 := hall
        rw [List.take_of_length_le (by have := HNP.out; omega)] at h1
        exact h1
      clear hmq hall HMQ
      by_cases he : sz = k
      · have HQ := hideL (HQT.out wr HB.out ⟨HAL.out, HND.out.1 he⟩)
        have y1 : ((sz : Int) == (k : Int)) = true := beq_iff_eq.2 (by omega)
        clear he HND HAL
        go_wp2_with (first
          | (at_len; refine wpList_len_own _ rfl _ 63 rfl 9 3 Tryz.underlying63 _ mb k D rfl hown ?_; rw [hsz])
          | fail)
        go_ret
        exact HQ.out
      · have HQ := hideL (HQF.out wr HB.out (fun h => he (HND.out.2 h.2)))
        have y1 : ((sz : Int) == (k : Int)) = false := beq_eq_false_iff_ne.2 (by omega)
        clear he HND HAL
        go_wp2_with (first
          | (at_len; refine wpList_len_own _ rfl _ 63 rfl 9 3 Tryz.underlying63 _ mb k D rfl hown ?_; rw [hsz])
          | fail)
        go_ret
        exact HQ.out
end Go.Proofs.YthonobihcahfiaaGreatDoor.Nt
