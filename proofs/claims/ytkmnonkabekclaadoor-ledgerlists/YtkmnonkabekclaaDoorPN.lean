import Derived.Test.YtkmnonkabekclaaDoorPM
namespace Go.Proofs.YtkmnonkabekclaaDoor
open Go.RowKit Go.Shelf
/-- what cutLine answers -/
def cuV (l : List UInt8) : Value := match un1 l with
  | some (x, y) => .tuple #[.string ⟨x.toArray⟩, .string ⟨y.toArray⟩, .bool true]
  | none => .tuple #[.string ⟨#[]⟩, .string ⟨#[]⟩, .bool false]
theorem cuV_no {l : List UInt8} (h : un1 l = none) : cuV l = .tuple #[.string ⟨#[]⟩, .string ⟨#[]⟩, .bool false] := by unfold cuV; rw [h]
theorem un1_no {l : List UInt8} {v : Int} (ha : Lib.atoiAll (pre58 l) = .ok v) (h : ¬ (0 ≤ v ∧ v ≤ ((l.drop ((pre58 l).length + 1)).length : Int) ∧ Lib.itoa v = pre58 l)) (hl : l.length ≤ 16384) : un1 l = none := by
  unfold un1
  rw [if_neg]
  rintro ⟨h1, h2, h3, h4⟩
  have e := val_atoi h2 h3 (by omega)
  rw [ha] at e
  injection e with e
  rw [← e] at h2 h3 h4
  exact h ⟨h2, by rw [List.length_drop]; omega, h3⟩
theorem un1_err {l : List UInt8} (ha : ∀ u, Lib.atoiAll (pre58 l) ≠ .ok u) (hl : l.length ≤ 16384) : un1 l = none := by
  unfold un1
  rw [if_neg]
  rintro ⟨h1, h2, h3, h4⟩
  exact ha _ (val_atoi h2 h3 (by omega))
theorem un1_yes {l : List UInt8} {u : Nat} (h : (pre58 l).length < l.length) (ha : Lib.atoiAll (pre58 l) = .ok (u : Int)) (h2 : u ≤ (l.drop ((pre58 l).length + 1)).length) (h3 : Lib.itoa (u : Int) = pre58 l) : un1 l = some ((l.drop ((pre58 l).length + 1)).take u, (l.drop ((pre58 l).length + 1)).drop u) := by
  have e := atoi_val ha (by omega) h3
  unfold un1
  rw [e, Int.toNat_natCast, if_pos ⟨h, by omega, h3, by rw [List.length_drop] at h2; omega⟩]
set_option maxRecDepth 100000 in
set_option maxHeartbeats 4000000 in
theorem cutLine_any (l : List UInt8) (w : World) (hl : l.length ≤ 16384) (hv : VWP w) :
    Calls Tryd.prog 34 #[.string ⟨l.toArray⟩] w fun e w' => e = .returned (cuV l) ∧ Below w.heap.size w w' := by
  have HC := cut_anyP l w hl
  have HV : Hid (∀ W, Below w.heap.size w W → VWP W) := fun W h => hv.below h
  clear hv
  by_cases h : (pre58 l).length < l.length
  · rw [cut58, if_pos h] at HC
    simp only at HC
    obtain ⟨d, hd⟩ : ∃ d, pre58 l = d := ⟨_, rfl⟩
    obtain ⟨r, hr⟩ : ∃ r, l.drop ((pre58 l).length + 1) = r := ⟨_, rfl⟩
    have hdl : d.length ≤ 16384 := by rw [← hd]; have := pre_le l; omega
    have hrl : r.length ≤ 16384 := by rw [← hr, List.length_drop]; omega
    have HNO : Hid (∀ v : Int, Lib.atoiAll d = .ok v → ¬ (0 ≤ v ∧ v ≤ (r.length : Int) ∧ Lib.itoa v = d) → cuV l = .tuple #[.string ⟨#[]⟩, .string ⟨#[]⟩, .bool false]) := fun v ha hn => cuV_no (un1_no (v := v) (by rw [hd]; exact ha) (by rw [hr, hd]; exact hn) hl)
    have HER : Hid ((∀ u, Lib.atoiAll d ≠ .ok u) → cuV l = .tuple #[.string ⟨#[]⟩, .string ⟨#[]⟩, .bool false]) := fun ha => cuV_no (un1_err (by rw [hd]; exact ha) hl)
    have HYE : Hid (∀ u : Nat, Lib.atoiAll d = .ok (u : Int) → u ≤ r.length → Lib.itoa (u : Int) = d → cuV l = .tuple #[.string ⟨(r.take u).toArray⟩, .string ⟨(r.drop u).toArray⟩, .bool true]) := fun u h1 h2 h3 => by
      unfold cuV
      rw [un1_yes h (by rw [hd]; exact h1) (by rw [hr]; exact h2) (by rw [hd]; exact h3), hr]
    rw [hr, hd] at HC
    clear hd hr h
    go_enter Tryd.func34, Tryd.ntmps34
    go_wp2_with fail
    refine HC.mono ?_
    rintro e w1 ⟨rfl, b1⟩
    have HB1 : Hid (Below w.heap.size w w1) := b1
    have HA := atoi_anyP d w1 hdl (HV.out w1 b1)
    clear b1 HC
    go_wp2_with fail
    refine HA.mono ?_
    rintro e w2 ⟨⟨v, q, rfl, hq⟩, b2⟩
    have HB2 : Hid (Below w.heap.size w w2) := bel0Z HB1.out b2
    clear HA b2 HB1
    rcases hq with ⟨hok, rfl⟩ | ⟨her, t, p, rfl⟩
    · by_cases h0 : v < 0
      · have HE : Hid (cuV l = .tuple #[.string ⟨#[]⟩, .string ⟨#[]⟩, .bool false]) := HNO.out v hok (fun h => by omega)
        clear hok
        go_wp2_with fail
        go_ret3
        exact ⟨(congrArg Ending.returned HE.out).symm, HB2.out⟩
      obtain ⟨u, rfl⟩ : ∃ u : Nat, v = u := ⟨v.toNat, by omega⟩
      by_cases h1 : r.length < u
      · have HE : Hid (cuV l = .tuple #[.string ⟨#[]⟩, .string ⟨#[]⟩, .bool false]) := HNO.out u hok (fun h => by omega)
        have h1' : (r.length : Int) < (u : Int) := by omega
        clear hok
        go_wp2_with fail
        go_ret3
        exact ⟨(congrArg Ending.returned HE.out).symm, HB2.out⟩
      have h1' : ¬ (r.length : Int) < (u : Int) := by omega
      have HI := itoaU (u : Int) (by omega) (by omega) w2 (HV.out w2 HB2.out).pow
      obtain ⟨T, hT⟩ : ∃ T, itL (u : Int) = T := ⟨_, rfl⟩
      rw [hT] at HI
      by_cases h2 : T = d
      · subst h2
        have HE : Hid (cuV l = .tuple #[.string ⟨(r.take u).toArray⟩, .string ⟨(r.drop u).toArray⟩, .bool true]) := HYE.out u hok (by omega) hT
        have E1 : Hid ((ByteArray.mk r.toArray).extract 0 u = ⟨(r.take u).toArray⟩) := ext_takeP r u
        have E2 : Hid ((ByteArray.mk r.toArray).extract u r.length = ⟨(r.drop u).toArray⟩) := ext_dropP r u
        have j0 : (0 : Int) ≤ (u : Int) := by omega
        have j1 : (u : Int) ≤ (r.length : Int) := by omega
        clear hok hT
        go_wp2_with fail
        refine HI.mono ?_
        rintro e w3 ⟨rfl, b3⟩
        have HB3 : Hid (Below w.heap.size w w3) := bel0Z HB2.out b3
        clear HI b3 HB2
        go_wp2_with fail
        go_quiet (fail)
        go_wp2_with fail
        rw [E1.out, E2.out]
        go_ret3
        exact ⟨(congrArg Ending.returned HE.out).symm, bel_drewZ nq HB3.out⟩
      · have HE : Hid (cuV l = .tuple #[.string ⟨#[]⟩, .string ⟨#[]⟩, .bool false]) := HNO.out u hok (fun h => h2 (hT.symm.trans h.2.2))
        have e9 : (T == d) = false := beq_eq_false_iff_ne.2 h2
        clear hok hT
        go_wp2_with fail
        refine HI.mono ?_
        rintro e w3 ⟨rfl, b3⟩
        have HB3 : Hid (Below w.heap.size w w3) := bel0Z HB2.out b3
        clear HI b3 HB2
        go_wp2_with fail
        go_ret3
        exact ⟨(congrArg Ending.returned HE.out).symm, HB3.out⟩
    · have HE : Hid (cuV l = .tuple #[.string ⟨#[]⟩, .string ⟨#[]⟩, .bool false]) := HER.out her
      clear her
      go_wp2_with fail
      go_ret3
      exact ⟨(congrArg Ending.returned HE.out).symm, HB2.out⟩
  · rw [cut58, if_neg h] at HC
    simp only at HC
    have HE : Hid (cuV l = .tuple #[.string ⟨#[]⟩, .string ⟨#[]⟩, .bool false]) := cuV_no (by unfold un1; rw [if_neg (fun hh => h hh.1)])
    rw [HE.out]
    clear h
    go_enter Tryd.func34, Tryd.ntmps34
    go_wp2_with fail
    refine HC.mono ?_
    rintro e w1 ⟨rfl, b1⟩
    have HB1 : Hid (Below w.heap.size w w1) := b1
    have HA := atoi_anyP l w1 hl (HV.out w1 b1)
    clear b1 HC
    go_wp2_with fail
    refine HA.mono ?_
    rintro e w2 ⟨⟨v, q, rfl, hq⟩, b2⟩
    have HB2 : Hid (Below w.heap.size w w2) := bel0Z HB1.out b2
    clear HA b2 HB1 hq
    go_wp2_with fail
    go_ret3
    exact ⟨rfl, HB2.out⟩
end Go.Proofs.YtkmnonkabekclaaDoor
