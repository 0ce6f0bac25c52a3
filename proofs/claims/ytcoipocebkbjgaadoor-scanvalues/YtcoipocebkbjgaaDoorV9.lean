import Derived.Test.YtcoipocebkbjgaaDoorV8
namespace Go.Proofs.YtcoipocebkbjgaaDoor
open Go.RowKit
set_option maxRecDepth 100000 in
theorem refNumber_dec (l : List UInt8) (w : World) (hs : l.length ≤ 16384) (hd : ¬ 0 ≤ Lib.indexByte l 46) (hx : ¬ ((3 ≤ l.length ∧ l.length ≤ 10) ∧ l.take 2 = [48, 120])) (hb : ¬ ((3 ≤ l.length ∧ l.length ≤ 34) ∧ l.take 2 = [48, 98])) :
    Calls Tryd.prog 30 #[.string ⟨l.toArray⟩] w fun e w' => e = .returned (.int .i64 (optI (numN l))) ∧ Below w.heap.size w w' := by
  have hn : Hid (numN l = decN l 4294967295) := by unfold Hid numN; rw [if_neg hd, if_neg hx, if_neg hb]
  have HD := dot_any l w hs
  obtain ⟨di, hdi⟩ : ∃ di, Lib.indexByte l 46 = di := ⟨_, rfl⟩
  rw [hdi] at HD hd
  clear hdi
  have hE := ext_take l 2
  have HC : ∀ W, Below w.heap.size w W → Calls Tryd.prog 53 #[.string ⟨l.toArray⟩, .int .i64 4294967295] W fun e w' => e = .returned (.int .i64 (optI (decN l 4294967295))) ∧ Below w.heap.size w w' := fun W hW => (refDecimal_any l 4294967295 W hs).mono (fun e w' h => ⟨h.1, bel0 hW h.2⟩)
  obtain ⟨t, ht⟩ : ∃ t, l.take 2 = t := ⟨_, rfl⟩
  rw [ht] at hE hx hb
  clear ht
  go_enter Tryd.func30, Tryd.ntmps30
  go_wp2_with fail
  refine HD.mono ?_
  rintro e w1 ⟨rfl, hb1⟩
  by_cases h3 : 3 ≤ l.length
  · have i3 : (3 : Int) ≤ (l.length : Int) := by omega
    by_cases h10 : l.length ≤ 10
    · have i10 : (l.length : Int) ≤ 10 := by omega
      have i34 : (l.length : Int) ≤ 34 := by omega
      have t1 : (t == [48, 120]) = false := beq_eq_false_iff_ne.2 (fun e => hx ⟨⟨h3, h10⟩, e⟩)
      have t2 : (t == [48, 98]) = false := beq_eq_false_iff_ne.2 (fun e => hb ⟨⟨h3, by omega⟩, e⟩)
      go_wp2_with fail
      refine (HC _ hb1).mono ?_
      rintro e w2 ⟨rfl, hb2⟩
      go_wp2_with fail
      go_ret
      exact ⟨by rw [hn.out]; rfl, hb2⟩
    · have i10 : ¬ (l.length : Int) ≤ 10 := by omega
      by_cases h34 : l.length ≤ 34
      · have i34 : (l.length : Int) ≤ 34 := by omega
        have t2 : (t == [48, 98]) = false := beq_eq_false_iff_ne.2 (fun e => hb ⟨⟨h3, by omega⟩, e⟩)
        go_wp2_with fail
        refine (HC _ hb1).mono ?_
        rintro e w2 ⟨rfl, hb2⟩
        go_wp2_with fail
        go_ret
        exact ⟨by rw [hn.out]; rfl, hb2⟩
      · have i34 : ¬ (l.length : Int) ≤ 34 := by omega
        go_wp2_with fail
        refine (HC _ hb1).mono ?_
        rintro e w2 ⟨rfl, hb2⟩
        go_wp2_with fail
        go_ret
        exact ⟨by rw [hn.out]; rfl, hb2⟩
  · have i3 : ¬ (3 : Int) ≤ (l.length : Int) := by omega
    go_wp2_with fail
    refine (HC _ hb1).mono ?_
    rintro e w2 ⟨rfl, hb2⟩
    go_wp2_with fail
    go_ret
    exact ⟨by rw [hn.out]; rfl, hb2⟩
theorem refNumber_all (l : List UInt8) (w : World) (hs : l.length ≤ 16384) :
    Calls Tryd.prog 30 #[.string ⟨l.toArray⟩] w fun e w' => e = .returned (.int .i64 (optI (numN l))) ∧ Below w.heap.size w w' := by
  by_cases hd : 0 ≤ Lib.indexByte l 46
  · exact refNumber_dot l w hs hd
  · by_cases hx : (3 ≤ l.length ∧ l.length ≤ 10) ∧ l.take 2 = [48, 120]
    · exact refNumber_hex l w hs hd hx.1.1 hx.1.2 hx.2
    · by_cases hb : (3 ≤ l.length ∧ l.length ≤ 34) ∧ l.take 2 = [48, 98]
      · exact refNumber_bin l w hs hd hb.1.1 hb.1.2 hb.2
      · exact refNumber_dec l w hs hd hx hb
/-- what Value answers -/
def valV (l : List UInt8) : Int := if 16384 < l.length then 0 else match numN l with
  | some v => v
  | none => 0
def valE (l : List UInt8) : Int := if 16384 < l.length then 2 else match numN l with
  | some _ => 0
  | none => 31
set_option maxRecDepth 100000 in
theorem refValue_any (l : List UInt8) (w : World) (hm : l.length ≤ 281474976710656) :
    Calls Tryd.prog 16 #[.string ⟨l.toArray⟩] w fun e w' => e = .returned (.tuple #[.int .i64 (valV l), .int .i64 (valE l)]) ∧ Below w.heap.size w w' := by
  by_cases hs : 16384 < l.length
  · have e1 : Hid (valV l = 0) := if_pos hs
    have e2 : Hid (valE l = 2) := if_pos hs
    have i1 : (16384 : Int) < (l.length : Int) := by omega
    go_enter Tryd.func16, Tryd.ntmps16
    go_wp2_with fail
    go_ret2
    exact ⟨by rw [e1.out, e2.out]; rfl, Below.refl _ _⟩
  · have i1 : ¬ (16384 : Int) < (l.length : Int) := by omega
    have HN := refNumber_all l w (by omega)
    cases hn : numN l with
    | none =>
      have e1 : Hid (valV l = 0) := by unfold Hid valV; rw [if_neg hs, hn]
      have e2 : Hid (valE l = 31) := by unfold Hid valE; rw [if_neg hs, hn]
      rw [hn] at HN
      simp only [optI] at HN
      clear hn
      go_enter Tryd.func16, Tryd.ntmps16
      go_wp2_with fail
      refine HN.mono ?_
      rintro e w1 ⟨rfl, hb1⟩
      go_wp2_with fail
      go_ret2
      exact ⟨by rw [e1.out, e2.out]; rfl, hb1⟩
    | some v =>
      have e1 : Hid (valV l = v) := by unfold Hid valV; rw [if_neg hs, hn]
      have e2 : Hid (valE l = 0) := by unfold Hid valE; rw [if_neg hs, hn]
      have jv : ¬ (v : Int) < 0 := by omega
      rw [hn] at HN
      simp only [optI] at HN
      clear hn
      go_enter Tryd.func16, Tryd.ntmps16
      go_wp2_with fail
      refine HN.mono ?_
      rintro e w1 ⟨rfl, hb1⟩
      go_wp2_with fail
      go_ret2
      exact ⟨by rw [e1.out, e2.out]; rfl, hb1⟩
end Go.Proofs.YtcoipocebkbjgaaDoor
