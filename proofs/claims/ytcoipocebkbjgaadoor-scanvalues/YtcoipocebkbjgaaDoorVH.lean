import Derived.Test.YtcoipocebkbjgaaDoorVG
namespace Go.Proofs.YtcoipocebkbjgaaDoor
open Go.RowKit Go.Shelf
theorem contains_dot (l : List UInt8) (w : World) : Calls Tryd.prog 47 #[.string ⟨l.toArray⟩, .string ⟨#[46]⟩] w fun e w' => e = .returned (.bool (decide (0 ≤ Lib.indexByte l 46))) ∧ w' = w := Any.strings_Contains_one Tryd.l144 ⟨l.toArray⟩ 46 w
set_option maxRecDepth 100000 in
theorem valueOf_any (l : List UInt8) (w : World) (hs : l.length ≤ 16384) (hv0 : VW w) :
    Calls Tryd.prog 29 #[.string ⟨l.toArray⟩] w fun e w' => (∃ v : Int, e = .returned (.tuple #[.int .i64 v, .bool (numN l).isSome]) ∧ ∀ n, numN l = some n → v = n) ∧ Below w.heap.size w w' := by
  have hv : Hid (VW w) := hv0
  clear hv0
  have HC1 := cut_any 48 120 l w
  have HC2 := cut_any 48 98 l w
  by_cases h1 : l.take 2 = [48, 120]
  · rw [if_pos h1, decide_eq_true h1] at HC1
    have HD := digitsOf16_any (l.drop 2) w (by simp; omega) hv.out
    rw [← num_hex h1] at HD
    clear HC2 h1
    obtain ⟨N, hN⟩ : ∃ N, numN l = N := ⟨_, rfl⟩
    rw [hN] at HD ⊢
    go_enter Tryd.func29, Tryd.ntmps29
    go_wp2_with fail
    refine HC1.mono ?_
    rintro e w1 ⟨rfl, rfl⟩
    go_wp2_with fail
    refine HD.mono ?_
    rintro e w2 ⟨⟨v, rfl, hvn⟩, hb⟩
    have HVN : Hid (∀ n, N = some n → v = n) := hvn
    clear hvn
    go_wp2_with fail
    go_ret2
    exact ⟨⟨v, rfl, HVN.out⟩, hb⟩
  · rw [if_neg h1, decide_eq_false h1] at HC1
    by_cases h2 : l.take 2 = [48, 98]
    · rw [if_pos h2, decide_eq_true h2] at HC2
      have HD := digitsOf2_any (l.drop 2) w (by simp; omega) hv.out
      rw [← num_bin h2] at HD
      clear h1 h2
      obtain ⟨N, hN⟩ : ∃ N, numN l = N := ⟨_, rfl⟩
      rw [hN] at HD ⊢
      go_enter Tryd.func29, Tryd.ntmps29
      go_wp2_with fail
      refine HC1.mono ?_
      rintro e w1 ⟨rfl, rfl⟩
      go_wp2_with fail
      refine HC2.mono ?_
      rintro e w1 ⟨rfl, rfl⟩
      go_wp2_with fail
      refine HD.mono ?_
      rintro e w2 ⟨⟨v, rfl, hvn⟩, hb⟩
      have HVN : Hid (∀ n, N = some n → v = n) := hvn
      clear hvn
      go_wp2_with fail
      go_ret2
      exact ⟨⟨v, rfl, HVN.out⟩, hb⟩
    · rw [if_neg h2, decide_eq_false h2] at HC2
      have HK := contains_dot l w
      by_cases h3 : 0 ≤ Lib.indexByte l 46
      · rw [decide_eq_true h3] at HK
        have HD := quadOf_any l w hs hv.out
        have e0 : numN l = quadK 3 0 l := if_pos h3
        rw [← e0] at HD
        clear h1 h2 h3 e0
        obtain ⟨N, hN⟩ : ∃ N, numN l = N := ⟨_, rfl⟩
        rw [hN] at HD ⊢
        go_enter Tryd.func29, Tryd.ntmps29
        go_wp2_with fail
        refine HC1.mono ?_
        rintro e w1 ⟨rfl, rfl⟩
        go_wp2_with fail
        refine HC2.mono ?_
        rintro e w1 ⟨rfl, rfl⟩
        go_wp2_with fail
        refine HK.mono ?_
        rintro e w1 ⟨rfl, rfl⟩
        go_wp2_with fail
        refine HD.mono ?_
        rintro e w2 ⟨⟨v, rfl, hvn⟩, hb⟩
        have HVN : Hid (∀ n, N = some n → v = n) := hvn
        clear hvn
        go_wp2_with fail
        go_ret2
        exact ⟨⟨v, rfl, HVN.out⟩, hb⟩
      · rw [decide_eq_false h3] at HK
        have HD := decimalOf_any l 4294967295 w hs (by omega) hv.out
        rw [← num_dec h3 h1 h2] at HD
        clear h1 h2 h3
        obtain ⟨N, hN⟩ : ∃ N, numN l = N := ⟨_, rfl⟩
        rw [hN] at HD ⊢
        go_enter Tryd.func29, Tryd.ntmps29
        go_wp2_with fail
        refine HC1.mono ?_
        rintro e w1 ⟨rfl, rfl⟩
        go_wp2_with fail
        refine HC2.mono ?_
        rintro e w1 ⟨rfl, rfl⟩
        go_wp2_with fail
        refine HK.mono ?_
        rintro e w1 ⟨rfl, rfl⟩
        go_wp2_with fail
        refine HD.mono ?_
        rintro e w2 ⟨⟨v, rfl, hvn⟩, hb⟩
        have HVN : Hid (∀ n, N = some n → v = n) := hvn
        clear hvn
        go_wp2_with fail
        go_ret2
        exact ⟨⟨v, rfl, HVN.out⟩, hb⟩
set_option maxRecDepth 100000 in
theorem value_any (l : List UInt8) (w : World) (hm : l.length ≤ 281474976710656) (hv0 : VW w) :
    Calls Tryd.prog 15 #[.string ⟨l.toArray⟩] w fun e w' => e = .returned (.tuple #[.int .i64 (valV l), .int .i64 (valE l)]) ∧ Below w.heap.size w w' := by
  have hv : Hid (VW w) := hv0
  clear hv0
  by_cases hs : 16384 < l.length
  · have e1 : Hid (valV l = 0) := if_pos hs
    have e2 : Hid (valE l = 2) := if_pos hs
    have i1 : (16384 : Int) < (l.length : Int) := by omega
    go_enter Tryd.func15, Tryd.ntmps15
    go_wp2_with fail
    go_ret2
    exact ⟨by rw [e1.out, e2.out]; rfl, Below.refl _ _⟩
  · have i1 : ¬ (16384 : Int) < (l.length : Int) := by omega
    have HN := valueOf_any l w (by omega) hv.out
    cases hn : numN l with
    | none =>
      have e1 : Hid (valV l = 0) := by unfold Hid valV; rw [if_neg hs, hn]
      have e2 : Hid (valE l = 31) := by unfold Hid valE; rw [if_neg hs, hn]
      rw [hn] at HN
      simp only [Option.isSome_none] at HN
      clear hn
      go_enter Tryd.func15, Tryd.ntmps15
      go_wp2_with fail
      refine HN.mono ?_
      rintro e w1 ⟨⟨v, rfl, _⟩, hb1⟩
      go_wp2_with fail
      go_ret2
      exact ⟨by rw [e1.out, e2.out]; rfl, hb1⟩
    | some n =>
      have e1 : Hid (valV l = n) := by unfold Hid valV; rw [if_neg hs, hn]
      have e2 : Hid (valE l = 0) := by unfold Hid valE; rw [if_neg hs, hn]
      rw [hn] at HN
      simp only [Option.isSome_some] at HN
      clear hn
      go_enter Tryd.func15, Tryd.ntmps15
      go_wp2_with fail
      refine HN.mono ?_
      rintro e w1 ⟨⟨v, rfl, hvn⟩, hb1⟩
      obtain rfl := hvn n rfl
      clear hvn
      go_wp2_with fail
      go_ret2
      exact ⟨by rw [e1.out, e2.out]; rfl, hb1⟩
theorem val_1F : valV [48, 120, 49, 70] = 31 ∧ valE [48, 120, 49, 70] = 0 := by
  have h : numN [48, 120, 49, 70] = some 31 := by rw [num_hex rfl]; decide
  constructor
  · unfold valV; rw [if_neg (by decide), h]; rfl
  · unfold valE; rw [if_neg (by decide), h]
set_option maxRecDepth 100000 in
theorem scanValues_walk (s : ByteArray) (w : World) (hs : s.size ≤ 281474976710656) (hv0 : VW w) :
    Calls Tryd.prog 7 #[.string s] w fun e w' => e = .returned (.bool true) ∧ Below w.heap.size w w' := by
  have hv : Hid (VW w) := hv0
  clear hv0
  obtain ⟨l, rfl⟩ : ∃ l : List UInt8, s = ⟨l.toArray⟩ := ⟨s.data.toList, by simp⟩
  have hl : l.length ≤ 281474976710656 := by have e : (ByteArray.mk l.toArray).size = l.length := by simp [ByteArray.size]
                                             omega
  obtain ⟨V, hV⟩ : ∃ V, valV l = V := ⟨_, rfl⟩
  obtain ⟨E, hE⟩ : ∃ E, valE l = E := ⟨_, rfl⟩
  have c1 : Hid (∀ W, Below w.heap.size w W → Calls Tryd.prog 15 #[.string ⟨l.toArray⟩] W fun e w' => e = .returned (.tuple #[.int .i64 V, .int .i64 E]) ∧ Below w.heap.size w w') := fun W hW => by
    rw [← hV, ← hE]
    exact (value_any l W hl (hv.out.below hW)).mono (fun e w' h => ⟨h.1, bel0 hW h.2⟩)
  have c2 : Hid (∀ W, Below w.heap.size w W → Calls Tryd.prog 16 #[.string ⟨l.toArray⟩] W fun e w' => e = .returned (.tuple #[.int .i64 V, .int .i64 E]) ∧ Below w.heap.size w w') := fun W hW => by
    rw [← hV, ← hE]
    exact (refValue_any l W hl).mono (fun e w' h => ⟨h.1, bel0 hW h.2⟩)
  have c3 : Hid (∀ W, Below w.heap.size w W → Calls Tryd.prog 15 #[.string ⟨#[48, 120, 49, 70]⟩] W fun e w' => e = .returned (.tuple #[.int .i64 31, .int .i64 0]) ∧ Below w.heap.size w w') := fun W hW => by
    have h := value_any [48, 120, 49, 70] W (by decide) (hv.out.below hW)
    rw [val_1F.1, val_1F.2] at h
    exact h.mono (fun e w' h => ⟨h.1, bel0 hW h.2⟩)
  clear hV hE
  go_enter Tryd.func7, Tryd.ntmps7
  go_wp2_with fail
  refine (c1.out _ (Below.refl _ _)).mono ?_
  rintro e W1 ⟨rfl, hb1⟩
  go_wp2_with fail
  refine (c2.out _ hb1).mono ?_
  rintro e W2 ⟨rfl, hb2⟩
  go_wp2_with fail
  refine (c3.out _ hb2).mono ?_
  rintro e W3 ⟨rfl, hb3⟩
  go_wp2
  go_ret
  exact ⟨rfl, hb3⟩
end Go.Proofs.YtcoipocebkbjgaaDoor
