import Derived.Test.YtffgkjmfeannoaaGreatDoorXAI
import Derived.Test.YtffgkjmfeannoaaGreatDoorXAD
namespace Go.Proofs.YtffgkjmfeannoaaGreatDoor
open Go.RowKit
def numN (l : List UInt8) : Option Nat :=
  if 0 ≤ Lib.indexByte l 46 then quadK 3 0 l
  else if (3 ≤ l.length ∧ l.length ≤ 10) ∧ l.take 2 = [48, 120] then foldN 16 hexD (l.drop 2) 0
  else if (3 ≤ l.length ∧ l.length ≤ 34) ∧ l.take 2 = [48, 98] then foldN 2 binD (l.drop 2) 0
  else decN l 4294967295
theorem foldN_some {b : Nat} {D : UInt8 → Option Nat} {l : List UInt8} {k : Nat} {c : UInt8} {d : Nat} (h : l[k]? = some c) (hD : D c = some d) (m : Nat) : foldN b D (l.drop k) m = foldN b D (l.drop (k + 1)) (b * m + d) := by
  obtain ⟨hk, rfl⟩ := List.getElem?_eq_some_iff.1 h
  rw [List.drop_eq_getElem_cons hk, foldN, hD]
theorem foldN_none {b : Nat} {D : UInt8 → Option Nat} {l : List UInt8} {k : Nat} {c : UInt8} (h : l[k]? = some c) (hD : D c = none) (m : Nat) : foldN b D (l.drop k) m = none := by
  obtain ⟨hk, rfl⟩ := List.getElem?_eq_some_iff.1 h
  rw [List.drop_eq_getElem_cons hk, foldN, hD]
theorem foldN_end (b : Nat) (D : UInt8 → Option Nat) (l : List UInt8) (m : Nat) : foldN b D (l.drop l.length) m = some m := by rw [List.drop_length]; rfl
set_option maxRecDepth 100000 in
theorem refNumber_dot (l : List UInt8) (w : World) (hs : l.length ≤ 281474976710656) (hd : 0 ≤ Lib.indexByte l 46) :
    Calls Tryz.prog 71 #[.string ⟨l.toArray⟩] w fun e w' => e = .returned (.int .i64 (optI (numN l))) ∧ Below w.heap.size w w' := by
  have hn : Hid (numN l = quadK 3 0 l) := if_pos hd
  have HD := dot_any l w hs
  obtain ⟨di, hdi⟩ : ∃ di, Lib.indexByte l 46 = di := ⟨_, rfl⟩
  rw [hdi] at HD hd
  clear hdi
  go_enter Tryz.func71, Tryz.ntmps71
  go_wp2_with fail
  refine HD.mono ?_
  rintro e w1 ⟨rfl, hb1⟩
  go_wp2_with fail
  refine (refQuad_any l w1 hs).mono ?_
  rintro e w2 ⟨rfl, hb2⟩
  go_wp2_with fail
  go_ret
  exact ⟨by rw [hn.out]; rfl, bel0 hb1 hb2⟩
set_option maxRecDepth 100000 in
theorem refNumber_hex (l : List UInt8) (w : World) (hs : l.length ≤ 281474976710656) (hd : ¬ 0 ≤ Lib.indexByte l 46) (h3 : 3 ≤ l.length) (h10 : l.length ≤ 10) (ht : l.take 2 = [48, 120]) :
    Calls Tryz.prog 71 #[.string ⟨l.toArray⟩] w fun e w' => e = .returned (.int .i64 (optI (numN l))) ∧ Below w.heap.size w w' := by
  have hn : Hid (numN l = foldN 16 hexD (l.drop 2) 0) := by unfold Hid numN; rw [if_neg hd, if_pos ⟨⟨h3, h10⟩, ht⟩]
  have HD := dot_any l w hs
  obtain ⟨di, hdi⟩ : ∃ di, Lib.indexByte l 46 = di := ⟨_, rfl⟩
  rw [hdi] at HD hd
  clear hdi
  have i3 : (3 : Int) ≤ (l.length : Int) := by omega
  have i10 : (l.length : Int) ≤ 10 := by omega
  have hE := ext_take l 2
  rw [ht] at hE
  go_enter Tryz.func71, Tryz.ntmps71
  go_wp2_with fail
  refine HD.mono ?_
  rintro e w1 ⟨rfl, hb1⟩
  go_wp2_with fail
  go_loopw [3, 4] (fun n i wr => ∃ (k m : Nat), 2 ≤ k ∧ k ≤ l.length ∧ i = .int .i64 k ∧ n = .int .i64 m ∧ m < 16 ^ (k - 2) ∧ foldN 16 hexD (l.drop k) m = foldN 16 hexD (l.drop 2) 0 ∧ Below w.heap.size w wr) (fun _ i _ => l.length - (intOf i).toNat)
  case atStart => exact ⟨2, 0, by omega, by omega, rfl, rfl, by decide, rfl, hb1⟩
  case round =>
    clear hb1
    obtain ⟨k, m, hk2, hk, rfl, rfl, hm, hf, hB⟩ := hrel
    by_cases hlt : k < l.length
    · have j1 : (k : Int) < (l.length : Int) := by omega
      have hm7 : m < 268435456 := Nat.lt_of_lt_of_le hm (Nat.pow_le_pow_right (j := 7) (show 16 > 0 by decide) (by omega))
      obtain ⟨c, hc, hlc⟩ := byte_get l k hlt
      have HH := fun W => refHex_any c W
      cases hD : hexD c with
      | none =>
        have HQ : Hid (numN l = none) := by unfold Hid; rw [hn.out, ← hf]; exact foldN_none hlc hD m
        rw [hD] at HH
        simp only [optI] at HH
        clear hf hD
        go_wp2_with fail
        refine (HH _).mono ?_
        rintro e w2 ⟨rfl, rfl⟩
        go_wp2_with fail
        go_ret
        exact ⟨by rw [HQ.out]; rfl, hB⟩
      | some d =>
        have hd16 := hexD_lt hD
        have HF : Hid (foldN 16 hexD (l.drop (k + 1)) (16 * m + d) = foldN 16 hexD (l.drop 2) 0) := by unfold Hid; rw [← hf]; exact (foldN_some hlc hD m).symm
        have HM : Hid (16 * m + d < 16 ^ (k + 1 - 2)) := by unfold Hid; rw [show k + 1 - 2 = (k - 2) + 1 by omega, Nat.pow_succ]; omega
        rw [hD] at HH
        simp only [optI] at HH
        have jd : ¬ (d : Int) < 0 := by omega
        have hwr : IntKind.i64.wrap (16 * (m : Int)) = 16 * (m : Int) := by rw [IntKind.wrap_i64]; omega
        have hwr2 : IntKind.i64.wrap (16 * (m : Int) + (d : Int)) = 16 * (m : Int) + (d : Int) := by rw [IntKind.wrap_i64]; omega
        clear hf hD hm
        go_wp2_with fail
        refine (HH _).mono ?_
        rintro e w2 ⟨rfl, rfl⟩
        go_wp2_with fail
        refine (HH _).mono ?_
        rintro e w3 ⟨rfl, rfl⟩
        go_wp2_with fail
        go_roundw
        case rel => exact ⟨k + 1, 16 * m + d, by omega, by omega, by go_num, by go_num, HM.out, HF.out, hB⟩
        case measure => simp [intOf]; omega
    · have j1 : ¬ (k : Int) < (l.length : Int) := by omega
      obtain rfl : k = l.length := by omega
      have HQ : Hid (numN l = some m) := by unfold Hid; rw [hn.out, ← hf]; exact foldN_end _ _ _ _
      clear hf
      go_wp2_with fail
      go_ret
      exact ⟨by rw [HQ.out]; rfl, hB⟩
theorem binD_or {c : UInt8} {d : Nat} (h : binD c = some d) : (c = 48 ∧ d = 0) ∨ (c = 49 ∧ d = 1) := by
  unfold binD at h
  split at h
  · exact .inl ⟨by assumption, (Option.some.inj h).symm⟩
  · split at h
    · exact .inr ⟨by assumption, (Option.some.inj h).symm⟩
    · cases h
set_option maxRecDepth 100000 in
theorem refNumber_bin (l : List UInt8) (w : World) (hs : l.length ≤ 281474976710656) (hd : ¬ 0 ≤ Lib.indexByte l 46) (h3 : 3 ≤ l.length) (h34 : l.length ≤ 34) (ht : l.take 2 = [48, 98]) :
    Calls Tryz.prog 71 #[.string ⟨l.toArray⟩] w fun e w' => e = .returned (.int .i64 (optI (numN l))) ∧ Below w.heap.size w w' := by
  have hn : Hid (numN l = foldN 2 binD (l.drop 2) 0) := by unfold Hid numN; rw [if_neg hd, if_neg (fun h => by rw [ht] at h; exact absurd h.2 (by decide)), if_pos ⟨⟨h3, h34⟩, ht⟩]
  have HD := dot_any l w hs
  obtain ⟨di, hdi⟩ : ∃ di, Lib.indexByte l 46 = di := ⟨_, rfl⟩
  rw [hdi] at HD hd
  clear hdi
  have i3 : (3 : Int) ≤ (l.length : Int) := by omega
  have i34 : (l.length : Int) ≤ 34 := by omega
  have hE := ext_take l 2
  rw [ht] at hE
  go_enter Tryz.func71, Tryz.ntmps71
  go_wp2_with fail
  refine HD.mono ?_
  rintro e w1 ⟨rfl, hb1⟩
  by_cases i10 : (l.length : Int) ≤ 10
  · go_wp2_with fail
    go_loopw [5, 6] (fun n i wr => ∃ (k m : Nat), 2 ≤ k ∧ k ≤ l.length ∧ i = .int .i64 k ∧ n = .int .i64 m ∧ m < 2 ^ (k - 2) ∧ foldN 2 binD (l.drop k) m = foldN 2 binD (l.drop 2) 0 ∧ Below w.heap.size w wr) (fun _ i _ => l.length - (intOf i).toNat)
    case atStart => exact ⟨2, 0, by omega, by omega, rfl, rfl, by decide, rfl, hb1⟩
    case round =>
      clear hb1
      obtain ⟨k, m, hk2, hk, rfl, rfl, hm, hf, hB⟩ := hrel
      by_cases hlt : k < l.length
      · have j1 : (k : Int) < (l.length : Int) := by omega
        have hm7 : m < 2147483648 := Nat.lt_of_lt_of_le hm (Nat.pow_le_pow_right (j := 31) (show 2 > 0 by decide) (by omega))
        obtain ⟨c, hc, hlc⟩ := byte_get l k hlt
        cases hD : binD c with
        | none =>
          have HQ : Hid (numN l = none) := by unfold Hid; rw [hn.out, ← hf]; exact foldN_none hlc hD m
          have c48 : ((c.toNat : Int) == 48) = false := u8_ne (d := 48) (fun e => by subst e; cases hD)
          have c49 : ((c.toNat : Int) == 49) = false := u8_ne (d := 49) (fun e => by subst e; cases hD)
          have n48 : ((c.toNat : Int) != 48) = true := by rw [bne, c48]; rfl
          have n49 : ((c.toNat : Int) != 49) = true := by rw [bne, c49]; rfl
          clear hf hD
          go_wp2_with fail
          go_ret
          exact ⟨by rw [HQ.out]; rfl, hB⟩
        | some d =>
          have HF : Hid (foldN 2 binD (l.drop (k + 1)) (2 * m + d) = foldN 2 binD (l.drop 2) 0) := by unfold Hid; rw [← hf]; exact (foldN_some hlc hD m).symm
          have hd2 : d ≤ 1 := by rcases binD_or hD with ⟨_, rfl⟩ | ⟨_, rfl⟩ <;> omega
          have HM : Hid (2 * m + d < 2 ^ (k + 1 - 2)) := by unfold Hid; rw [show k + 1 - 2 = (k - 2) + 1 by omega, Nat.pow_succ]; omega
          have hwr : IntKind.i64.wrap (2 * (m : Int)) = 2 * (m : Int) := by rw [IntKind.wrap_i64]; omega
          have hwr2 : IntKind.i64.wrap (2 * (m : Int) + 1) = 2 * (m : Int) + 1 := by rw [IntKind.wrap_i64]; omega
          clear hf hm hd2
          rcases binD_or hD with ⟨rfl, rfl⟩ | ⟨rfl, rfl⟩
          · clear hD
            go_wp2_with fail
            go_roundw
            case rel => exact ⟨k + 1, 2 * m + 0, by omega, by omega, by go_num, by go_num, HM.out, HF.out, hB⟩
            case measure => simp [intOf]; omega
          · clear hD
            go_wp2_with fail
            go_roundw
            case rel => exact ⟨k + 1, 2 * m + 1, by omega, by omega, by go_num, by go_num, HM.out, HF.out, hB⟩
            case measure => simp [intOf]; omega
      · have j1 : ¬ (k : Int) < (l.length : Int) := by omega
        obtain rfl : k = l.length := by omega
        have HQ : Hid (numN l = some m) := by unfold Hid; rw [hn.out, ← hf]; exact foldN_end _ _ _ _
        clear hf
        go_wp2_with fail
        go_ret
        exact ⟨by rw [HQ.out]; rfl, hB⟩
  · go_wp2_with fail
    go_loopw [5, 6] (fun n i wr => ∃ (k m : Nat), 2 ≤ k ∧ k ≤ l.length ∧ i = .int .i64 k ∧ n = .int .i64 m ∧ m < 2 ^ (k - 2) ∧ foldN 2 binD (l.drop k) m = foldN 2 binD (l.drop 2) 0 ∧ Below w.heap.size w wr) (fun _ i _ => l.length - (intOf i).toNat)
    case atStart => exact ⟨2, 0, by omega, by omega, rfl, rfl, by decide, rfl, hb1⟩
    case round =>
      clear hb1
      obtain ⟨k, m, hk2, hk, rfl, rfl, hm, hf, hB⟩ := hrel
      by_cases hlt : k < l.length
      · have j1 : (k : Int) < (l.length : Int) := by omega
        have hm7 : m < 2147483648 := Nat.lt_of_lt_of_le hm (Nat.pow_le_pow_right (j := 31) (show 2 > 0 by decide) (by omega))
        obtain ⟨c, hc, hlc⟩ := byte_get l k hlt
        cases hD : binD c with
        | none =>
          have HQ : Hid (numN l = none) := by unfold Hid; rw [hn.out, ← hf]; exact foldN_none hlc hD m
          have c48 : ((c.toNat : Int) == 48) = false := u8_ne (d := 48) (fun e => by subst e; cases hD)
          have c49 : ((c.toNat : Int) == 49) = false := u8_ne (d := 49) (fun e => by subst e; cases hD)
          have n48 : ((c.toNat : Int) != 48) = true := by rw [bne, c48]; rfl
          have n49 : ((c.toNat : Int) != 49) = true := by rw [bne, c49]; rfl
          clear hf hD
          go_wp2_with fail
          go_ret
          exact ⟨by rw [HQ.out]; rfl, hB⟩
        | some d =>
          have HF : Hid (foldN 2 binD (l.drop (k + 1)) (2 * m + d) = foldN 2 binD (l.drop 2) 0) := by unfold Hid; rw [← hf]; exact (foldN_some hlc hD m).symm
          have hd2 : d ≤ 1 := by rcases binD_or hD with ⟨_, rfl⟩ | ⟨_, rfl⟩ <;> omega
          have HM : Hid (2 * m + d < 2 ^ (k + 1 - 2)) := by unfold Hid; rw [show k + 1 - 2 = (k - 2) + 1 by omega, Nat.pow_succ]; omega
          have hwr : IntKind.i64.wrap (2 * (m : Int)) = 2 * (m : Int) := by rw [IntKind.wrap_i64]; omega
          have hwr2 : IntKind.i64.wrap (2 * (m : Int) + 1) = 2 * (m : Int) + 1 := by rw [IntKind.wrap_i64]; omega
          clear hf hm hd2
          rcases binD_or hD with ⟨rfl, rfl⟩ | ⟨rfl, rfl⟩
          · clear hD
            go_wp2_with fail
            go_roundw
            case rel => exact ⟨k + 1, 2 * m + 0, by omega, by omega, by go_num, by go_num, HM.out, HF.out, hB⟩
            case measure => simp [intOf]; omega
          · clear hD
            go_wp2_with fail
            go_roundw
            case rel => exact ⟨k + 1, 2 * m + 1, by omega, by omega, by go_num, by go_num, HM.out, HF.out, hB⟩
            case measure => simp [intOf]; omega
      · have j1 : ¬ (k : Int) < (l.length : Int) := by omega
        obtain rfl : k = l.length := by omega
        have HQ : Hid (numN l = some m) := by unfold Hid; rw [hn.out, ← hf]; exact foldN_end _ _ _ _
        clear hf
        go_wp2_with fail
        go_ret
        exact ⟨by rw [HQ.out]; rfl, hB⟩
set_option maxRecDepth 100000 in
theorem refNumber_dec (l : List UInt8) (w : World) (hs : l.length ≤ 281474976710656) (hd : ¬ 0 ≤ Lib.indexByte l 46) (hx : ¬ ((3 ≤ l.length ∧ l.length ≤ 10) ∧ l.take 2 = [48, 120])) (hb : ¬ ((3 ≤ l.length ∧ l.length ≤ 34) ∧ l.take 2 = [48, 98])) :
    Calls Tryz.prog 71 #[.string ⟨l.toArray⟩] w fun e w' => e = .returned (.int .i64 (optI (numN l))) ∧ Below w.heap.size w w' := by
  have hn : Hid (numN l = decN l 4294967295) := by unfold Hid numN; rw [if_neg hd, if_neg hx, if_neg hb]
  have HD := dot_any l w hs
  obtain ⟨di, hdi⟩ : ∃ di, Lib.indexByte l 46 = di := ⟨_, rfl⟩
  rw [hdi] at HD hd
  clear hdi
  have hE := ext_take l 2
  have HC : ∀ W, Below w.heap.size w W → Calls Tryz.prog 82 #[.string ⟨l.toArray⟩, .int .i64 4294967295] W fun e w' => e = .returned (.int .i64 (optI (decN l 4294967295))) ∧ Below w.heap.size w w' := fun W hW => (refDecimal_any l 4294967295 W hs).mono (fun e w' h => ⟨h.1, bel0 hW h.2⟩)
  obtain ⟨t, ht⟩ : ∃ t, l.take 2 = t := ⟨_, rfl⟩
  rw [ht] at hE hx hb
  clear ht
  go_enter Tryz.func71, Tryz.ntmps71
  go_wp2_with fail
  refine HD.mono ?_
  rintro e w1 ⟨rfl, hb1⟩
  by_cases h3 : 3 ≤ l.length
  · have i3 : (3 : Int) ≤ (l.length : Int) := by omega
    by_cases h10 : l.length ≤ 10
    · have i10 : (l.length : Int) ≤ 10 := by omega
      have i34 : (l.length : Int) ≤ 34 := by omega
      have t1 : (t == [48, 120]) = false := beq_eq_false_iff_ne.2 (fun e => hx ⟨⟨h3, h10⟩, e⟩)
      have t2 : (t == [48, 98]) = false := beq_eq_false_iff_ne.2 (fun e => hb ⟨⟨h3, by omega⟩, e⟩)
      go_wp2_with fail
      refine (HC _ hb1).mono ?_
      rintro e w2 ⟨rfl, hb2⟩
      go_wp2_with fail
      go_ret
      exact ⟨by rw [hn.out]; rfl, hb2⟩
    · have i10 : ¬ (l.length : Int) ≤ 10 := by omega
      by_cases h34 : l.length ≤ 34
      · have i34 : (l.length : Int) ≤ 34 := by omega
        have t2 : (t == [48, 98]) = false := beq_eq_false_iff_ne.2 (fun e => hb ⟨⟨h3, by omega⟩, e⟩)
        go_wp2_with fail
        refine (HC _ hb1).mono ?_
        rintro e w2 ⟨rfl, hb2⟩
        go_wp2_with fail
        go_ret
        exact ⟨by rw [hn.out]; rfl, hb2⟩
      · have i34 : ¬ (l.length : Int) ≤ 34 := by omega
        go_wp2_with fail
        refine (HC _ hb1).mono ?_
        rintro e w2 ⟨rfl, hb2⟩
        go_wp2_with fail
        go_ret
        exact ⟨by rw [hn.out]; rfl, hb2⟩
  · have i3 : ¬ (3 : Int) ≤ (l.length : Int) := by omega
    go_wp2_with fail
    refine (HC _ hb1).mono ?_
    rintro e w2 ⟨rfl, hb2⟩
    go_wp2_with fail
    go_ret
    exact ⟨by rw [hn.out]; rfl, hb2⟩
theorem refNumber_all (l : List UInt8) (w : World) (hs : l.length ≤ 281474976710656) :
    Calls Tryz.prog 71 #[.string ⟨l.toArray⟩] w fun e w' => e = .returned (.int .i64 (optI (numN l))) ∧ Below w.heap.size w w' := by
  by_cases hd : 0 ≤ Lib.indexByte l 46
  · exact refNumber_dot l w hs hd
  · by_cases hx : (3 ≤ l.length ∧ l.length ≤ 10) ∧ l.take 2 = [48, 120]
    · exact refNumber_hex l w hs hd hx.1.1 hx.1.2 hx.2
    · by_cases hb : (3 ≤ l.length ∧ l.length ≤ 34) ∧ l.take 2 = [48, 98]
      · exact refNumber_bin l w hs hd hb.1.1 hb.1.2 hb.2
      · exact refNumber_dec l w hs hd hx hb
def valV (l : List UInt8) : Int := if 16384 < l.length then 0 else match numN l with
  | some v => v
  | none => 0
def valE (l : List UInt8) : Int := if 16384 < l.length then 2 else match numN l with
  | some _ => 0
  | none => 31
set_option maxRecDepth 100000 in
theorem refValue_any (l : List UInt8) (w : World) (hm : l.length ≤ 281474976710656) :
    Calls Tryz.prog 58 #[.string ⟨l.toArray⟩] w fun e w' => e = .returned (.tuple #[.int .i64 (valV l), .int .i64 (valE l)]) ∧ Below w.heap.size w w' := by
  by_cases hs : 16384 < l.length
  · have e1 : Hid (valV l = 0) := if_pos hs
    have e2 : Hid (valE l = 2) := if_pos hs
    have i1 : (16384 : Int) < (l.length : Int) := by omega
    go_enter Tryz.func58, Tryz.ntmps58
    go_wp2_with fail
    go_ret2
    exact ⟨by rw [e1.out, e2.out]; rfl, Below.refl _ _⟩
  · have i1 : ¬ (16384 : Int) < (l.length : Int) := by omega
    have HN := refNumber_all l w (by omega)
    cases hn : numN l with
    | none =>
      have e1 : Hid (valV l = 0) := by unfold Hid valV; rw [if_neg hs, hn]
      have e2 : Hid (valE l = 31) := by unfold Hid valE; rw [if_neg hs, hn]
      rw [hn] at HN
      simp only [optI] at HN
      clear hn
      go_enter Tryz.func58, Tryz.ntmps58
      go_wp2_with fail
      refine HN.mono ?_
      rintro e w1 ⟨rfl, hb1⟩
      go_wp2_with fail
      go_ret2
      exact ⟨by rw [e1.out, e2.out]; rfl, hb1⟩
    | some v =>
      have e1 : Hid (valV l = v) := by unfold Hid valV; rw [if_neg hs, hn]
      have e2 : Hid (valE l = 0) := by unfold Hid valE; rw [if_neg hs, hn]
      have jv : ¬ (v : Int) < 0 := by omega
      rw [hn] at HN
      simp only [optI] at HN
      clear hn
      go_enter Tryz.func58, Tryz.ntmps58
      go_wp2_with fail
      refine HN.mono ?_
      rintro e w1 ⟨rfl, hb1⟩
      go_wp2_with fail
      go_ret2
      exact ⟨by rw [e1.out, e2.out]; rfl, hb1⟩
end Go.Proofs.YtffgkjmfeannoaaGreatDoor
