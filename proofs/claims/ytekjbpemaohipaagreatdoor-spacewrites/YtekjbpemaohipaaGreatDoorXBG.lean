import Derived.Test.YtekjbpemaohipaaGreatDoorXBF
import Derived.Test.YtekjbpemaohipaaGreatDoorXAZ
import Derived.Test.YtekjbpemaohipaaGreatDoorXAN
import Derived.Test.YtekjbpemaohipaaGreatDoorXAX
import Derived.Test.YtekjbpemaohipaaGreatDoorXAY
namespace Go.Proofs.YtekjbpemaohipaaGreatDoor
open Go.RowKit Go.Shelf
/-- a header of that width, as the law looks at it -/
def ihB (b : Int) (l : List UInt8) : Bool := ((l.length : Int) == b) && l.all digB
set_option maxHeartbeats 2000000 in
theorem isHeader_any (b : Int) (s : ByteArray) (w : World) (hs : s.size ≤ maxLen) :
    Calls Tryz.prog 11 #[.int .i64 b, .string s] w fun e w' => e = .returned (.bool (ihB b s.data.toList)) ∧ Below w.heap.size w w' := by
  unfold maxLen at hs
  have hlen : Hid (s.data.toList.length = s.size) := by simp [Hid]
  by_cases h1 : (s.size : Int) = b
  · have hQ : Hid (∀ q, s.data.toList.all digB = q → ihB b s.data.toList = q) := fun q hq => by
      unfold ihB
      rw [hlen.out, hq, show ((s.size : Int) == b) = true by simpa using h1, Bool.true_and]
    have m1 : ((s.size : Int) != b) = false := by simpa using h1
    clear h1
    go_enter Tryz.func11, Tryz.ntmps11
    go_wp2
    clear m1
    go_loopw [5] (fun i wr => ∃ k : Nat, k ≤ s.size ∧ i = .int .i64 k ∧ (∀ j (h : j < s.data.toList.length), j < k → digB s.data.toList[j] = true) ∧ Below w.heap.size w wr) (fun i _ => s.size - (intOf i).toNat)
    case atStart => exact ⟨0, Nat.zero_le _, rfl, fun j _ h => by omega, Below.refl _ _⟩
    case round =>
      obtain ⟨k, hk, rfl, htri, hB⟩ := hrel
      by_cases hlt : k < s.size
      · have i1 : (k : Int) < (s.size : Int) := by omega
        have i0 : (0 : Int) ≤ (k : Int) := by omega
        by_cases c3 : s[k] = 48 ∨ s[k] = 49
        · have R := dig_succ hlt htri c3
          clear htri
          rcases c3 with c | c
          · have m1 : ((s[k].toNat : Int) != 48) = false := by rw [c]; decide
            clear c
            go_wp2
            go_roundw
            case rel => exact ⟨k + 1, by omega, by go_num, R, hB⟩
            case measure => simp [intOf]; omega
          · have m1 : ((s[k].toNat : Int) != 48) = true := by rw [c]; decide
            have m2 : ((s[k].toNat : Int) != 49) = false := by rw [c]; decide
            clear c
            go_wp2
            go_roundw
            case rel => exact ⟨k + 1, by omega, by go_num, R, hB⟩
            case measure => simp [intOf]; omega
        · have c48 : ¬ s[k] = 48 := fun e => c3 (.inl e)
          have c49 : ¬ s[k] = 49 := fun e => c3 (.inr e)
          have R : Hid (ihB b s.data.toList = false) := hQ.out _ (by
            rw [List.all_eq_false]
            refine ⟨s[k], List.getElem_mem (l := s.data.toList) (by have := hlen.out; omega), ?_⟩
            unfold digB
            simp [c48, c49])
          have m1 : ((s[k].toNat : Int) != 48) = true := by rw [show ((s[k].toNat : Int) != 48) = !(s[k] == 48) from byte_bne s[k] 48 (by decide)]; simp [c48]
          have m2 : ((s[k].toNat : Int) != 49) = true := by rw [show ((s[k].toNat : Int) != 49) = !(s[k] == 49) from byte_bne s[k] 49 (by decide)]; simp [c49]
          clear htri c48 c49 c3
          go_wp2
          go_ret
          exact ⟨by rw [R.out]; rfl, hB⟩
      · have R : Hid (ihB b s.data.toList = true) := hQ.out _ (by
          rw [List.all_eq_true]
          intro t ht
          obtain ⟨j, hj, rfl⟩ := List.getElem_of_mem ht
          exact htri j hj (by have := hlen.out; omega))
        clear htri
        go_wp2
        go_ret
        exact ⟨by rw [R.out]; rfl, hB⟩
  · have hR : Hid (ihB b s.data.toList = false) := by
      unfold Hid ihB
      rw [hlen.out, show ((s.size : Int) == b) = false by simpa using h1]
      simp
    have m1 : ((s.size : Int) != b) = true := by simpa using h1
    clear h1
    go_enter Tryz.func11, Tryz.ntmps11
    go_wp2
    go_ret
    exact ⟨by rw [hR.out]; rfl, Below.refl _ _⟩
set_option maxHeartbeats 2000000 in
theorem fits_loop (a b : ByteArray) (w : World) (hs : a.size ≤ maxLen) (hz0 : a.size = b.size) :
    Calls Tryz.prog 35 #[.string a, .string b] w fun e w' => e = .returned (.bool (allTo (fun k => match a.data.toList[k]?, b.data.toList[k]? with | some x, some y => y == 120 || x == y | _, _ => true) a.data.toList.length)) ∧ Below w.heap.size w w' := by
  have z1 : ((a.size : Int) != (b.size : Int)) = false := by rw [hz0]; simp
  have hz : Hid (a.size = b.size) := hz0
  unfold maxLen at hs
  have LA : Hid (a.data.toList.length = a.size) := by simp [Hid]
  have hs2 : b.size ≤ 9223372036854775807 := by omega
  clear hz0
  obtain ⟨f, hf1⟩ : ∃ f : Nat → Bool, (fun k => match a.data.toList[k]?, b.data.toList[k]? with | some x, some y => y == 120 || x == y | _, _ => true) = f := ⟨_, rfl⟩
  rw [hf1]
  have HF : Hid ((fun k => match a.data.toList[k]?, b.data.toList[k]? with | some x, some y => y == 120 || x == y | _, _ => true) = f) := hf1
  clear hf1
  go_enter Tryz.func35, Tryz.ntmps35
  go_wp2_with fail
  clear z1
  go_loopw [5] (fun i wr => ∃ k : Nat, k ≤ a.size ∧ i = .int .i64 k ∧ Hid (∀ j, j < k → f j = true) ∧ Below w.heap.size w wr) (fun i _ => a.size - (intOf i).toNat)
  case atStart => exact ⟨0, Nat.zero_le _, rfl, fun j h => by omega, Below.refl _ _⟩
  case round =>
    obtain ⟨k, hk, rfl, hok, hB⟩ := hrel
    by_cases hlt : k < a.size
    · skip
      have hkb : k < b.size := by rw [← hz.out]; exact hlt
      have i0' : (0 : Int) ≤ (k : Int) := by omega
      have i1 : (k : Int) < (a.size : Int) := by omega
      have i2 : (k : Int) < (b.size : Int) := by omega
      obtain ⟨p2, n2⟩ : ∃ p, ((b[k].toNat : Int) != 120) = p := ⟨_, rfl⟩
      obtain ⟨p3, n3⟩ : ∃ p, ((b[k].toNat : Int) != (a[k].toNat : Int)) = p := ⟨_, rfl⟩
      have hH : Hid (f k = !(p2 && p3)) := by unfold Hid; rw [← HF.out]; exact inK_str a b k hlt hkb p2 p3 n2 n3
      have hlt' : Hid (k < a.data.toList.length) := by unfold Hid; rw [LA.out]; exact hlt
      cases p2 <;> cases p3
      all_goals
        go_wp2
        go_quiet (fail)
        go_wp2
        first
          | (have hF : f k = false := hH.out
             have hF2 := allTo_false k hlt'.out hF
             go_ret
             refine ⟨?_, hB.trans (below_drewN _ _ _)⟩
             rw [hF2]
             rfl)
          | (have hF : f k = true := hH.out
             have hF2 := ok_succ hok.out hF
             go_roundw
             case rel => exact ⟨k + 1, by omega, by go_num, hF2, hB.trans (below_drewN _ _ _)⟩
             case measure => simp [intOf]; omega)
    · have i2 : ¬ (k : Int) < (b.size : Int) := by have := hz.out; omega
      have hA : Hid (allTo f a.data.toList.length = true) := (allTo_iff _ _).2 (fun j hj => hok.out j (by rw [LA.out] at hj; omega))
      clear hok
      go_wp2
      go_ret
      exact ⟨by first | (rw [hA.out]; rfl) | (have h := hA.out; rw [LA.out] at h; rw [h]; rfl), hB⟩
theorem fits_any3 (h c : List UInt8) (w : World) (hs : h.length ≤ maxLen) :
    Calls Tryz.prog 35 #[.string ⟨h.toArray⟩, .string ⟨c.toArray⟩] w fun e w' => e = .returned (.bool (ftB h c)) ∧ Below w.heap.size w w' := by
  have l1 : (⟨h.toArray⟩ : ByteArray).size = h.length := by simp [ByteArray.size]
  have l2 : (⟨c.toArray⟩ : ByteArray).size = c.length := by simp [ByteArray.size]
  by_cases e : h.length = c.length
  · have h1 := fits_loop ⟨h.toArray⟩ ⟨c.toArray⟩ w (by rw [l1]; exact hs) (by rw [l1, l2]; exact e)
    refine h1.mono ?_
    rintro e' w' ⟨rfl, hb⟩
    refine ⟨?_, hb⟩
    unfold ftB
    rw [show (h.length == c.length) = true by simpa using e, Bool.true_and]
    rfl
  · have hR : Hid (ftB h c = false) := by
      unfold Hid ftB
      rw [show (h.length == c.length) = false by simpa using e]
      rfl
    have m1 : ((h.length : Int) != (c.length : Int)) = true := by
      rw [bne_iff_ne]
      omega
    clear l1 l2 e
    go_enter Tryz.func35, Tryz.ntmps35
    go_wp2
    go_ret
    exact ⟨by rw [hR.out]; rfl, Below.refl _ _⟩
theorem drop_at2 {L : List UInt8} {k : Nat} {x : UInt8} (h : L[k]? = some x) : L.drop k = x :: L.drop (k + 1) := by
  obtain ⟨hk, he⟩ := List.getElem?_eq_some_iff.1 h
  rw [List.drop_eq_getElem_cons hk, he]
theorem cur_step {L : List UInt8} {f k : Nat} {x : UInt8} (h : L[k]? = some x) (hf : f ≤ k) : (L.drop f).take (k + 1 - f) = (L.drop f).take (k - f) ++ [x] := by
  rw [show k + 1 - f = k - f + 1 by omega, List.take_add_one, List.getElem?_drop, show f + (k - f) = k by omega, h]
  rfl
def hasW (h : List UInt8) (L : List UInt8) (f k : Nat) : Bool := ftB h ((L.drop f).take (k - f))
def SDI (h L : List UInt8) (S : Bool) (f k : Nat) (inn fst sm : Bool) : Prop := (k ≤ L.length ∧ f ≤ k ∧ sdM h (L.drop k) ((L.drop f).take (k - f)) inn fst sm = S) ∨ (k = L.length + 1 ∧ sm = S)
theorem SDI.skip {h L : List UInt8} {S : Bool} {f k : Nat} {inn fst sm : Bool} {x : UInt8} (hi : SDI h L S f k inn fst sm) (hx : L[k]? = some x) (h1 : x ≠ 43) (h2 : x ≠ 45) : SDI h L S f (k + 1) inn fst sm := by
  have hk := (List.getElem?_eq_some_iff.1 hx).1
  rcases hi with ⟨_, hf, e⟩ | ⟨e, _⟩
  · refine .inl ⟨hk, by omega, ?_⟩
    rw [drop_at2 hx] at e
    unfold sdM at e
    rw [if_neg h1, if_neg h2] at e
    rw [cur_step hx hf]
    exact e
  · omega
theorem SDI.plus {h L : List UInt8} {S : Bool} {f k : Nat} {inn fst sm : Bool} {q : Bool} (hi : SDI h L S f k inn fst sm) (hx : L[k]? = some 43) (hq : hasW h L f k = q) : SDI h L S (k + 1) (k + 1) true true (sm || (inn && (if fst then q else !q))) := by
  have hk := (List.getElem?_eq_some_iff.1 hx).1
  rcases hi with ⟨_, hf, e⟩ | ⟨e, _⟩
  · refine .inl ⟨hk, Nat.le_refl _, ?_⟩
    rw [drop_at2 hx] at e
    unfold sdM at e
    rw [if_pos rfl] at e
    unfold hasW at hq
    rw [hq] at e
    rw [Nat.sub_self, List.take_zero]
    exact e
  · omega
theorem SDI.minus {h L : List UInt8} {S : Bool} {f k : Nat} {inn fst sm : Bool} {q : Bool} (hi : SDI h L S f k inn fst sm) (hx : L[k]? = some 45) (hq : hasW h L f k = q) : SDI h L S (k + 1) (k + 1) (inn && (if fst then q else !q)) false sm := by
  have hk := (List.getElem?_eq_some_iff.1 hx).1
  rcases hi with ⟨_, hf, e⟩ | ⟨e, _⟩
  · refine .inl ⟨hk, Nat.le_refl _, ?_⟩
    rw [drop_at2 hx] at e
    unfold sdM at e
    rw [if_neg (by decide), if_pos rfl] at e
    unfold hasW at hq
    rw [hq] at e
    rw [Nat.sub_self, List.take_zero]
    exact e
  · omega
theorem SDI.last {h L : List UInt8} {S : Bool} {f k : Nat} {inn fst sm : Bool} {q : Bool} (hi : SDI h L S f k inn fst sm) (hk : k = L.length) (hq : hasW h L f k = q) : SDI h L S (k + 1) (k + 1) true true (sm || (inn && (if fst then q else !q))) := by
  rcases hi with ⟨_, hf, e⟩ | ⟨e, _⟩
  · refine .inr ⟨by omega, ?_⟩
    rw [List.drop_of_length_le (by omega)] at e
    unfold sdM at e
    unfold hasW at hq
    rw [hq] at e
    exact e
  · omega
set_option maxRecDepth 100000 in
set_option maxHeartbeats 8000000 in
theorem said_raw (a s : ByteArray) (w : World) (hL : a.size ≤ 281474976710656) (hs : s.size ≤ maxLen) :
    Calls Tryz.prog 14 #[.string a, .string s] w fun e w' => e = .returned (.bool (sdB a.data.toList s.data.toList)) ∧ Below w.heap.size w w' := by
  have LA : Hid (a.data.toList.length = a.size) := by simp [Hid]
  obtain ⟨L, hLL⟩ : ∃ L, a.data.toList = L := ⟨_, rfl⟩
  obtain ⟨h, hh⟩ : ∃ h, s.data.toList = h := ⟨_, rfl⟩
  have es : (⟨h.toArray⟩ : ByteArray) = s := by rw [← hh]
  have hsl : h.length ≤ maxLen := by rw [← hh]; simpa using hs
  have HFA : Hid (∀ (f k : Nat) (W : World), k ≤ a.size → Calls Tryz.prog 35 #[.string s, .string (a.extract f k)] W fun e w' => e = .returned (.bool (hasW h L f k)) ∧ Below W.heap.size W w') := fun f k W _ => by
    have e1 : a.extract f k = ⟨((L.drop f).take (k - f)).toArray⟩ := by rw [← hLL]; exact ext_mid a f k
    rw [e1, ← es]
    exact fits_any3 h _ W hsl
  rw [hLL] at LA ⊢
  rw [hh]
  have HLL : Hid (a.data.toList = L) := hLL
  by_cases hn : L = [110, 111, 110, 101]
  · have hR : Hid (sdB L h = false) := by unfold Hid sdB; rw [if_pos hn]
    have m1 : (a.toList == [110, 111, 110, 101]) = true := by rw [ByteArray.toList_eq, hLL, hn]; rfl
    clear hn hLL hh es hsl HFA
    go_enter Tryz.func14, Tryz.ntmps14
    go_wp2_with fail
    go_ret
    exact ⟨by rw [hR.out]; rfl, Below.refl _ _⟩
  · obtain ⟨S, hS⟩ : ∃ S, sdB L h = S := ⟨_, rfl⟩
    have hS2 : sdM h L [] true true false = S := by rw [← hS]; unfold sdB; rw [if_neg hn]
    have m1 : (a.toList == [110, 111, 110, 101]) = false := by
      rw [ByteArray.toList_eq, beq_eq_false_iff_ne, hLL]
      exact hn
    have HS0 : Hid (SDI h L S 0 0 true true false) := .inl ⟨Nat.zero_le _, Nat.le_refl _, hS2⟩
    rw [hS]
    clear hn hLL hh es hsl hS hS2
    go_enter Tryz.func14, Tryz.ntmps14
    go_wp2_with fail
    clear m1
    go_loopw [5, 6, 7, 8, 9] (fun v5 v6 v7 v8 v9 wr => ∃ (f k : Nat) (inn fst sm : Bool), v5 = .int .i64 f ∧ v6 = .bool inn ∧ v7 = .bool fst ∧ v8 = .bool sm ∧ v9 = .int .i64 k ∧ k ≤ a.size + 1 ∧ f ≤ a.size + 1 ∧ Hid (SDI h L S f k inn fst sm) ∧ Below w.heap.size w wr) (fun _ _ _ _ v9 _ => a.size + 1 - (intOf v9).toNat)
    case atStart => exact ⟨0, 0, true, true, false, rfl, rfl, rfl, rfl, rfl, Nat.zero_le _, Nat.zero_le _, HS0, Below.refl _ _⟩
    case round =>
      clear HS0
      obtain ⟨f, k, inn, fst, sm, rfl, rfl, rfl, rfl, rfl, hk, hf, HI, hB⟩ := hrel
      by_cases hlt : k ≤ a.size
      · have j1 : (k : Int) ≤ (a.size : Int) := by omega
        have j0 : (0 : Int) ≤ (k : Int) := by omega
        have hfk : f ≤ k := by
          rcases HI.out with ⟨_, h2, _⟩ | ⟨h1, _⟩
          · exact h2
          · have := LA.out; omega
        have j2 : (f : Int) ≤ (k : Int) := by omega
        have j3 : (0 : Int) ≤ (f : Int) := by omega
        obtain ⟨q, hq⟩ : ∃ q, hasW h L f k = q := ⟨_, rfl⟩
        have HFT : Hid (∀ W, Calls Tryz.prog 35 #[.string s, .string (a.extract f k)] W fun e w' => e = .returned (.bool q) ∧ Below W.heap.size W w') := fun W => by
          have h1 := HFA.out f k W hlt
          rw [hq] at h1
          exact h1
        by_cases hend : k = a.size
        · have q1 : ((k : Int) == (a.size : Int)) = true := by rw [beq_iff_eq]; omega
          have q2 : ¬ (k : Int) < (a.size : Int) := by omega
          have HX : Hid (SDI h L S (k + 1) (k + 1) true true (sm || (inn && (if fst then q else !q)))) := HI.out.last (by rw [LA.out]; exact hend) hq
          clear HI hend hq
          go_wp2_with fail
          refine (HFT.out _).mono ?_
          rintro e w5 ⟨rfl, hb5⟩
          have hB5 := bel0 hB hb5
          clear hb5 hB HFT
          cases fst <;> cases q <;> cases sm
          all_goals
            go_wp2_with fail
            go_roundw
            case rel => exact ⟨k + 1, k + 1, _, _, _, by go_num, rfl, rfl, rfl, by go_num, by omega, by omega, by first | simpa using HX.out | (have hh := HX.out; simp at hh; exact hh), hB5⟩
            case measure => simp [intOf]; omega
        · have q1 : ((k : Int) == (a.size : Int)) = false := by rw [beq_eq_false_iff_ne]; omega
          have hka : k < a.size := by omega
          have i1 : (k : Int) < (a.size : Int) := by omega
          have hx : Hid (L[k]? = some a[k]) := by
            unfold Hid
            rw [← HLL.out, List.getElem?_eq_getElem (by simp; exact hka)]
            simp [ByteArray.getElem_eq_getElem_data]
          by_cases h43 : a[k] = 43
          · have n1 : ((a[k].toNat : Int) != 43) = false := by rw [h43]; decide
            have n2 : ((a[k].toNat : Int) == 43) = true := by rw [h43]; decide
            have HX : Hid (SDI h L S (k + 1) (k + 1) true true (sm || (inn && (if fst then q else !q)))) := HI.out.plus (by rw [hx.out, h43]) hq
            clear HI hend hx h43 hq
            go_wp2_with fail
            refine (HFT.out _).mono ?_
            rintro e w5 ⟨rfl, hb5⟩
            have hB5 := bel0 hB hb5
            clear hb5 hB HFT
            cases fst <;> cases q <;> cases sm
            all_goals
              go_wp2_with fail
              go_roundw
              case rel => exact ⟨k + 1, k + 1, _, _, _, by go_num, rfl, rfl, rfl, by go_num, by omega, by omega, by first | simpa using HX.out | (have hh := HX.out; simp at hh; exact hh), hB5⟩
              case measure => simp [intOf]; omega
          · have n1 : ((a[k].toNat : Int) != 43) = true := by rw [show ((a[k].toNat : Int) != 43) = !(a[k] == 43) from byte_bne a[k] 43 (by decide)]; simp [h43]
            have n2 : ((a[k].toNat : Int) == 43) = false := by
              have e := n1
              unfold bne at e
              simpa using e
            by_cases h45 : a[k] = 45
            · have n3 : ((a[k].toNat : Int) != 45) = false := by rw [h45]; decide
              have HX : Hid (SDI h L S (k + 1) (k + 1) (inn && (if fst then q else !q)) false sm) := HI.out.minus (by rw [hx.out, h45]) hq
              clear HI hend hx h43 h45 hq
              go_wp2_with fail
              refine (HFT.out _).mono ?_
              rintro e w5 ⟨rfl, hb5⟩
              have hB5 := bel0 hB hb5
              clear hb5 hB HFT
              cases fst <;> cases q <;> cases sm
              all_goals
                go_wp2_with fail
                go_roundw
                case rel => exact ⟨k + 1, k + 1, _, _, _, by go_num, rfl, rfl, rfl, by go_num, by omega, by omega, by first | simpa using HX.out | (have hh := HX.out; simp at hh; exact hh), hB5⟩
                case measure => simp [intOf]; omega
            · have n3 : ((a[k].toNat : Int) != 45) = true := by rw [show ((a[k].toNat : Int) != 45) = !(a[k] == 45) from byte_bne a[k] 45 (by decide)]; simp [h45]
              have HX : Hid (SDI h L S f (k + 1) inn fst sm) := HI.out.skip hx.out h43 h45
              clear HI hend hx h43 h45 hq HFT
              go_wp2_with fail
              go_roundw
              case rel => exact ⟨f, k + 1, inn, fst, sm, by go_num, rfl, rfl, rfl, by go_num, by omega, by omega, HX, hB⟩
              case measure => simp [intOf]; omega
      · have j1 : ¬ (k : Int) ≤ (a.size : Int) := by omega
        have HD : Hid (sm = S) := by
          rcases HI.out with ⟨h1, _⟩ | ⟨_, h2⟩
          · have := LA.out; omega
          · exact h2
        clear HI
        go_wp2_with fail
        go_ret
        exact ⟨by rw [← HD.out]; rfl, hB⟩
theorem said_any (l h : List UInt8) (w : World) (hL : l.length ≤ 281474976710656) (hs : h.length ≤ maxLen) :
    Calls Tryz.prog 14 #[.string ⟨l.toArray⟩, .string ⟨h.toArray⟩] w fun e w' => e = .returned (.bool (sdB l h)) ∧ Below w.heap.size w w' := said_raw ⟨l.toArray⟩ ⟨h.toArray⟩ w (by simpa [ByteArray.size] using hL) (by simpa [ByteArray.size] using hs)
/-- a row of texts lies there -/
def RST (W : World) (q : Option Addr) (n : Nat) : Prop := ∀ X, Below W.heap.size W X → ∀ i, i < n → ∃ (ad : Addr) (x : List UInt8), q = some ad ∧ X.cell? (ad.add i) = some (.string ⟨x.toArray⟩) ∧ x.length ≤ maxLen
theorem RST.later {W X : World} {q : Option Addr} {n : Nat} (h : RST W q n) (hb : Below W.heap.size W X) : RST X q n := fun Y hY i hi => h Y (bel0 hb hY) i hi
theorem RST.less {W : World} {q : Option Addr} {n m : Nat} (h : RST W q n) (hm : m ≤ n) : RST W q m := fun Y hY i hi => h Y hY i (by omega)
end Go.Proofs.YtekjbpemaohipaaGreatDoor
namespace Go.Proofs.YtekjbpemaohipaaGreatDoor
open Go.RowKit Go.Shelf
/-- what headers answers -/
def HDQ (w : World) (e : Ending) (w' : World) : Prop := ∃ q' n' c', e = .returned (.slice q' n' c') ∧ n' ≤ 256 ∧ RST w' q' n' ∧ Below w.heap.size w w'
theorem bys_zero (n : Nat) : bys (List.replicate n 0) = List.replicate n (Value.int .u8 0) := by simp [bys]
theorem hdr_low (b : Int) (q : Option Addr) (len cap : Nat) (w : World) (hb : b < 1 ∨ 8 < b) (hcap : len ≤ cap) (hr : RST w q len) : Calls Tryz.prog 10 #[.int .i64 b, .slice q len cap] w fun e w' => HDQ w e w' := by
  have HR : Hid (RST w q len) := hr
  clear hr
  by_cases hl : 64 < len
  · obtain ⟨ad, x, rfl, -, -⟩ := HR.out w (Below.refl _ _) 0 (by omega)
    have m1 : (64 : Int) < (len : Int) := by omega
    have m2 : (64 : Int) ≤ (cap : Int) := by omega
    have m3 : 64 ≤ cap := by omega
    by_cases h1 : b < 1
    · clear hb
      go_enter Tryz.func10, Tryz.ntmps10
      go_wp2_with fail
      go_ret
      exact ⟨_, _, _, rfl, by omega, HR.out.less (by omega), Below.refl _ _⟩
    · have h2 : 8 < b := hb.resolve_left h1
      clear hb
      go_enter Tryz.func10, Tryz.ntmps10
      go_wp2_with fail
      go_ret
      exact ⟨_, _, _, rfl, by omega, HR.out.less (by omega), Below.refl _ _⟩
  · have m1 : ¬ (64 : Int) < (len : Int) := by omega
    by_cases h1 : b < 1
    · clear hb
      go_enter Tryz.func10, Tryz.ntmps10
      go_wp2_with fail
      go_ret
      exact ⟨_, _, _, rfl, by omega, HR.out, Below.refl _ _⟩
    · have h2 : 8 < b := hb.resolve_left h1
      clear hb
      go_enter Tryz.func10, Tryz.ntmps10
      go_wp2_with fail
      go_ret
      exact ⟨_, _, _, rfl, by omega, HR.out, Below.refl _ _⟩
theorem rst_own {W : World} {B n c : Nat} {p : Option Addr} {D : List (List UInt8)} (h : W.ownsRow B 9 1 (.slice p n c) n (stx D)) (hD : D.length = n) (hl : ∀ x ∈ D, x.length ≤ maxLen) : RST W p n := fun X hX i hi => by
  have hx : D[i]? = some (D[i]'(by omega)) := List.getElem?_eq_getElem (by omega)
  obtain ⟨g, o0, rfl, hc⟩ := IRSt_own h hD X hX i _ hx
  exact ⟨⟨g, o0, none⟩, _, rfl, by rw [add_plain]; exact hc, hl _ (List.getElem_mem _)⟩
end Go.Proofs.YtekjbpemaohipaaGreatDoor
