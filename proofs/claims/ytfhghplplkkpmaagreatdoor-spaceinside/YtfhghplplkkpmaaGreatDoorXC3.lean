import Derived.Test.YtfhghplplkkpmaaGreatDoorXAT
import Derived.Test.YtfhghplplkkpmaaGreatDoorXAU
import Derived.Test.YtfhghplplkkpmaaGreatDoorXC2
import Derived.Test.YtfhghplplkkpmaaGreatDoorXAV
import Derived.Test.YtfhghplplkkpmaaGreatDoorXAO
namespace Go.Proofs.YtfhghplplkkpmaaGreatDoor
open Go.RowKit Go.Shelf
/-- example 1 -/
def awT : List UInt8 := [49, 48, 120, 120, 45, 49, 49, 49, 49, 45, 49, 48, 49, 120, 45, 49, 48, 49, 48, 43, 48, 120, 120, 120, 45, 49, 120, 120, 120]
theorem aw1 : stl [([49, 48, 120, 120], [[49, 49, 49, 49], [49, 48, 49, 120], [49, 48, 49, 48]]), ([48, 120, 120, 120], [[49, 120, 120, 120]])] = [([49, 48, 120, 120], [[49, 48, 49, 120]]), ([48, 120, 120, 120], [])] := by decide +kernel
theorem aw2 : topC [([49, 48, 120, 120], [[49, 48, 49, 120]]), ([48, 120, 120, 120], [])] = [([49, 48, 120, 120], [[49, 48, 49, 120]]), ([48, 120, 120, 120], [])] := by decide +kernel
theorem aw3 : ordT [([49, 48, 120, 120], [[49, 48, 49, 120]]), ([48, 120, 120, 120], [])] = [([48, 120, 120, 120], []), ([49, 48, 120, 120], [[49, 48, 49, 120]])] := by
  have h : ¬ leLn [[49, 48, 120, 120], [49, 48, 49, 120]] [[48, 120, 120, 120]] = true := by decide +kernel
  unfold ordT srtLn
  simp [srtT, List.mergeSort, h]
set_option maxRecDepth 100000 in
theorem aw5 : prE 4 awT = 0 := by decide +kernel
set_option maxRecDepth 100000 in
theorem aw6 : (prts 43 awT).map tcon = [([49, 48, 120, 120], [[49, 49, 49, 49], [49, 48, 49, 120], [49, 48, 49, 48]]), ([48, 120, 120, 120], [[49, 120, 120, 120]])] := by decide +kernel
theorem aw7 : prT 4 awT = [([48, 120, 120, 120], []), ([49, 48, 120, 120], [[49, 48, 49, 120]])] := by
  unfold prT
  rw [if_pos aw5, if_neg (by decide), aw6, aw1, aw2, aw3]
theorem aw_ok : prE 4 awT = 0 ∧ txC (prT 4 awT) = [48, 120, 120, 120, 43, 49, 48, 120, 120, 45, 49, 48, 49, 120] ∧ szC (prT 4 awT) = 3 := by
  rw [aw7]
  exact ⟨aw5, by decide +kernel, by decide +kernel⟩
set_option maxRecDepth 100000 in
set_option maxHeartbeats 4000000 in
theorem awake_any (w : World) : Calls Tryz.prog 4 #[] w fun e w' => e = .returned (.bool true) ∧ Below w.heap.size w w' := by
  obtain ⟨a1, a2, a3⟩ := aw_ok
  have ok := prT_ok 4 awT
  have hB : prB 4 awT = 4 := by unfold prB; rw [if_pos a1]
  obtain ⟨X, hX⟩ : ∃ X, prT 4 awT = X := ⟨_, rfl⟩
  have HP : Hid (Calls Tryz.prog 5 #[.int .i64 4, .string ⟨#[49, 48, 120, 120, 45, 49, 49, 49, 49, 45, 49, 48, 49, 120, 45, 49, 48, 49, 48, 43, 48, 120, 120, 120, 45, 49, 120, 120, 120]⟩] w fun e w' => ∃ V, e = .returned (.tuple #[.agg #[.int .i64 4, V, .bool false], .int .i64 0]) ∧ SPL w' w.heap.size V X ∧ Below w.heap.size w w') := by
    have h := sParse_any 4 awT w (by unfold maxLen awT; decide)
    unfold PRS at h
    rw [hB, a1, hX] at h
    exact h
  rw [hX] at a2 a3 ok
  have HT : Hid (∀ (W : World) (V : Value) (B : Nat), SPL W B V X → Calls Tryz.prog 13 #[.agg #[.int .i64 4, V, .bool false]] W fun e w' => e = .returned (.string ⟨#[48, 120, 120, 120, 43, 49, 48, 120, 120, 45, 49, 48, 49, 120]⟩) ∧ Below W.heap.size W w') := fun W V B h => by
    have h1 := spText_any 4 V X B W h ok.2 ok.1
    rw [a2] at h1
    exact h1
  have HS : Hid (∀ (W : World) (V : Value) (B : Nat), SPL W B V X → Calls Tryz.prog 14 #[.agg #[.int .i64 4, V, .bool false]] W fun e w' => e = .returned (.int .i64 3) ∧ Below W.heap.size W w') := fun W V B h => by
    have h1 := spSize_any 4 V X B W h ok.2
    rw [a3] at h1
    exact h1
  clear a1 a2 a3 ok hB hX
  obtain ⟨n, hn⟩ : ∃ n, X.length = n := ⟨_, rfl⟩
  go_enter Tryz.func4, Tryz.ntmps4
  go_wp2_with fail
  refine HP.out.mono ?_
  rintro e w1 ⟨V, rfl, sv, hb1⟩
  obtain ⟨p, c, rfl⟩ := sv.shape
  rw [hn] at sv ⊢
  have HF : Hid (∀ W, Below (w1.alloc (.cells #[.int .i64 4, .slice p n c, .bool false] 26 (0, 0))).heap.size (w1.alloc (.cells #[.int .i64 4, .slice p n c, .bool false] 26 (0, 0))) W → (∀ j, W.cell? ⟨w1.heap.size, j, none⟩ = (#[.int .i64 4, .slice p n c, .bool false] : Array Value)[j]?) ∧ SPL W w.heap.size (.slice p n c) X ∧ Below w.heap.size w W) := fun W hW => by
    have h1 : Below w1.heap.size w1 W := bel0 (belA (Below.refl _ _) _) hW
    exact ⟨(cells_block (keepblk3 hW (alloc_get _ _))).1, sv.below h1, bel0 hb1 h1⟩
  obtain ⟨f1, g1, -⟩ := HF.out _ (Below.refl _ _)
  clear sv hb1 HP
  go_wp2_with fail
  refine (HT.out _ _ _ g1).mono ?_
  rintro e w2 ⟨rfl, hb2⟩
  obtain ⟨f2, g2, -⟩ := HF.out w2 hb2
  clear f1 g1
  go_wp2_with fail
  refine (HS.out _ _ _ g2).mono ?_
  rintro e w3 ⟨rfl, hb3⟩
  have hb3' := bel0 hb2 hb3
  obtain ⟨f3, g3, -⟩ := HF.out w3 hb3'
  clear f2 g2 hb2 hb3
  go_wp2_with fail
  refine (bits_any 4 p n c _).mono ?_
  rintro e w4 ⟨rfl, hb4⟩
  clear f3 g3
  go_wp2_with fail
  go_ret
  exact ⟨rfl, (HF.out w4 (bel0 hb3' hb4)).2.2⟩
end Go.Proofs.YtfhghplplkkpmaaGreatDoor
namespace Go.Proofs.YtfhghplplkkpmaaGreatDoor
open Go.RowKit Go.Shelf
/-- a header of that width, as the law looks at it -/
def ihB (b : Int) (l : List UInt8) : Bool := ((l.length : Int) == b) && l.all digB
set_option maxHeartbeats 2000000 in
theorem isHeader_any (b : Int) (s : ByteArray) (w : World) (hs : s.size ≤ maxLen) :
    Calls Tryz.prog 8 #[.int .i64 b, .string s] w fun e w' => e = .returned (.bool (ihB b s.data.toList)) ∧ Below w.heap.size w w' := by
  unfold maxLen at hs
  have hlen : Hid (s.data.toList.length = s.size) := by simp [Hid]
  by_cases h1 : (s.size : Int) = b
  · have hQ : Hid (∀ q, s.data.toList.all digB = q → ihB b s.data.toList = q) := fun q hq => by
      unfold ihB
      rw [hlen.out, hq, show ((s.size : Int) == b) = true by simpa using h1, Bool.true_and]
    have m1 : ((s.size : Int) != b) = false := by simpa using h1
    clear h1
    go_enter Tryz.func8, Tryz.ntmps8
    go_wp2
    clear m1
    go_loopw [5] (fun i wr => ∃ k : Nat, k ≤ s.size ∧ i = .int .i64 k ∧ (∀ j (h : j < s.data.toList.length), j < k → digB s.data.toList[j] = true) ∧ Below w.heap.size w wr) (fun i _ => s.size - (intOf i).toNat)
    case atStart => exact ⟨0, Nat.zero_le _, rfl, fun j _ h => by omega, Below.refl _ _⟩
    case round =>
      obtain ⟨k, hk, rfl, htri, hB⟩ := hrel
      by_cases hlt : k < s.size
      · have i1 : (k : Int) < (s.size : Int) := by omega
        have i0 : (0 : Int) ≤ (k : Int) := by omega
        by_cases c3 : s[k] = 48 ∨ s[k] = 49
        · have R := dig_succ hlt htri c3
          clear htri
          rcases c3 with c | c
          · have m1 : ((s[k].toNat : Int) != 48) = false := by rw [c]; decide
            clear c
            go_wp2
            go_roundw
            case rel => exact ⟨k + 1, by omega, by go_num, R, hB⟩
            case measure => simp [intOf]; omega
          · have m1 : ((s[k].toNat : Int) != 48) = true := by rw [c]; decide
            have m2 : ((s[k].toNat : Int) != 49) = false := by rw [c]; decide
            clear c
            go_wp2
            go_roundw
            case rel => exact ⟨k + 1, by omega, by go_num, R, hB⟩
            case measure => simp [intOf]; omega
        · have c48 : ¬ s[k] = 48 := fun e => c3 (.inl e)
          have c49 : ¬ s[k] = 49 := fun e => c3 (.inr e)
          have R : Hid (ihB b s.data.toList = false) := hQ.out _ (by
            rw [List.all_eq_false]
            refine ⟨s[k], List.getElem_mem (l := s.data.toList) (by have := hlen.out; omega), ?_⟩
            unfold digB
            simp [c48, c49])
          have m1 : ((s[k].toNat : Int) != 48) = true := by rw [show ((s[k].toNat : Int) != 48) = !(s[k] == 48) from byte_bne s[k] 48 (by decide)]; simp [c48]
          have m2 : ((s[k].toNat : Int) != 49) = true := by rw [show ((s[k].toNat : Int) != 49) = !(s[k] == 49) from byte_bne s[k] 49 (by decide)]; simp [c49]
          clear htri c48 c49 c3
          go_wp2
          go_ret
          exact ⟨by rw [R.out]; rfl, hB⟩
      · have R : Hid (ihB b s.data.toList = true) := hQ.out _ (by
          rw [List.all_eq_true]
          intro t ht
          obtain ⟨j, hj, rfl⟩ := List.getElem_of_mem ht
          exact htri j hj (by have := hlen.out; omega))
        clear htri
        go_wp2
        go_ret
        exact ⟨by rw [R.out]; rfl, hB⟩
  · have hR : Hid (ihB b s.data.toList = false) := by
      unfold Hid ihB
      rw [hlen.out, show ((s.size : Int) == b) = false by simpa using h1]
      simp
    have m1 : ((s.size : Int) != b) = true := by simpa using h1
    clear h1
    go_enter Tryz.func8, Tryz.ntmps8
    go_wp2
    go_ret
    exact ⟨by rw [hR.out]; rfl, Below.refl _ _⟩
set_option maxHeartbeats 2000000 in
theorem fits_loop (a b : ByteArray) (w : World) (hs : a.size ≤ maxLen) (hz0 : a.size = b.size) :
    Calls Tryz.prog 24 #[.string a, .string b] w fun e w' => e = .returned (.bool (allTo (fun k => match a.data.toList[k]?, b.data.toList[k]? with | some x, some y => y == 120 || x == y | _, _ => true) a.data.toList.length)) ∧ Below w.heap.size w w' := by
  have z1 : ((a.size : Int) != (b.size : Int)) = false := by rw [hz0]; simp
  have hz : Hid (a.size = b.size) := hz0
  unfold maxLen at hs
  have LA : Hid (a.data.toList.length = a.size) := by simp [Hid]
  have hs2 : b.size ≤ 9223372036854775807 := by omega
  clear hz0
  obtain ⟨f, hf1⟩ : ∃ f : Nat → Bool, (fun k => match a.data.toList[k]?, b.data.toList[k]? with | some x, some y => y == 120 || x == y | _, _ => true) = f := ⟨_, rfl⟩
  rw [hf1]
  have HF : Hid ((fun k => match a.data.toList[k]?, b.data.toList[k]? with | some x, some y => y == 120 || x == y | _, _ => true) = f) := hf1
  clear hf1
  go_enter Tryz.func24, Tryz.ntmps24
  go_wp2_with fail
  clear z1
  go_loopw [5] (fun i wr => ∃ k : Nat, k ≤ a.size ∧ i = .int .i64 k ∧ Hid (∀ j, j < k → f j = true) ∧ Below w.heap.size w wr) (fun i _ => a.size - (intOf i).toNat)
  case atStart => exact ⟨0, Nat.zero_le _, rfl, fun j h => by omega, Below.refl _ _⟩
  case round =>
    obtain ⟨k, hk, rfl, hok, hB⟩ := hrel
    by_cases hlt : k < a.size
    · skip
      have hkb : k < b.size := by rw [← hz.out]; exact hlt
      have i0' : (0 : Int) ≤ (k : Int) := by omega
      have i1 : (k : Int) < (a.size : Int) := by omega
      have i2 : (k : Int) < (b.size : Int) := by omega
      obtain ⟨p2, n2⟩ : ∃ p, ((b[k].toNat : Int) != 120) = p := ⟨_, rfl⟩
      obtain ⟨p3, n3⟩ : ∃ p, ((b[k].toNat : Int) != (a[k].toNat : Int)) = p := ⟨_, rfl⟩
      have hH : Hid (f k = !(p2 && p3)) := by unfold Hid; rw [← HF.out]; exact inK_str a b k hlt hkb p2 p3 n2 n3
      have hlt' : Hid (k < a.data.toList.length) := by unfold Hid; rw [LA.out]; exact hlt
      cases p2 <;> cases p3
      all_goals
        go_wp2
        go_quiet (fail)
        go_wp2
        first
          | (have hF : f k = false := hH.out
             have hF2 := allTo_false k hlt'.out hF
             go_ret
             refine ⟨?_, hB.trans (below_drewN _ _ _)⟩
             rw [hF2]
             rfl)
          | (have hF : f k = true := hH.out
             have hF2 := ok_succ hok.out hF
             go_roundw
             case rel => exact ⟨k + 1, by omega, by go_num, hF2, hB.trans (below_drewN _ _ _)⟩
             case measure => simp [intOf]; omega)
    · have i2 : ¬ (k : Int) < (b.size : Int) := by have := hz.out; omega
      have hA : Hid (allTo f a.data.toList.length = true) := (allTo_iff _ _).2 (fun j hj => hok.out j (by rw [LA.out] at hj; omega))
      clear hok
      go_wp2
      go_ret
      exact ⟨by first | (rw [hA.out]; rfl) | (have h := hA.out; rw [LA.out] at h; rw [h]; rfl), hB⟩
theorem fits_any3 (h c : List UInt8) (w : World) (hs : h.length ≤ maxLen) :
    Calls Tryz.prog 24 #[.string ⟨h.toArray⟩, .string ⟨c.toArray⟩] w fun e w' => e = .returned (.bool (ftB h c)) ∧ Below w.heap.size w w' := by
  have l1 : (⟨h.toArray⟩ : ByteArray).size = h.length := by simp [ByteArray.size]
  have l2 : (⟨c.toArray⟩ : ByteArray).size = c.length := by simp [ByteArray.size]
  by_cases e : h.length = c.length
  · have h1 := fits_loop ⟨h.toArray⟩ ⟨c.toArray⟩ w (by rw [l1]; exact hs) (by rw [l1, l2]; exact e)
    refine h1.mono ?_
    rintro e' w' ⟨rfl, hb⟩
    refine ⟨?_, hb⟩
    unfold ftB
    rw [show (h.length == c.length) = true by simpa using e, Bool.true_and]
    rfl
  · have hR : Hid (ftB h c = false) := by
      unfold Hid ftB
      rw [show (h.length == c.length) = false by simpa using e]
      rfl
    have m1 : ((h.length : Int) != (c.length : Int)) = true := by
      rw [bne_iff_ne]
      omega
    clear l1 l2 e
    go_enter Tryz.func24, Tryz.ntmps24
    go_wp2
    go_ret
    exact ⟨by rw [hR.out]; rfl, Below.refl _ _⟩
theorem drop_at2 {L : List UInt8} {k : Nat} {x : UInt8} (h : L[k]? = some x) : L.drop k = x :: L.drop (k + 1) := by
  obtain ⟨hk, he⟩ := List.getElem?_eq_some_iff.1 h
  rw [List.drop_eq_getElem_cons hk, he]
theorem cur_step {L : List UInt8} {f k : Nat} {x : UInt8} (h : L[k]? = some x) (hf : f ≤ k) : (L.drop f).take (k + 1 - f) = (L.drop f).take (k - f) ++ [x] := by
  rw [show k + 1 - f = k - f + 1 by omega, List.take_add_one, List.getElem?_drop, show f + (k - f) = k by omega, h]
  rfl
def hasW (h : List UInt8) (L : List UInt8) (f k : Nat) : Bool := ftB h ((L.drop f).take (k - f))
def SDI (h L : List UInt8) (S : Bool) (f k : Nat) (inn fst sm : Bool) : Prop := (k ≤ L.length ∧ f ≤ k ∧ sdM h (L.drop k) ((L.drop f).take (k - f)) inn fst sm = S) ∨ (k = L.length + 1 ∧ sm = S)
theorem SDI.skip {h L : List UInt8} {S : Bool} {f k : Nat} {inn fst sm : Bool} {x : UInt8} (hi : SDI h L S f k inn fst sm) (hx : L[k]? = some x) (h1 : x ≠ 43) (h2 : x ≠ 45) : SDI h L S f (k + 1) inn fst sm := by
  have hk := (List.getElem?_eq_some_iff.1 hx).1
  rcases hi with ⟨_, hf, e⟩ | ⟨e, _⟩
  · refine .inl ⟨hk, by omega, ?_⟩
    rw [drop_at2 hx] at e
    unfold sdM at e
    rw [if_neg h1, if_neg h2] at e
    rw [cur_step hx hf]
    exact e
  · omega
theorem SDI.plus {h L : List UInt8} {S : Bool} {f k : Nat} {inn fst sm : Bool} {q : Bool} (hi : SDI h L S f k inn fst sm) (hx : L[k]? = some 43) (hq : hasW h L f k = q) : SDI h L S (k + 1) (k + 1) true true (sm || (inn && (if fst then q else !q))) := by
  have hk := (List.getElem?_eq_some_iff.1 hx).1
  rcases hi with ⟨_, hf, e⟩ | ⟨e, _⟩
  · refine .inl ⟨hk, Nat.le_refl _, ?_⟩
    rw [drop_at2 hx] at e
    unfold sdM at e
    rw [if_pos rfl] at e
    unfold hasW at hq
    rw [hq] at e
    rw [Nat.sub_self, List.take_zero]
    exact e
  · omega
theorem SDI.minus {h L : List UInt8} {S : Bool} {f k : Nat} {inn fst sm : Bool} {q : Bool} (hi : SDI h L S f k inn fst sm) (hx : L[k]? = some 45) (hq : hasW h L f k = q) : SDI h L S (k + 1) (k + 1) (inn && (if fst then q else !q)) false sm := by
  have hk := (List.getElem?_eq_some_iff.1 hx).1
  rcases hi with ⟨_, hf, e⟩ | ⟨e, _⟩
  · refine .inl ⟨hk, Nat.le_refl _, ?_⟩
    rw [drop_at2 hx] at e
    unfold sdM at e
    rw [if_neg (by decide), if_pos rfl] at e
    unfold hasW at hq
    rw [hq] at e
    rw [Nat.sub_self, List.take_zero]
    exact e
  · omega
theorem SDI.last {h L : List UInt8} {S : Bool} {f k : Nat} {inn fst sm : Bool} {q : Bool} (hi : SDI h L S f k inn fst sm) (hk : k = L.length) (hq : hasW h L f k = q) : SDI h L S (k + 1) (k + 1) true true (sm || (inn && (if fst then q else !q))) := by
  rcases hi with ⟨_, hf, e⟩ | ⟨e, _⟩
  · refine .inr ⟨by omega, ?_⟩
    rw [List.drop_of_length_le (by omega)] at e
    unfold sdM at e
    unfold hasW at hq
    rw [hq] at e
    exact e
  · omega
set_option maxRecDepth 100000 in
set_option maxHeartbeats 8000000 in
theorem said_raw (a s : ByteArray) (w : World) (hL : a.size ≤ 281474976710656) (hs : s.size ≤ maxLen) :
    Calls Tryz.prog 9 #[.string a, .string s] w fun e w' => e = .returned (.bool (sdB a.data.toList s.data.toList)) ∧ Below w.heap.size w w' := by
  have LA : Hid (a.data.toList.length = a.size) := by simp [Hid]
  obtain ⟨L, hLL⟩ : ∃ L, a.data.toList = L := ⟨_, rfl⟩
  obtain ⟨h, hh⟩ : ∃ h, s.data.toList = h := ⟨_, rfl⟩
  have es : (⟨h.toArray⟩ : ByteArray) = s := by rw [← hh]
  have hsl : h.length ≤ maxLen := by rw [← hh]; simpa using hs
  have HFA : Hid (∀ (f k : Nat) (W : World), k ≤ a.size → Calls Tryz.prog 24 #[.string s, .string (a.extract f k)] W fun e w' => e = .returned (.bool (hasW h L f k)) ∧ Below W.heap.size W w') := fun f k W _ => by
    have e1 : a.extract f k = ⟨((L.drop f).take (k - f)).toArray⟩ := by rw [← hLL]; exact ext_mid a f k
    rw [e1, ← es]
    exact fits_any3 h _ W hsl
  rw [hLL] at LA ⊢
  rw [hh]
  have HLL : Hid (a.data.toList = L) := hLL
  by_cases hn : L = [110, 111, 110, 101]
  · have hR : Hid (sdB L h = false) := by unfold Hid sdB; rw [if_pos hn]
    have m1 : (a.toList == [110, 111, 110, 101]) = true := by rw [ByteArray.toList_eq, hLL, hn]; rfl
    clear hn hLL hh es hsl HFA
    go_enter Tryz.func9, Tryz.ntmps9
    go_wp2_with fail
    go_ret
    exact ⟨by rw [hR.out]; rfl, Below.refl _ _⟩
  · obtain ⟨S, hS⟩ : ∃ S, sdB L h = S := ⟨_, rfl⟩
    have hS2 : sdM h L [] true true false = S := by rw [← hS]; unfold sdB; rw [if_neg hn]
    have m1 : (a.toList == [110, 111, 110, 101]) = false := by
      rw [ByteArray.toList_eq, beq_eq_false_iff_ne, hLL]
      exact hn
    have HS0 : Hid (SDI h L S 0 0 true true false) := .inl ⟨Nat.zero_le _, Nat.le_refl _, hS2⟩
    rw [hS]
    clear hn hLL hh es hsl hS hS2
    go_enter Tryz.func9, Tryz.ntmps9
    go_wp2_with fail
    clear m1
    go_loopw [5, 6, 7, 8, 9] (fun v5 v6 v7 v8 v9 wr => ∃ (f k : Nat) (inn fst sm : Bool), v5 = .int .i64 f ∧ v6 = .bool inn ∧ v7 = .bool fst ∧ v8 = .bool sm ∧ v9 = .int .i64 k ∧ k ≤ a.size + 1 ∧ f ≤ a.size + 1 ∧ Hid (SDI h L S f k inn fst sm) ∧ Below w.heap.size w wr) (fun _ _ _ _ v9 _ => a.size + 1 - (intOf v9).toNat)
    case atStart => exact ⟨0, 0, true, true, false, rfl, rfl, rfl, rfl, rfl, Nat.zero_le _, Nat.zero_le _, HS0, Below.refl _ _⟩
    case round =>
      clear HS0
      obtain ⟨f, k, inn, fst, sm, rfl, rfl, rfl, rfl, rfl, hk, hf, HI, hB⟩ := hrel
      by_cases hlt : k ≤ a.size
      · have j1 : (k : Int) ≤ (a.size : Int) := by omega
        have j0 : (0 : Int) ≤ (k : Int) := by omega
        have hfk : f ≤ k := by
          rcases HI.out with ⟨_, h2, _⟩ | ⟨h1, _⟩
          · exact h2
          · have := LA.out; omega
        have j2 : (f : Int) ≤ (k : Int) := by omega
        have j3 : (0 : Int) ≤ (f : Int) := by omega
        obtain ⟨q, hq⟩ : ∃ q, hasW h L f k = q := ⟨_, rfl⟩
        have HFT : Hid (∀ W, Calls Tryz.prog 24 #[.string s, .string (a.extract f k)] W fun e w' => e = .returned (.bool q) ∧ Below W.heap.size W w') := fun W => by
          have h1 := HFA.out f k W hlt
          rw [hq] at h1
          exact h1
        by_cases hend : k = a.size
        · have q1 : ((k : Int) == (a.size : Int)) = true := by rw [beq_iff_eq]; omega
          have q2 : ¬ (k : Int) < (a.size : Int) := by omega
          have HX : Hid (SDI h L S (k + 1) (k + 1) true true (sm || (inn && (if fst then q else !q)))) := HI.out.last (by rw [LA.out]; exact hend) hq
          clear HI hend hq
          go_wp2_with fail
          refine (HFT.out _).mono ?_
          rintro e w5 ⟨rfl, hb5⟩
          have hB5 := bel0 hB hb5
          clear hb5 hB HFT
          cases fst <;> cases q <;> cases sm
          all_goals
            go_wp2_with fail
            go_roundw
            case rel => exact ⟨k + 1, k + 1, _, _, _, by go_num, rfl, rfl, rfl, by go_num, by omega, by omega, by first | simpa using HX.out | (have hh := HX.out; simp at hh; exact hh), hB5⟩
            case measure => simp [intOf]; omega
        · have q1 : ((k : Int) == (a.size : Int)) = false := by rw [beq_eq_false_iff_ne]; omega
          have hka : k < a.size := by omega
          have i1 : (k : Int) < (a.size : Int) := by omega
          have hx : Hid (L[k]? = some a[k]) := by
            unfold Hid
            rw [← HLL.out, List.getElem?_eq_getElem (by simp; exact hka)]
            simp [ByteArray.getElem_eq_getElem_data]
          by_cases h43 : a[k] = 43
          · have n1 : ((a[k].toNat : Int) != 43) = false := by rw [h43]; decide
            have n2 : ((a[k].toNat : Int) == 43) = true := by rw [h43]; decide
            have HX : Hid (SDI h L S (k + 1) (k + 1) true true (sm || (inn && (if fst then q else !q)))) := HI.out.plus (by rw [hx.out, h43]) hq
            clear HI hend hx h43 hq
            go_wp2_with fail
            refine (HFT.out _).mono ?_
            rintro e w5 ⟨rfl, hb5⟩
            have hB5 := bel0 hB hb5
            clear hb5 hB HFT
            cases fst <;> cases q <;> cases sm
            all_goals
              go_wp2_with fail
              go_roundw
              case rel => exact ⟨k + 1, k + 1, _, _, _, by go_num, rfl, rfl, rfl, by go_num, by omega, by omega, by first | simpa using HX.out | (have hh := HX.out; simp at hh; exact hh), hB5⟩
              case measure => simp [intOf]; omega
          · have n1 : ((a[k].toNat : Int) != 43) = true := by rw [show ((a[k].toNat : Int) != 43) = !(a[k] == 43) from byte_bne a[k] 43 (by decide)]; simp [h43]
            have n2 : ((a[k].toNat : Int) == 43) = false := by
              have e := n1
              unfold bne at e
              simpa using e
            by_cases h45 : a[k] = 45
            · have n3 : ((a[k].toNat : Int) != 45) = false := by rw [h45]; decide
              have HX : Hid (SDI h L S (k + 1) (k + 1) (inn && (if fst then q else !q)) false sm) := HI.out.minus (by rw [hx.out, h45]) hq
              clear HI hend hx h43 h45 hq
              go_wp2_with fail
              refine (HFT.out _).mono ?_
              rintro e w5 ⟨rfl, hb5⟩
              have hB5 := bel0 hB hb5
              clear hb5 hB HFT
              cases fst <;> cases q <;> cases sm
              all_goals
                go_wp2_with fail
                go_roundw
                case rel => exact ⟨k + 1, k + 1, _, _, _, by go_num, rfl, rfl, rfl, by go_num, by omega, by omega, by first | simpa using HX.out | (have hh := HX.out; simp at hh; exact hh), hB5⟩
                case measure => simp [intOf]; omega
            · have n3 : ((a[k].toNat : Int) != 45) = true := by rw [show ((a[k].toNat : Int) != 45) = !(a[k] == 45) from byte_bne a[k] 45 (by decide)]; simp [h45]
              have HX : Hid (SDI h L S f (k + 1) inn fst sm) := HI.out.skip hx.out h43 h45
              clear HI hend hx h43 h45 hq HFT
              go_wp2_with fail
              go_roundw
              case rel => exact ⟨f, k + 1, inn, fst, sm, by go_num, rfl, rfl, rfl, by go_num, by omega, by omega, HX, hB⟩
              case measure => simp [intOf]; omega
      · have j1 : ¬ (k : Int) ≤ (a.size : Int) := by omega
        have HD : Hid (sm = S) := by
          rcases HI.out with ⟨h1, _⟩ | ⟨_, h2⟩
          · have := LA.out; omega
          · exact h2
        clear HI
        go_wp2_with fail
        go_ret
        exact ⟨by rw [← HD.out]; rfl, hB⟩
theorem said_any (l h : List UInt8) (w : World) (hL : l.length ≤ 281474976710656) (hs : h.length ≤ maxLen) :
    Calls Tryz.prog 9 #[.string ⟨l.toArray⟩, .string ⟨h.toArray⟩] w fun e w' => e = .returned (.bool (sdB l h)) ∧ Below w.heap.size w w' := said_raw ⟨l.toArray⟩ ⟨h.toArray⟩ w (by simpa [ByteArray.size] using hL) (by simpa [ByteArray.size] using hs)
/-- a row of texts lies there -/
def RST (W : World) (q : Option Addr) (n : Nat) : Prop := ∀ X, Below W.heap.size W X → ∀ i, i < n → ∃ (ad : Addr) (x : List UInt8), q = some ad ∧ X.cell? (ad.add i) = some (.string ⟨x.toArray⟩) ∧ x.length ≤ maxLen
theorem RST.later {W X : World} {q : Option Addr} {n : Nat} (h : RST W q n) (hb : Below W.heap.size W X) : RST X q n := fun Y hY i hi => h Y (bel0 hb hY) i hi
theorem RST.less {W : World} {q : Option Addr} {n m : Nat} (h : RST W q n) (hm : m ≤ n) : RST W q m := fun Y hY i hi => h Y hY i (by omega)
end Go.Proofs.YtfhghplplkkpmaaGreatDoor
