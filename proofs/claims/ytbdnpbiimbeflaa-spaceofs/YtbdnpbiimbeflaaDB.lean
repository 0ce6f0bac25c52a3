import Derived.Test.YtbdnpbiimbeflaaDA
import Derived.Test.YtbdnpbiimbeflaaDD
import Derived.Test.YtbdnpbiimbeflaaW13
namespace Go.Proofs.Ytbdnpbiimbeflaa
open Go.RowKit Go.Shelf
theorem cub_zero (t : List UInt8) : cubeT t = if cubB t = true then t else [] := by
  unfold cubeT
  by_cases h : refP t = 0
  · rw [if_pos h, if_pos ((cubB_iff t).2 ((refP_zero t).1 h))]
  · rw [if_neg h, if_neg (fun e => h ((refP_zero t).2 ((cubB_iff t).1 e)))]
set_option maxHeartbeats 2000000 in
theorem dCube_any (s : ByteArray) (w : World) (hs : s.size ≤ maxLen) :
    Calls Try.prog 11 #[.string s] w fun e w' => e = .returned (.bool (cubB s.data.toList)) ∧ Below w.heap.size w w' := by
  unfold maxLen at hs
  have hlen : Hid (s.data.toList.length = s.size) := by simp [Hid]
  by_cases h1 : (s.size : Int) < 1
  · have hR : Hid (cubB s.data.toList = false) := by
      unfold Hid cubB
      rw [hlen.out, decide_eq_false (show ¬ 0 < s.size by omega)]
      simp
    go_enter Try.func11, Try.ntmps11
    go_wp2
    go_ret
    exact ⟨by rw [hR.out]; rfl, Below.refl _ _⟩
  by_cases h2 : (256 : Int) < (s.size : Int)
  · have hR : Hid (cubB s.data.toList = false) := by
      unfold Hid cubB
      rw [hlen.out, decide_eq_false (show ¬ s.size ≤ 256 by omega)]
      simp
    go_enter Try.func11, Try.ntmps11
    go_wp2
    go_ret
    exact ⟨by rw [hR.out]; rfl, Below.refl _ _⟩
  have hQ : Hid (∀ q, s.data.toList.all tri = q → cubB s.data.toList = q) := fun q hq => by
    unfold cubB
    rw [hlen.out, hq, decide_eq_true (show 0 < s.size by omega), decide_eq_true (show s.size ≤ 256 by omega)]
    simp
  go_enter Try.func11, Try.ntmps11
  go_wp2
  go_loopw [3] (fun i wr => ∃ k : Nat, k ≤ s.size ∧ i = .int .i64 k ∧ (∀ j (h : j < s.data.toList.length), j < k → tri s.data.toList[j] = true) ∧ Below w.heap.size w wr) (fun i _ => s.size - (intOf i).toNat)
  case atStart => exact ⟨0, Nat.zero_le _, rfl, fun j _ h => by omega, Below.refl _ _⟩
  case round =>
    obtain ⟨k, hk, rfl, htri, hB⟩ := hrel
    by_cases hlt : k < s.size
    · have i1 : (k : Int) < (s.size : Int) := by omega
      have i0 : (0 : Int) ≤ (k : Int) := by omega
      by_cases c3 : s[k] = 48 ∨ s[k] = 49 ∨ s[k] = 120
      · have R := tri_succ hlt htri c3
        clear htri
        rcases c3 with c | c | c
        · have m1 : ((s[k].toNat : Int) != 48) = false := by rw [c]; decide
          clear c
          go_wp2
          go_roundw
          case rel => exact ⟨k + 1, by omega, by go_num, R, hB⟩
          case measure => simp [intOf]; omega
        · have m1 : ((s[k].toNat : Int) != 48) = true := by rw [c]; decide
          have m2 : ((s[k].toNat : Int) != 49) = false := by rw [c]; decide
          clear c
          go_wp2
          go_roundw
          case rel => exact ⟨k + 1, by omega, by go_num, R, hB⟩
          case measure => simp [intOf]; omega
        · have m1 : ((s[k].toNat : Int) != 48) = true := by rw [c]; decide
          have m2 : ((s[k].toNat : Int) != 49) = true := by rw [c]; decide
          have m3 : ((s[k].toNat : Int) != 120) = false := by rw [c]; decide
          clear c
          go_wp2
          go_roundw
          case rel => exact ⟨k + 1, by omega, by go_num, R, hB⟩
          case measure => simp [intOf]; omega
      · have c48 : ¬ s[k] = 48 := fun e => c3 (.inl e)
        have c49 : ¬ s[k] = 49 := fun e => c3 (.inr (.inl e))
        have c120 : ¬ s[k] = 120 := fun e => c3 (.inr (.inr e))
        have R : Hid (cubB s.data.toList = false) := hQ.out _ (not_all s k hlt c48 c49 c120)
        have m1 : ((s[k].toNat : Int) != 48) = true := by rw [show ((s[k].toNat : Int) != 48) = !(s[k] == 48) from byte_bne s[k] 48 (by decide)]; simp [c48]
        have m2 : ((s[k].toNat : Int) != 49) = true := by rw [show ((s[k].toNat : Int) != 49) = !(s[k] == 49) from byte_bne s[k] 49 (by decide)]; simp [c49]
        have m3 : ((s[k].toNat : Int) != 120) = true := by rw [show ((s[k].toNat : Int) != 120) = !(s[k] == 120) from byte_bne s[k] 120 (by decide)]; simp [c120]
        clear htri c48 c49 c120 c3
        go_wp2
        go_ret
        exact ⟨by rw [R.out]; rfl, hB⟩
    · have R : Hid (cubB s.data.toList = true) := hQ.out _ (yes_all s (fun j h => htri j h (by have := hlen.out; omega)))
      clear htri
      go_wp2
      go_ret
      exact ⟨by rw [R.out]; rfl, hB⟩
theorem zeroed_any (s : ByteArray) (w : World) (hs : s.size ≤ maxLen) :
    Calls Try.prog 5 #[.string s] w fun e w' => e = .returned (.string ⟨(cubeT s.data.toList).toArray⟩) ∧ Below w.heap.size w w' := by
  have H := dCube_any s w hs
  have HZ : Hid (cubeT s.data.toList = if cubB s.data.toList = true then s.data.toList else []) := cub_zero _
  obtain ⟨q, hq⟩ : ∃ q, cubB s.data.toList = q := ⟨_, rfl⟩
  rw [hq] at H HZ
  clear hq
  cases q
  all_goals
    go_enter Try.func5, Try.ntmps5
    go_wp2_with fail
    refine H.mono ?_
    rintro e w1 ⟨rfl, hb1⟩
    go_wp2_with fail
    go_ret
    exact ⟨by rw [HZ.out]; simp, hb1⟩
/-- a row of texts lies there -/
def IRSt (w : World) (p : Option Addr) (L : List (List UInt8)) : Prop := ∀ W : World, Below w.heap.size w W → ∀ k t, L[k]? = some t → ∃ g o0, p = some ⟨g, o0, none⟩ ∧ W.cell? ⟨g, o0 + k, none⟩ = some (.string ⟨t.toArray⟩)
theorem IRSt.later {w W : World} {p : Option Addr} {L : List (List UInt8)} (h : IRSt w p L) (hb : Below w.heap.size w W) : IRSt W p L := fun X hX k t ht => h X (bel0 hb hX) k t ht
theorem IRSt_own {W : World} {B n c : Nat} {p : Option Addr} {L : List (List UInt8)} (h : W.ownsRow B 9 1 (.slice p n c) n (stx L)) (hn : L.length = n) : IRSt W p L := fun X hX k t ht => by
  obtain ⟨hk, he⟩ := List.getElem?_eq_some_iff.1 ht
  subst hn
  have h2 := own_belQ h hX
  rcases h2.2 with ⟨e, h0⟩ | ⟨g, cap, cur, e, _⟩
  · omega
  · injection e with e1 _ _
    subst e1
    refine ⟨g, 0, rfl, ?_⟩
    rw [Nat.zero_add]
    exact stx_at h2 hk he
theorem info_str2 : (Try.prog.info? 9).map (fun i => (i.zero, i.size, i.bytes)) = some (some (.string ⟨#[]⟩), 1, 16) := by kernel_rfl
theorem insT_app {x y : List UInt8} (hy : Op.bytesLess x y = true) (R : List (List UInt8)) : ∀ F : List (List UInt8), F.any (fun z => Op.bytesLess x z) = false → insT x (F ++ y :: R) = F ++ x :: y :: R
  | [], _ => by simp [insT, hy]
  | z :: F, h => by
    simp only [List.any_cons, Bool.or_eq_false_iff] at h
    simp [insT, h.1, insT_app hy R F h.2]
theorem insT_end {x : List UInt8} : ∀ F : List (List UInt8), F.any (fun z => Op.bytesLess x z) = false → insT x F = F ++ [x]
  | [], _ => by simp [insT]
  | z :: F, h => by
    simp only [List.any_cons, Bool.or_eq_false_iff] at h
    simp [insT, h.1, insT_end F h.2]
theorem insT_in {x : List UInt8} (y : List UInt8) : ∀ F : List (List UInt8), F.any (fun z => Op.bytesLess x z) = true → insT x (F ++ [y]) = insT x F ++ [y]
  | [], h => by simp at h
  | z :: F, h => by
    cases hz : Op.bytesLess x z with
    | true => simp [insT, hz]
    | false =>
      simp only [List.any_cons, hz, Bool.false_or] at h
      simp [insT, hz, insT_in y F h]
theorem insT_len (x : List UInt8) (F : List (List UInt8)) : (insT x F).length = F.length + 1 := (insT_perm x F).length_eq
/-- what put has made of the first k -/
def FT (T : List (List UInt8)) (x : List UInt8) (k : Nat) : List (List UInt8) := (T.take k).filter (fun y => !wiB y x)
def dn (T : List (List UInt8)) (x : List UInt8) (k : Nat) : Bool := (FT T x k).any (fun z => Op.bytesLess x z)
def mk (T : List (List UInt8)) (x : List UInt8) (k : Nat) : List (List UInt8) := if dn T x k = true then insT x (FT T x k) else FT T x k
theorem FT_skip {T : List (List UInt8)} {x y : List UInt8} {k : Nat} (h : T[k]? = some y) (hw : wiB y x = true) : FT T x (k + 1) = FT T x k := by
  unfold FT
  rw [List.take_add_one, h, List.filter_append]
  simp [hw]
theorem FT_step {T : List (List UInt8)} {x y : List UInt8} {k : Nat} (h : T[k]? = some y) (hw : wiB y x = false) : FT T x (k + 1) = FT T x k ++ [y] := by
  unfold FT
  rw [List.take_add_one, h, List.filter_append]
  simp [hw]
theorem mk_skip {T : List (List UInt8)} {x y : List UInt8} {k : Nat} (h : T[k]? = some y) (hw : wiB y x = true) : mk T x (k + 1) = mk T x k ∧ dn T x (k + 1) = dn T x k := by
  unfold mk dn
  rw [FT_skip h hw]
  exact ⟨rfl, rfl⟩
theorem mk_done {T : List (List UInt8)} {x y : List UInt8} {k : Nat} (h : T[k]? = some y) (hw : wiB y x = false) (hd : dn T x k = true) : mk T x (k + 1) = mk T x k ++ [y] ∧ dn T x (k + 1) = true := by
  have h1 : dn T x (k + 1) = true := by
    unfold dn at hd ⊢
    rw [FT_step h hw, List.any_append, hd]
    rfl
  refine ⟨?_, h1⟩
  unfold mk
  rw [if_pos h1, if_pos hd, FT_step h hw]
  exact insT_in y _ hd
theorem mk_now {T : List (List UInt8)} {x y : List UInt8} {k : Nat} (h : T[k]? = some y) (hw : wiB y x = false) (hd : dn T x k = false) (hl : Op.bytesLess x y = true) : mk T x (k + 1) = mk T x k ++ [x] ++ [y] ∧ dn T x (k + 1) = true := by
  have h1 : dn T x (k + 1) = true := by
    unfold dn
    rw [FT_step h hw, List.any_append]
    simp [hl]
  refine ⟨?_, h1⟩
  unfold mk
  rw [if_pos h1, if_neg (by rw [hd]; simp), FT_step h hw, insT_app hl [] _ hd]
  simp
theorem mk_not {T : List (List UInt8)} {x y : List UInt8} {k : Nat} (h : T[k]? = some y) (hw : wiB y x = false) (hd : dn T x k = false) (hl : Op.bytesLess x y = false) : mk T x (k + 1) = mk T x k ++ [y] ∧ dn T x (k + 1) = false := by
  have h1 : dn T x (k + 1) = false := by
    unfold dn at hd ⊢
    rw [FT_step h hw, List.any_append, hd]
    simp [hl]
  refine ⟨?_, h1⟩
  unfold mk
  rw [if_neg (by rw [h1]; simp), if_neg (by rw [hd]; simp), FT_step h hw]
theorem mk_len (T : List (List UInt8)) (x : List UInt8) (k : Nat) : (mk T x k).length ≤ k + 1 := by
  have h1 : (FT T x k).length ≤ k := by
    unfold FT
    refine Nat.le_trans (List.length_filter_le _ _) ?_
    rw [List.length_take]
    omega
  unfold mk
  split
  · rw [insT_len]; omega
  · omega
theorem mk_end {T : List (List UInt8)} {x : List UInt8} {k : Nat} (hk : T.length ≤ k) (ha : T.any (fun y => wiB x y) = false) : putT T x = if dn T x k = true then mk T x k else mk T x k ++ [x] := by
  unfold putT mk
  rw [if_neg (by rw [ha]; simp)]
  have hf : T.filter (fun y => !wiB y x) = FT T x k := by unfold FT; rw [List.take_of_length_le hk]
  rw [hf]
  split
  · rfl
  · rename_i h
    exact insT_end _ (by unfold dn at h; simpa using h)
end Go.Proofs.Ytbdnpbiimbeflaa
