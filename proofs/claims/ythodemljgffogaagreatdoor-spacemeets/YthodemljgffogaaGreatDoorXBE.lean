import Derived.Test.YthodemljgffogaaGreatDoorXAN
import Derived.Test.YthodemljgffogaaGreatDoorXAJ
import Derived.Test.YthodemljgffogaaGreatDoorXAW
import Derived.Test.YthodemljgffogaaGreatDoorXAV
namespace Go.Proofs.YthodemljgffogaaGreatDoor
open Go.RowKit Go.Shelf
/-- Go's order of texts -/
theorem bl_cmp : ∀ (a b : List UInt8), Op.bytesLess a b = decide (Lib.compareBytes a b < 0)
  | [], [] => by simp [Op.bytesLess, Lib.compareBytes]
  | _ :: _, [] => by simp [Op.bytesLess, Lib.compareBytes]
  | [], _ :: _ => by simp [Op.bytesLess, Lib.compareBytes]
  | x :: a, y :: b => by
    rw [Op.bytesLess, Lib.compareBytes, bl_cmp a b]
    by_cases h1 : x < y
    · simp [h1]
    · by_cases h2 : y < x
      · have h3 : (x == y) = false := by
          rw [beq_eq_false_iff_ne]
          rintro rfl
          exact h1 h2
        simp [h1, h2, h3]
      · have h3 : x = y := by
          have a1 := UInt8.not_lt.1 h1
          have a2 := UInt8.not_lt.1 h2
          exact UInt8.le_antisymm a2 a1
        simp [h3]
def insT (x : List UInt8) : List (List UInt8) → List (List UInt8)
  | [] => [x]
  | y :: r => if Op.bytesLess x y = true then x :: y :: r else y :: insT x r
def putT (T : List (List UInt8)) (x : List UInt8) : List (List UInt8) := if T.any (fun y => wiB x y) = true then T else insT x (T.filter (fun y => !wiB y x))
def putL (L : List (List UInt8)) : List (List UInt8) := L.foldl putT []
theorem insT_perm (x : List UInt8) : ∀ L, (insT x L).Perm (x :: L)
  | [] => List.Perm.refl _
  | y :: r => by
    unfold insT
    split
    · exact List.Perm.refl _
    · exact ((insT_perm x r).cons y).trans (List.Perm.swap x y r)
theorem leB_of_less {x y : List UInt8} (h : Op.bytesLess x y = true) : leB x y = true := by
  rw [bl_cmp] at h
  unfold leB
  simp only [decide_eq_true_eq] at h ⊢
  omega
theorem leB_of_not {x y : List UInt8} (h : ¬ Op.bytesLess x y = true) : leB y x = true := by
  rw [bl_cmp] at h
  unfold leB
  simp only [decide_eq_true_eq] at h ⊢
  rcases cmpB_three x y with ⟨h1, h2⟩ | ⟨h1, h2⟩ | ⟨h1, h2⟩ <;> omega
theorem insT_sorted (x : List UInt8) : ∀ L : List (List UInt8), L.Pairwise (fun a b => leB a b = true) → (insT x L).Pairwise (fun a b => leB a b = true)
  | [], _ => by simp [insT]
  | y :: r, h => by
    rw [List.pairwise_cons] at h
    unfold insT
    split
    · rename_i hl
      have h1 := leB_of_less hl
      rw [List.pairwise_cons, List.pairwise_cons]
      refine ⟨fun z hz => ?_, h.1, h.2⟩
      rcases List.mem_cons.1 hz with rfl | hz
      · exact h1
      · exact leB_trans _ _ _ h1 (h.1 z hz)
    · rename_i hl
      have h1 := leB_of_not hl
      rw [List.pairwise_cons]
      refine ⟨fun z hz => ?_, insT_sorted x r h.2⟩
      rcases List.mem_cons.1 ((insT_perm x r).mem_iff.1 hz) with rfl | hz
      · exact h1
      · exact h.1 z hz
theorem any_perm {T U : List (List UInt8)} (hp : T.Perm U) (p : List UInt8 → Bool) : T.any p = U.any p := by
  rw [Bool.eq_iff_iff, List.any_eq_true, List.any_eq_true]
  exact ⟨fun ⟨x, h1, h2⟩ => ⟨x, hp.mem_iff.1 h1, h2⟩, fun ⟨x, h1, h2⟩ => ⟨x, hp.mem_iff.2 h1, h2⟩⟩
theorem putT_top {T U : List (List UInt8)} (x : List UInt8) (hp : T.Perm U) (hs : T.Pairwise (fun a b => leB a b = true)) : (putT T x).Perm (topS U x) ∧ (putT T x).Pairwise (fun a b => leB a b = true) := by
  unfold putT topS
  rw [any_perm hp]
  split
  · exact ⟨hp, hs⟩
  · refine ⟨(insT_perm x _).trans ?_, insT_sorted x _ (hs.sublist List.filter_sublist)⟩
    have h1 := hp.filter (fun y => !wiB y x)
    refine (h1.cons x).trans ?_
    exact (List.perm_append_comm (l₁ := [x]) (l₂ := List.filter (fun y => !wiB y x) U))
theorem putF_top (L : List (List UInt8)) : ∀ (T U : List (List UInt8)), T.Perm U → T.Pairwise (fun a b => leB a b = true) → (L.foldl putT T).Perm (L.foldl topS U) ∧ (L.foldl putT T).Pairwise (fun a b => leB a b = true) := by
  induction L with
  | nil => exact fun T U h1 h2 => ⟨h1, h2⟩
  | cons x r ih =>
    intro T U h1 h2
    have h3 := putT_top x h1 h2
    exact ih _ _ h3.1 h3.2
theorem putL_eq (L : List (List UInt8)) : putL L = srtT (topL L) :=
  have h := putF_top L [] [] (List.Perm.refl _) List.Pairwise.nil
  srt_eq h.1 h.2
theorem putL_step {L : List (List UInt8)} {k : Nat} {x : List UInt8} (h : L[k]? = some x) : putL (L.take (k + 1)) = putT (putL (L.take k)) x := by
  unfold putL
  rw [List.take_add_one, h, List.foldl_append]
  rfl
theorem wi_anti2 {a b : List UInt8} (h1 : wiB a b = true) (h2 : wiB b a = true) : a = b := by
  unfold wiB at h1 h2
  rw [Bool.and_eq_true, allTo_iff] at h1 h2
  have hl := fitB_len h1.1
  apply List.ext_getElem hl
  intro k k1 k2
  have e1 := h1.2 k k1
  have e2 := h2.2 k k2
  simp only [List.getElem?_eq_getElem k1, List.getElem?_eq_getElem k2] at e1 e2
  generalize a[k] = x at *
  generalize b[k] = y at *
  simp only [Bool.or_eq_true, beq_iff_eq] at e1 e2
  rcases e1 with e1 | e1
  · rcases e2 with e2 | e2
    · rw [e1, e2]
    · exact e2.symm
  · exact e1
/-- what two have in common is within the second -/
theorem mt_within {m c : List UInt8} (gm : good m = true) (gc : good c = true) (h : agB m c = true) : wiB (mtT m c) c = true := by
  have hf := agB_fit h
  have hl := fitB_len hf
  have hne : c ≠ [] := by
    rintro rfl
    have : m = [] := by simpa using hl
    rw [this] at hf
    simp [fitB] at hf
  unfold mtT
  rw [if_pos h]
  unfold wiB
  have hml := meetT_len m c hl
  rw [Bool.and_eq_true, allTo_iff]
  refine ⟨?_, fun k hk => ?_⟩
  · unfold fitB
    have h1 : meetT m c ≠ [] := by
      intro e
      rw [e] at hml
      exact hne (List.eq_nil_of_length_eq_zero (by rw [← hl, ← hml]; rfl))
    cases hz : meetT m c with
    | nil => exact absurd hz h1
    | cons z r =>
      rw [← hz, hml, hl]
      simp
      intro e
      exact h1 e
  · have k1 : k < m.length := by omega
    have k2 : k < c.length := by omega
    rw [meetT_get m c hl k k1, List.getElem?_eq_getElem k2]
    have hc := agB_cfl h k
    unfold cfl fx on at hc
    rw [List.getElem?_eq_getElem k1, List.getElem?_eq_getElem k2] at hc
    have ta := good_tri gm k k1
    have tb := good_tri gc k k2
    generalize m[k] = x at *
    generalize c[k] = y at *
    simp [tri] at ta tb
    rcases ta with (rfl | rfl) | rfl <;> rcases tb with (rfl | rfl) | rfl <;> simp_all
theorem lesL_within {c : List UInt8} {M : List (List UInt8)} (gc : good c = true) (gM : ∀ m ∈ M, good m = true) : ∀ t ∈ lesL c M, wiB t c = true := fun t ht => by
  unfold lesL at ht
  obtain ⟨m, hm, h⟩ := List.mem_filterMap.1 ht
  split at h
  · rename_i ha
    obtain rfl := Option.some.inj h
    exact mt_within (gM m hm) gc ha
  · cases h
/-- where c itself is among those that lie within c, c alone is left -/
theorem topF_whole {c : List UInt8} : ∀ (L T : List (List UInt8)), (∀ t ∈ L, wiB t c = true) → (∀ t ∈ T, wiB t c = true) → (T = [c] ∨ (c ∉ T ∧ c ∈ L)) → L.foldl topS T = [c]
  | [], T, _, _, h => by
    rcases h with rfl | ⟨-, h⟩
    · rfl
    · cases h
  | x :: L, T, hL, hT, h => by
    have hx := hL x List.mem_cons_self
    have hL2 : ∀ t ∈ L, wiB t c = true := fun t ht => hL t (List.mem_cons_of_mem _ ht)
    have hT2 : ∀ t ∈ topS T x, wiB t c = true := fun t ht => by
      rcases topS_mem ht with h | rfl
      · exact hT t h
      · exact hx
    refine topF_whole L (topS T x) hL2 hT2 ?_
    rcases h with rfl | ⟨h1, h2⟩
    · left
      unfold topS
      rw [if_pos (by simp [hx])]
    · by_cases hxc : x = c
      · subst hxc
        left
        unfold topS
        rw [if_neg, List.filter_eq_nil_iff.2]
        · rfl
        · intro y hy
          simp [hT y hy]
        · intro ha
          obtain ⟨y, hy, hw⟩ := List.any_eq_true.1 ha
          obtain rfl := wi_anti2 hw (hT y hy)
          exact h1 hy
      · right
        refine ⟨fun hm => ?_, ?_⟩
        · rcases topS_mem hm with h | h
          · exact h1 h
          · exact hxc h.symm
        · rcases List.mem_cons.1 h2 with h | h
          · exact absurd h.symm hxc
          · exact h
theorem put_none {c : List UInt8} {M : List (List UInt8)} (gc : good c = true) (gM : ∀ m ∈ M, good m = true) (h : setO c M = none) : putL (lesL c M) = [c] := by
  unfold setO at h
  split at h
  · rename_i ha
    obtain ⟨t, ht, he⟩ := List.any_eq_true.1 ha
    obtain rfl := beq_iff_eq.1 he
    rw [putL_eq]
    unfold topL
    rw [topF_whole _ [] (lesL_within gc gM) (by simp) (.inr ⟨by simp, ht⟩)]
    unfold srtT
    exact List.mergeSort_singleton _
  · cases h
theorem put_some {c : List UInt8} {M R : List (List UInt8)} (h : setO c M = some R) : putL (lesL c M) = srtT R ∧ c ∉ srtT R := by
  unfold setO at h
  split at h
  · cases h
  · rename_i ha
    obtain rfl := Option.some.inj h
    refine ⟨putL_eq _, fun hm => ha ?_⟩
    have h1 := topL_mem ((srtT_perm _).mem_iff.1 hm)
    exact List.any_eq_true.2 ⟨c, h1, by simp⟩
end Go.Proofs.YthodemljgffogaaGreatDoor
namespace Go.Proofs.YthodemljgffogaaGreatDoor
open Go.RowKit Go.Shelf
theorem cub_zero (t : List UInt8) : cubeT t = if cubB t = true then t else [] := by
  unfold cubeT
  by_cases h : refP t = 0
  · rw [if_pos h, if_pos ((cubB_iff t).2 ((refP_zero t).1 h))]
  · rw [if_neg h, if_neg (fun e => h ((refP_zero t).2 ((cubB_iff t).1 e)))]
set_option maxHeartbeats 2000000 in
theorem dCube_any (s : ByteArray) (w : World) (hs : s.size ≤ maxLen) :
    Calls Tryz.prog 38 #[.string s] w fun e w' => e = .returned (.bool (cubB s.data.toList)) ∧ Below w.heap.size w w' := by
  unfold maxLen at hs
  have hlen : Hid (s.data.toList.length = s.size) := by simp [Hid]
  by_cases h1 : (s.size : Int) < 1
  · have hR : Hid (cubB s.data.toList = false) := by
      unfold Hid cubB
      rw [hlen.out, decide_eq_false (show ¬ 0 < s.size by omega)]
      simp
    go_enter Tryz.func38, Tryz.ntmps38
    go_wp2
    go_ret
    exact ⟨by rw [hR.out]; rfl, Below.refl _ _⟩
  by_cases h2 : (256 : Int) < (s.size : Int)
  · have hR : Hid (cubB s.data.toList = false) := by
      unfold Hid cubB
      rw [hlen.out, decide_eq_false (show ¬ s.size ≤ 256 by omega)]
      simp
    go_enter Tryz.func38, Tryz.ntmps38
    go_wp2
    go_ret
    exact ⟨by rw [hR.out]; rfl, Below.refl _ _⟩
  have hQ : Hid (∀ q, s.data.toList.all tri = q → cubB s.data.toList = q) := fun q hq => by
    unfold cubB
    rw [hlen.out, hq, decide_eq_true (show 0 < s.size by omega), decide_eq_true (show s.size ≤ 256 by omega)]
    simp
  go_enter Tryz.func38, Tryz.ntmps38
  go_wp2
  go_loopw [3] (fun i wr => ∃ k : Nat, k ≤ s.size ∧ i = .int .i64 k ∧ (∀ j (h : j < s.data.toList.length), j < k → tri s.data.toList[j] = true) ∧ Below w.heap.size w wr) (fun i _ => s.size - (intOf i).toNat)
  case atStart => exact ⟨0, Nat.zero_le _, rfl, fun j _ h => by omega, Below.refl _ _⟩
  case round =>
    obtain ⟨k, hk, rfl, htri, hB⟩ := hrel
    by_cases hlt : k < s.size
    · have i1 : (k : Int) < (s.size : Int) := by omega
      have i0 : (0 : Int) ≤ (k : Int) := by omega
      by_cases c3 : s[k] = 48 ∨ s[k] = 49 ∨ s[k] = 120
      · have R := tri_succ hlt htri c3
        clear htri
        rcases c3 with c | c | c
        · have m1 : ((s[k].toNat : Int) != 48) = false := by rw [c]; decide
          clear c
          go_wp2
          go_roundw
          case rel => exact ⟨k + 1, by omega, by go_num, R, hB⟩
          case measure => simp [intOf]; omega
        · have m1 : ((s[k].toNat : Int) != 48) = true := by rw [c]; decide
          have m2 : ((s[k].toNat : Int) != 49) = false := by rw [c]; decide
          clear c
          go_wp2
          go_roundw
          case rel => exact ⟨k + 1, by omega, by go_num, R, hB⟩
          case measure => simp [intOf]; omega
        · have m1 : ((s[k].toNat : Int) != 48) = true := by rw [c]; decide
          have m2 : ((s[k].toNat : Int) != 49) = true := by rw [c]; decide
          have m3 : ((s[k].toNat : Int) != 120) = false := by rw [c]; decide
          clear c
          go_wp2
          go_roundw
          case rel => exact ⟨k + 1, by omega, by go_num, R, hB⟩
          case measure => simp [intOf]; omega
      · have c48 : ¬ s[k] = 48 := fun e => c3 (.inl e)
        have c49 : ¬ s[k] = 49 := fun e => c3 (.inr (.inl e))
        have c120 : ¬ s[k] = 120 := fun e => c3 (.inr (.inr e))
        have R : Hid (cubB s.data.toList = false) := hQ.out _ (not_all s k hlt c48 c49 c120)
        have m1 : ((s[k].toNat : Int) != 48) = true := by rw [show ((s[k].toNat : Int) != 48) = !(s[k] == 48) from byte_bne s[k] 48 (by decide)]; simp [c48]
        have m2 : ((s[k].toNat : Int) != 49) = true := by rw [show ((s[k].toNat : Int) != 49) = !(s[k] == 49) from byte_bne s[k] 49 (by decide)]; simp [c49]
        have m3 : ((s[k].toNat : Int) != 120) = true := by rw [show ((s[k].toNat : Int) != 120) = !(s[k] == 120) from byte_bne s[k] 120 (by decide)]; simp [c120]
        clear htri c48 c49 c120 c3
        go_wp2
        go_ret
        exact ⟨by rw [R.out]; rfl, hB⟩
    · have R : Hid (cubB s.data.toList = true) := hQ.out _ (yes_all s (fun j h => htri j h (by have := hlen.out; omega)))
      clear htri
      go_wp2
      go_ret
      exact ⟨by rw [R.out]; rfl, hB⟩
/-- a row of texts lies there -/
def IRSt (w : World) (p : Option Addr) (L : List (List UInt8)) : Prop := ∀ W : World, Below w.heap.size w W → ∀ k t, L[k]? = some t → ∃ g o0, p = some ⟨g, o0, none⟩ ∧ W.cell? ⟨g, o0 + k, none⟩ = some (.string ⟨t.toArray⟩)
theorem IRSt.later {w W : World} {p : Option Addr} {L : List (List UInt8)} (h : IRSt w p L) (hb : Below w.heap.size w W) : IRSt W p L := fun X hX k t ht => h X (bel0 hb hX) k t ht
theorem IRSt_own {W : World} {B n c : Nat} {p : Option Addr} {L : List (List UInt8)} (h : W.ownsRow B 9 1 (.slice p n c) n (stx L)) (hn : L.length = n) : IRSt W p L := fun X hX k t ht => by
  obtain ⟨hk, he⟩ := List.getElem?_eq_some_iff.1 ht
  subst hn
  have h2 := own_belQ h hX
  rcases h2.2 with ⟨e, h0⟩ | ⟨g, cap, cur, e, _⟩
  · omega
  · injection e with e1 _ _
    subst e1
    refine ⟨g, 0, rfl, ?_⟩
    rw [Nat.zero_add]
    exact stx_at h2 hk he
theorem info_str2 : (Tryz.prog.info? 9).map (fun i => (i.zero, i.size, i.bytes)) = some (some (.string ⟨#[]⟩), 1, 16) := by kernel_rfl
theorem insT_app {x y : List UInt8} (hy : Op.bytesLess x y = true) (R : List (List UInt8)) : ∀ F : List (List UInt8), F.any (fun z => Op.bytesLess x z) = false → insT x (F ++ y :: R) = F ++ x :: y :: R
  | [], _ => by simp [insT, hy]
  | z :: F, h => by
    simp only [List.any_cons, Bool.or_eq_false_iff] at h
    simp [insT, h.1, insT_app hy R F h.2]
theorem insT_end {x : List UInt8} : ∀ F : List (List UInt8), F.any (fun z => Op.bytesLess x z) = false → insT x F = F ++ [x]
  | [], _ => by simp [insT]
  | z :: F, h => by
    simp only [List.any_cons, Bool.or_eq_false_iff] at h
    simp [insT, h.1, insT_end F h.2]
theorem insT_in {x : List UInt8} (y : List UInt8) : ∀ F : List (List UInt8), F.any (fun z => Op.bytesLess x z) = true → insT x (F ++ [y]) = insT x F ++ [y]
  | [], h => by simp at h
  | z :: F, h => by
    cases hz : Op.bytesLess x z with
    | true => simp [insT, hz]
    | false =>
      simp only [List.any_cons, hz, Bool.false_or] at h
      simp [insT, hz, insT_in y F h]
theorem insT_len (x : List UInt8) (F : List (List UInt8)) : (insT x F).length = F.length + 1 := (insT_perm x F).length_eq
/-- what put has made of the first k -/
def FT (T : List (List UInt8)) (x : List UInt8) (k : Nat) : List (List UInt8) := (T.take k).filter (fun y => !wiB y x)
def dn (T : List (List UInt8)) (x : List UInt8) (k : Nat) : Bool := (FT T x k).any (fun z => Op.bytesLess x z)
def mk (T : List (List UInt8)) (x : List UInt8) (k : Nat) : List (List UInt8) := if dn T x k = true then insT x (FT T x k) else FT T x k
theorem FT_skip {T : List (List UInt8)} {x y : List UInt8} {k : Nat} (h : T[k]? = some y) (hw : wiB y x = true) : FT T x (k + 1) = FT T x k := by
  unfold FT
  rw [List.take_add_one, h, List.filter_append]
  simp [hw]
theorem FT_step {T : List (List UInt8)} {x y : List UInt8} {k : Nat} (h : T[k]? = some y) (hw : wiB y x = false) : FT T x (k + 1) = FT T x k ++ [y] := by
  unfold FT
  rw [List.take_add_one, h, List.filter_append]
  simp [hw]
theorem mk_skip {T : List (List UInt8)} {x y : List UInt8} {k : Nat} (h : T[k]? = some y) (hw : wiB y x = true) : mk T x (k + 1) = mk T x k ∧ dn T x (k + 1) = dn T x k := by
  unfold mk dn
  rw [FT_skip h hw]
  exact ⟨rfl, rfl⟩
theorem mk_done {T : List (List UInt8)} {x y : List UInt8} {k : Nat} (h : T[k]? = some y) (hw : wiB y x = false) (hd : dn T x k = true) : mk T x (k + 1) = mk T x k ++ [y] ∧ dn T x (k + 1) = true := by
  have h1 : dn T x (k + 1) = true := by
    unfold dn at hd ⊢
    rw [FT_step h hw, List.any_append, hd]
    rfl
  refine ⟨?_, h1⟩
  unfold mk
  rw [if_pos h1, if_pos hd, FT_step h hw]
  exact insT_in y _ hd
theorem mk_now {T : List (List UInt8)} {x y : List UInt8} {k : Nat} (h : T[k]? = some y) (hw : wiB y x = false) (hd : dn T x k = false) (hl : Op.bytesLess x y = true) : mk T x (k + 1) = mk T x k ++ [x] ++ [y] ∧ dn T x (k + 1) = true := by
  have h1 : dn T x (k + 1) = true := by
    unfold dn
    rw [FT_step h hw, List.any_append]
    simp [hl]
  refine ⟨?_, h1⟩
  unfold mk
  rw [if_pos h1, if_neg (by rw [hd]; simp), FT_step h hw, insT_app hl [] _ hd]
  simp
theorem mk_not {T : List (List UInt8)} {x y : List UInt8} {k : Nat} (h : T[k]? = some y) (hw : wiB y x = false) (hd : dn T x k = false) (hl : Op.bytesLess x y = false) : mk T x (k + 1) = mk T x k ++ [y] ∧ dn T x (k + 1) = false := by
  have h1 : dn T x (k + 1) = false := by
    unfold dn at hd ⊢
    rw [FT_step h hw, List.any_append, hd]
    simp [hl]
  refine ⟨?_, h1⟩
  unfold mk
  rw [if_neg (by rw [h1]; simp), if_neg (by rw [hd]; simp), FT_step h hw]
theorem mk_len (T : List (List UInt8)) (x : List UInt8) (k : Nat) : (mk T x k).length ≤ k + 1 := by
  have h1 : (FT T x k).length ≤ k := by
    unfold FT
    refine Nat.le_trans (List.length_filter_le _ _) ?_
    rw [List.length_take]
    omega
  unfold mk
  split
  · rw [insT_len]; omega
  · omega
theorem mk_end {T : List (List UInt8)} {x : List UInt8} {k : Nat} (hk : T.length ≤ k) (ha : T.any (fun y => wiB x y) = false) : putT T x = if dn T x k = true then mk T x k else mk T x k ++ [x] := by
  unfold putT mk
  rw [if_neg (by rw [ha]; simp)]
  have hf : T.filter (fun y => !wiB y x) = FT T x k := by unfold FT; rw [List.take_of_length_le hk]
  rw [hf]
  split
  · rfl
  · rename_i h
    exact insT_end _ (by unfold dn at h; simpa using h)
end Go.Proofs.YthodemljgffogaaGreatDoor
