import Derived.Test.YthlgjdadkmpbbaaDoorXAB
import Derived.Test.YthlgjdadkmpbbaaDoorXAC
import Derived.OwnWalk
import Derived.Deep.AppendLies
import Derived.Lib.OthersKept
namespace Go.Proofs.YthlgjdadkmpbbaaDoor
open Go.RowKit Go.Shelf
theorem dc_pos (l : List UInt8) (i : Nat) : 1 ≤ (dc l i).2 := by
  rw [← dc_decode]
  exact Lib.width_pos _ _
theorem iterPos_of {w : World} {k : Nat} {s : ByteArray} {p : Nat} (h : w.heap[k]? = some (.stringIter s p)) : w.iterPos k = p := by simp [World.iterPos, h]
/-- a character: its number (-1: a loose byte; -2: behind the end) and the bytes ahead of it -/
def chars (l : List UInt8) (i : Nat) : List (Int × Nat) :=
  if i < l.length then ((if lo1 l i then -1 else ((dc l i).1 : Int)), i) :: chars l (i + (dc l i).2) else [(-2, l.length)]
termination_by l.length - i
decreasing_by
  have := dc_pos l i
  omega
def ccel (c : Int × Nat) : List Value := [.int .i32 c.1, .int .i64 (c.2 : Int)]
def ccels (L : List (Int × Nat)) : List Value := L.flatMap ccel
theorem info_char : (Tryd.prog.info? 43).map (fun i => (i.zero, i.size, i.bytes)) = some (some (.agg #[.int .i32 0, .int .i64 0]), 2, 16) := by kernel_rfl
theorem chars_lt {l : List UInt8} {i : Nat} (h : i < l.length) : chars l i = ((if lo1 l i then -1 else ((dc l i).1 : Int)), i) :: chars l (i + (dc l i).2) := by rw [chars, if_pos h]
theorem chars_end {l : List UInt8} {i : Nat} (h : ¬ i < l.length) : chars l i = [(-2, l.length)] := by rw [chars, if_neg h]
theorem ccels_snoc (L : List (Int × Nat)) (c : Int × Nat) : ccels (L ++ [c]) = ccels L ++ ccel c := by simp [ccels]
theorem dc_le (l : List UInt8) (i : Nat) (h : i < l.length) : i + (dc l i).2 ≤ l.length := by
  unfold dc
  rcases Lib.decodeN_shape (l.length - i) (bt l i) (bt l (i + 1)) (bt l (i + 2)) (bt l (i + 3)) with ⟨a1, e⟩ | ⟨a1, a2, a3, a4, e⟩ | ⟨a1, a2, a3, a4, a5, a6, e⟩ | ⟨a1, a2, a3, a4, a5, a6, a7, e⟩ | e
  all_goals rw [e]
  all_goals simp only
  all_goals omega
theorem bt_get {l : List UInt8} {i : Nat} (h : i < l.length) : l[i]? = some (l.getD i 0) := by simp [List.getD, List.getElem?_eq_getElem h]
theorem u8_of {c : UInt8} {n : Nat} (h : c.toNat = n) (hn : n < 256) : c = UInt8.ofNat n := UInt8.toNat_inj.1 (by rw [h, UInt8.toNat_ofNat']; omega)
/-- the replacement character stands there, or a loose byte -/
theorem pre_fffd (l : List UInt8) (i : Nat) (h : i < l.length) (h1 : (dc l i).1 = 65533) : Lib.hasPrefix (l.drop i) [239, 191, 189] = !lo1 l i := by
  have hpre : Lib.hasPrefix (l.drop i) [239, 191, 189] = true ↔ (i + 2 < l.length ∧ bt l i = 239 ∧ bt l (i + 1) = 191 ∧ bt l (i + 2) = 189) := by
    unfold Lib.hasPrefix
    rw [List.isPrefixOf_iff_prefix, List.prefix_iff_eq_take]
    constructor
    · intro e
      have hl := congrArg List.length e
      simp at hl
      have g : ∀ j, j < 3 → l[i + j]? = ([239, 191, 189] : List UInt8)[j]? := fun j hj => by
        rw [e]; simp [List.getElem?_drop, hj]
      exact ⟨by omega, by rw [bt_of (c := 239) (by simpa using g 0 (by decide))]; rfl, by rw [bt_of (c := 191) (by simpa using g 1 (by decide))]; rfl, by rw [bt_of (c := 189) (by simpa using g 2 (by decide))]; rfl⟩
    · rintro ⟨h3, e0, e1, e2⟩
      have a0 := bt_get h
      have a1 := bt_get (l := l) (i := i + 1) (by omega)
      have a2 := bt_get h3
      rw [u8_of (c := l.getD i 0) e0 (by decide)] at a0
      rw [u8_of (c := l.getD (i + 1) 0) e1 (by decide)] at a1
      rw [u8_of (c := l.getD (i + 2) 0) e2 (by decide)] at a2
      refine List.ext_getElem? (fun j => ?_)
      match j with
      | 0 => simp [List.getElem?_drop, a0]
      | 1 => simp [List.getElem?_drop, a1]
      | 2 => simp [List.getElem?_drop, a2]
      | j + 3 => rw [List.getElem?_eq_none (by simp), List.getElem?_eq_none (by simp; omega)]
  cases hlo : lo1 l i with
  | true =>
    have hd : dc l i = (65533, 1) := of_decide_eq_true hlo
    rw [Bool.not_true, Bool.eq_false_iff]
    intro hp
    obtain ⟨h3, e0, e1, e2⟩ := hpre.1 hp
    unfold dc at hd
    rw [e0, e1, e2] at hd
    unfold Lib.decodeN at hd
    rw [if_neg (by decide), if_neg (by omega), if_pos ⟨by decide, ⟨by omega, by decide⟩, ⟨by omega, by decide⟩⟩] at hd
    exact absurd hd (by decide)
  | false =>
    have hd : dc l i ≠ (65533, 1) := of_decide_eq_false hlo
    rw [Bool.not_false, hpre]
    have l0 := bt_lt l i
    have l1 := bt_lt l (i + 1)
    have l2 := bt_lt l (i + 2)
    rcases Lib.decodeN_shape (l.length - i) (bt l i) (bt l (i + 1)) (bt l (i + 2)) (bt l (i + 3)) with ⟨a1, e⟩ | ⟨a1, a2, a3, a4, e⟩ | ⟨a1, a2, a3, a4, a5, a6, e⟩ | ⟨a1, a2, a3, a4, a5, a6, a7, e⟩ | e
    all_goals unfold dc at h1 hd
    all_goals rw [e] at h1 hd
    · simp only at h1; omega
    · simp only at h1; omega
    · simp only at h1; omega
    · simp only at h1; omega
    · exact absurd rfl hd
theorem hasPre_any (r : List UInt8) (w : World) : Calls Tryd.prog 13 #[.string ⟨r.toArray⟩, .string ⟨#[239, 191, 189]⟩] w fun e w' => e = .returned (.bool (Lib.hasPrefix r [239, 191, 189])) ∧ w' = w := Any.strings_HasPrefix Tryd.l99 ⟨r.toArray⟩ ⟨#[239, 191, 189]⟩ w
theorem own_iter {W : World} {B n : Nat} {e : TypeId} {sz : Nat} {v : Value} {xs : List Value} {k p : Nat} {s : ByteArray} (h : W.ownsRow B e sz v n xs) (hk : W.heap[k]? = some (.stringIter s p)) : v.ownBlock ≠ some k := by
  intro hb
  rcases h.2 with ⟨rfl, _⟩ | ⟨g, c, cur, rfl, _, hg, _⟩
  · cases hb
  · have : g = k := by injection hb
    subst this
    rw [hk] at hg
    cases hg
set_option maxRecDepth 100000 in
set_option maxHeartbeats 2000000 in
theorem charsOf_any (l : List UInt8) (w : World) (hs : l.length ≤ 16384) :
    Calls Tryd.prog 9 #[.string ⟨l.toArray⟩] w fun e w' => ∃ v, e = .returned v ∧ w'.ownsRow w.heap.size 43 2 v (chars l 0).length (ccels (chars l 0)) ∧ Below w.heap.size w w' := by
  obtain ⟨i0, hi, hz0, hz1, hz2⟩ := info_parts info_char
  go_enter Tryd.func9, Tryd.ntmps9
  go_wp2_with (at_make; refine wpList_make_own _ rfl _ _ 35 rfl w.heap.size 43 i0 (.agg #[.int .i32 0, .int .i64 0]) 2 Tryd.underlying35 hi hz0 hz1 .i64 .i64 _ (l.length + 1) rfl rfl (by omega) (by rw [hz2]; omega) (by unfold maxLen; omega) (Nat.le_refl _) ?_; intro w1 hown hgrow)
  obtain ⟨KB, hKB⟩ : ∃ KB, w1.heap.size = KB := ⟨_, rfl⟩
  have B1 : Below w.heap.size w w1 := (Below.refl _ _).grown hgrow (Nat.le_refl _) (fun k e => by cases e)
  have hKw : w.heap.size ≤ KB := by rw [← hKB]; exact B1.size
  have Hk0 : (w1.iter ⟨l.toArray⟩ 0).heap[KB]? = some (.stringIter ⟨l.toArray⟩ 0) := by rw [← hKB]; exact World.iter_heap _ _ _
  have Ho0 : (w1.iter ⟨l.toArray⟩ 0).ownsRow w.heap.size 43 2 (.slice (some ⟨w.heap.size, 0, none⟩) 0 (l.length + 1)) 0 (ccels []) := hown.alloc _
  have Hb0 : Below w.heap.size w (w1.iter ⟨l.toArray⟩ 0) := B1.alloc (by omega) _
  have HL : Hid (chars l 0 = chars l 0) := rfl
  clear hown hgrow B1
  simp only [hKB]
  go_loopw [3] (fun v wr => ∃ (i : Nat) (D : List (Int × Nat)), i ≤ l.length ∧ D.length ≤ i ∧ D ++ chars l i = chars l 0 ∧ wr.ownsRow w.heap.size 43 2 v D.length (ccels D) ∧ wr.heap[KB]? = some (.stringIter ⟨l.toArray⟩ i) ∧ Below w.heap.size w wr) (fun _ wr => l.length - wr.iterPos KB)
  case atStart => exact ⟨0, [], Nat.zero_le _, Nat.zero_le _, rfl, Ho0, Hk0, Hb0⟩
  case round =>
    clear Hk0 Ho0 Hb0 HL
    obtain ⟨i, D, hi1, hD, hch, hown, hk, hB⟩ := hrel
    by_cases hlt : i < l.length
    · have hnx0 := fun ty => Lib.run_next_any_at (P := Tryd.prog) wr KB ⟨l.toArray⟩ i ty hk (by simpa [ByteArray.size] using hlt)
      have hp := dc_pos l i
      have hle := dc_le l i hlt
      rw [dc_decode] at hnx0
      have hk2 := Lib.iterAt_heap wr KB ⟨l.toArray⟩ i (i + (dc l i).2) hk
      have hb2 := Lib.below_iterAt hB hKw ⟨l.toArray⟩ (i + (dc l i).2)
      have hsz : (wr.iterAt KB ⟨l.toArray⟩ (i + (dc l i).2)).heap.size = wr.heap.size := Lib.iterAt_size ..
      have ho2 : (wr.iterAt KB ⟨l.toArray⟩ (i + (dc l i).2)).ownsRow w.heap.size 43 2 u3 D.length (ccels D) := hown.kept (row := some KB) ⟨rfl, rfl, rfl, by rw [hsz]; exact Nat.le_refl _, fun j _ hj => Lib.iterAt_other wr KB j ⟨l.toArray⟩ _ (fun e => hj (by rw [e]))⟩ (.inr (own_iter hown hk))
      have hpf := pre_fffd l i hlt
      have hcl := chars_lt hlt
      have hlo0 : (dc l i).1 ≠ 65533 → lo1 l i = false := fun h => decide_eq_false (fun e => h (by rw [e]))
      obtain ⟨W2, hW2⟩ : ∃ W2, wr.iterAt KB ⟨l.toArray⟩ (i + (dc l i).2) = W2 := ⟨_, rfl⟩
      rw [hW2] at hk2 hb2 hsz ho2
      have hnx : ∀ ty, (Instr.next (.pointer (some ⟨KB, 0, none⟩)) true ty).run Tryd.prog wr = .ok (.tuple #[.bool true, .int .i64 (i : Int), .int .i32 ((dc l i).1 : Int)]) W2 := fun ty => by rw [← hW2]; exact hnx0 ty
      clear hnx0 hW2 hsz
      obtain ⟨R, hR⟩ : ∃ R, (dc l i).1 = R := ⟨_, rfl⟩
      obtain ⟨K, hK⟩ : ∃ K, (dc l i).2 = K := ⟨_, rfl⟩
      obtain ⟨lo, hlo⟩ : ∃ lo, lo1 l i = lo := ⟨_, rfl⟩
      rw [hR] at hpf hcl hlo0 hnx
      rw [hK] at hk2 hp hle hcl
      rw [hlo] at hpf hcl hlo0
      clear hR hK hlo
      have hzW : w.heap.size ≤ W2.heap.size := hb2.size
      have hE := ext_drop l i
      have HP := hasPre_any (l.drop i)
      have j0 : (0 : Int) ≤ (i : Int) := by omega
      have j1 : (i : Int) ≤ (l.length : Int) := by omega
      obtain ⟨qv, cv, rfl⟩ := shapeP hown
      by_cases h65 : R = 65533
      · subst h65
        rw [hpf rfl] at HP
        cases lo with
        | true =>
          have HC : Hid (D ++ ([((-1 : Int), i)] ++ chars l (i + K)) = chars l 0) := by unfold Hid; rw [← hch, hcl]; rfl
          clear hcl hpf hlo0 hch
          go_wp2_with fail
          refine (HP _).mono ?_
          rintro e w3 ⟨rfl, rfl⟩
          go_wp2_with (at_builtin; refine wpList_append_own _ rfl _ _ 35 rfl w.heap.size 43 i0 _ 2 16 Tryd.underlying35 hi hz0 hz1 hz2 rfl (by decide) _ _ _ rfl (ho2.alloc _) ⟨w3.heap.size, 0, none⟩ 1 1 (ccel ((-1 : Int), i)) rfl rfl (World.news_of_block (cs := #[.int .i32 ((-1 : Int)), .int .i64 ((i : Nat) : Int)]) (t := 43) (fr := (0, 0)) (alloc_get _ _)) (by simp [ccel, Value.oneCell']) (by unfold maxLen; omega) (by omega) (by simp; omega) ?_; intro v5 w5 oB hg5 _)
          have nK := own_iter ho2 hk2
          have k5 : w5.heap[KB]? = some (.stringIter ⟨l.toArray⟩ (i + K)) := (hg5.block KB (lt_of_get (allocblk hk2 _)) (fun e => nK e.symm)).trans (allocblk hk2 _)
          have b5 : Below w.heap.size w w5 := (hb2.alloc hzW _).grown hg5 (by simp; omega) (fun k e => (ho2.lt k e).1)
          have hm5 : w5.iterPos KB = i + K := iterPos_of k5
          have hm0 : wr.iterPos KB = i := iterPos_of hk
          have HM : Hid (l.length - w5.iterPos KB < l.length - wr.iterPos KB) := by unfold Hid; rw [hm5, hm0]; omega
          have R5 : ∃ (i' : Nat) (D' : List (Int × Nat)), i' ≤ l.length ∧ D'.length ≤ i' ∧ D' ++ chars l i' = chars l 0 ∧ w5.ownsRow w.heap.size 43 2 v5 D'.length (ccels D') ∧ w5.heap[KB]? = some (.stringIter ⟨l.toArray⟩ i') ∧ Below w.heap.size w w5 := ⟨i + K, D ++ [((-1 : Int), i)], by omega, by simp; omega, by rw [List.append_assoc]; exact HC.out, by rw [List.length_append, ccels_snoc]; exact oB, k5, b5⟩
          go_roundw
          case rel => first | exact R5 | ((repeat apply Exists.intro); exact ⟨R5, rfl⟩)
          case measure => exact HM.out
        | false =>
          have HC : Hid (D ++ ([((65533 : Int), i)] ++ chars l (i + K)) = chars l 0) := by unfold Hid; rw [← hch, hcl]; rfl
          clear hcl hpf hlo0 hch
          go_wp2_with fail
          refine (HP _).mono ?_
          rintro e w3 ⟨rfl, rfl⟩
          go_wp2_with (at_builtin; refine wpList_append_own _ rfl _ _ 35 rfl w.heap.size 43 i0 _ 2 16 Tryd.underlying35 hi hz0 hz1 hz2 rfl (by decide) _ _ _ rfl (ho2.alloc _) ⟨w3.heap.size, 0, none⟩ 1 1 (ccel ((65533 : Int), i)) rfl rfl (World.news_of_block (cs := #[.int .i32 ((65533 : Int)), .int .i64 ((i : Nat) : Int)]) (t := 43) (fr := (0, 0)) (alloc_get _ _)) (by simp [ccel, Value.oneCell']) (by unfold maxLen; omega) (by omega) (by simp; omega) ?_; intro v5 w5 oB hg5 _)
          have nK := own_iter ho2 hk2
          have k5 : w5.heap[KB]? = some (.stringIter ⟨l.toArray⟩ (i + K)) := (hg5.block KB (lt_of_get (allocblk hk2 _)) (fun e => nK e.symm)).trans (allocblk hk2 _)
          have b5 : Below w.heap.size w w5 := (hb2.alloc hzW _).grown hg5 (by simp; omega) (fun k e => (ho2.lt k e).1)
          have hm5 : w5.iterPos KB = i + K := iterPos_of k5
          have hm0 : wr.iterPos KB = i := iterPos_of hk
          have HM : Hid (l.length - w5.iterPos KB < l.length - wr.iterPos KB) := by unfold Hid; rw [hm5, hm0]; omega
          have R5 : ∃ (i' : Nat) (D' : List (Int × Nat)), i' ≤ l.length ∧ D'.length ≤ i' ∧ D' ++ chars l i' = chars l 0 ∧ w5.ownsRow w.heap.size 43 2 v5 D'.length (ccels D') ∧ w5.heap[KB]? = some (.stringIter ⟨l.toArray⟩ i') ∧ Below w.heap.size w w5 := ⟨i + K, D ++ [((65533 : Int), i)], by omega, by simp; omega, by rw [List.append_assoc]; exact HC.out, by rw [List.length_append, ccels_snoc]; exact oB, k5, b5⟩
          go_roundw
          case rel => first | exact R5 | ((repeat apply Exists.intro); exact ⟨R5, rfl⟩)
          case measure => exact HM.out
      · have e0 : ((R : Int) == 65533) = false := by rw [beq_eq_false_iff_ne]; omega
        obtain rfl : lo = false := hlo0 h65
        have HC : Hid (D ++ ([((R : Int), i)] ++ chars l (i + K)) = chars l 0) := by unfold Hid; rw [← hch, hcl]; rfl
        clear hcl hpf hlo0 hch
        go_wp2_with (at_builtin; refine wpList_append_own _ rfl _ _ 35 rfl w.heap.size 43 i0 _ 2 16 Tryd.underlying35 hi hz0 hz1 hz2 rfl (by decide) _ _ _ rfl (ho2.alloc _) ⟨W2.heap.size, 0, none⟩ 1 1 (ccel ((R : Int), i)) rfl rfl (World.news_of_block (cs := #[.int .i32 ((R : Int)), .int .i64 ((i : Nat) : Int)]) (t := 43) (fr := (0, 0)) (alloc_get _ _)) (by simp [ccel, Value.oneCell']) (by unfold maxLen; omega) (by omega) (by simp; omega) ?_; intro v5 w5 oB hg5 _)
        have nK := own_iter ho2 hk2
        have k5 : w5.heap[KB]? = some (.stringIter ⟨l.toArray⟩ (i + K)) := (hg5.block KB (lt_of_get (allocblk hk2 _)) (fun e => nK e.symm)).trans (allocblk hk2 _)
        have b5 : Below w.heap.size w w5 := (hb2.alloc hzW _).grown hg5 (by simp; omega) (fun k e => (ho2.lt k e).1)
        have hm5 : w5.iterPos KB = i + K := iterPos_of k5
        have hm0 : wr.iterPos KB = i := iterPos_of hk
        have HM : Hid (l.length - w5.iterPos KB < l.length - wr.iterPos KB) := by unfold Hid; rw [hm5, hm0]; omega
        have R5 : ∃ (i' : Nat) (D' : List (Int × Nat)), i' ≤ l.length ∧ D'.length ≤ i' ∧ D' ++ chars l i' = chars l 0 ∧ w5.ownsRow w.heap.size 43 2 v5 D'.length (ccels D') ∧ w5.heap[KB]? = some (.stringIter ⟨l.toArray⟩ i') ∧ Below w.heap.size w w5 := ⟨i + K, D ++ [((R : Int), i)], by omega, by simp; omega, by rw [List.append_assoc]; exact HC.out, by rw [List.length_append, ccels_snoc]; exact oB, k5, b5⟩
        go_roundw
        case rel => first | exact R5 | ((repeat apply Exists.intro); exact ⟨R5, rfl⟩)
        case measure => exact HM.out
    · have hnx : ∀ ty, (Instr.next (.pointer (some ⟨KB, 0, none⟩)) true ty).run Tryd.prog wr = .ok (.tuple #[.bool false]) wr := fun ty => Lib.run_next_end_at (P := Tryd.prog) wr KB ⟨l.toArray⟩ i ty hk (by simpa [ByteArray.size] using hlt)
      rw [chars_end hlt] at hch
      have HC : Hid (D ++ [((-2 : Int), l.length)] = chars l 0) := hch
      have hzW : w.heap.size ≤ wr.heap.size := hB.size
      clear hch
      obtain ⟨qv, cv, rfl⟩ := shapeP hown
      go_wp2_with (at_builtin; refine wpList_append_own _ rfl _ _ 35 rfl w.heap.size 43 i0 _ 2 16 Tryd.underlying35 hi hz0 hz1 hz2 rfl (by decide) _ _ _ rfl (hown.alloc _) ⟨wr.heap.size, 0, none⟩ 1 1 (ccel ((-2 : Int), l.length)) rfl rfl (World.news_of_block (cs := #[.int .i32 ((-2 : Int)), .int .i64 ((l.length : Nat) : Int)]) (t := 43) (fr := (0, 0)) (alloc_get _ _)) (by simp [ccel, Value.oneCell']) (by unfold maxLen; omega) (by omega) (by simp; omega) ?_; intro v5 w5 oB hg5 _)
      have b5 : Below w.heap.size w w5 := (hB.alloc hzW _).grown hg5 (by simp; omega) (fun k e => (hown.lt k e).1)
      go_ret
      refine ⟨v5, rfl, ?_, b5⟩
      rw [← HC.out, List.length_append, ccels_snoc]
      exact oB
end Go.Proofs.YthlgjdadkmpbbaaDoor
