import Derived.Test.YtcejejiomhhpgaaGreatDoorXAV
import Derived.Test.YtcejejiomhhpgaaGreatDoorXBB
import Derived.Test.YtcejejiomhhpgaaGreatDoorXAR
import Derived.OneCell
import Derived.Deep.AppendLies
import Derived.Deep.RegionHeld3
namespace Go.Proofs.YtcejejiomhhpgaaGreatDoor
open Go.RowKit Go.Shelf
theorem cub_zero (t : List UInt8) : cubeT t = if cubB t = true then t else [] := by
  unfold cubeT
  by_cases h : refP t = 0
  · rw [if_pos h, if_pos ((cubB_iff t).2 ((refP_zero t).1 h))]
  · rw [if_neg h, if_neg (fun e => h ((refP_zero t).2 ((cubB_iff t).1 e)))]
/-- a row of texts lies there -/
def IRSt (w : World) (p : Option Addr) (L : List (List UInt8)) : Prop := ∀ W : World, Below w.heap.size w W → ∀ k t, L[k]? = some t → ∃ g o0, p = some ⟨g, o0, none⟩ ∧ W.cell? ⟨g, o0 + k, none⟩ = some (.string ⟨t.toArray⟩)
theorem IRSt.later {w W : World} {p : Option Addr} {L : List (List UInt8)} (h : IRSt w p L) (hb : Below w.heap.size w W) : IRSt W p L := fun X hX k t ht => h X (bel0 hb hX) k t ht
theorem IRSt_own {W : World} {B n c : Nat} {p : Option Addr} {L : List (List UInt8)} (h : W.ownsRow B 9 1 (.slice p n c) n (stx L)) (hn : L.length = n) : IRSt W p L := fun X hX k t ht => by
  obtain ⟨hk, he⟩ := List.getElem?_eq_some_iff.1 ht
  subst hn
  have h2 := own_belQ h hX
  rcases h2.2 with ⟨e, h0⟩ | ⟨g, cap, cur, e, _⟩
  · omega
  · injection e with e1 _ _
    subst e1
    refine ⟨g, 0, rfl, ?_⟩
    rw [Nat.zero_add]
    exact stx_at h2 hk he
theorem info_str2 : (Tryz.prog.info? 9).map (fun i => (i.zero, i.size, i.bytes)) = some (some (.string ⟨#[]⟩), 1, 16) := by kernel_rfl
theorem insT_app {x y : List UInt8} (hy : Op.bytesLess x y = true) (R : List (List UInt8)) : ∀ F : List (List UInt8), F.any (fun z => Op.bytesLess x z) = false → insT x (F ++ y :: R) = F ++ x :: y :: R
  | [], _ => by simp [insT, hy]
  | z :: F, h => by
    simp only [List.any_cons, Bool.or_eq_false_iff] at h
    simp [insT, h.1, insT_app hy R F h.2]
theorem insT_end {x : List UInt8} : ∀ F : List (List UInt8), F.any (fun z => Op.bytesLess x z) = false → insT x F = F ++ [x]
  | [], _ => by simp [insT]
  | z :: F, h => by
    simp only [List.any_cons, Bool.or_eq_false_iff] at h
    simp [insT, h.1, insT_end F h.2]
theorem insT_in {x : List UInt8} (y : List UInt8) : ∀ F : List (List UInt8), F.any (fun z => Op.bytesLess x z) = true → insT x (F ++ [y]) = insT x F ++ [y]
  | [], h => by simp at h
  | z :: F, h => by
    cases hz : Op.bytesLess x z with
    | true => simp [insT, hz]
    | false =>
      simp only [List.any_cons, hz, Bool.false_or] at h
      simp [insT, hz, insT_in y F h]
theorem insT_len (x : List UInt8) (F : List (List UInt8)) : (insT x F).length = F.length + 1 := (insT_perm x F).length_eq
/-- what put has made of the first k -/
def FT (T : List (List UInt8)) (x : List UInt8) (k : Nat) : List (List UInt8) := (T.take k).filter (fun y => !wiB y x)
def dn (T : List (List UInt8)) (x : List UInt8) (k : Nat) : Bool := (FT T x k).any (fun z => Op.bytesLess x z)
def mk (T : List (List UInt8)) (x : List UInt8) (k : Nat) : List (List UInt8) := if dn T x k = true then insT x (FT T x k) else FT T x k
theorem FT_skip {T : List (List UInt8)} {x y : List UInt8} {k : Nat} (h : T[k]? = some y) (hw : wiB y x = true) : FT T x (k + 1) = FT T x k := by
  unfold FT
  rw [List.take_add_one, h, List.filter_append]
  simp [hw]
theorem FT_step {T : List (List UInt8)} {x y : List UInt8} {k : Nat} (h : T[k]? = some y) (hw : wiB y x = false) : FT T x (k + 1) = FT T x k ++ [y] := by
  unfold FT
  rw [List.take_add_one, h, List.filter_append]
  simp [hw]
theorem mk_skip {T : List (List UInt8)} {x y : List UInt8} {k : Nat} (h : T[k]? = some y) (hw : wiB y x = true) : mk T x (k + 1) = mk T x k ∧ dn T x (k + 1) = dn T x k := by
  unfold mk dn
  rw [FT_skip h hw]
  exact ⟨rfl, rfl⟩
theorem mk_done {T : List (List UInt8)} {x y : List UInt8} {k : Nat} (h : T[k]? = some y) (hw : wiB y x = false) (hd : dn T x k = true) : mk T x (k + 1) = mk T x k ++ [y] ∧ dn T x (k + 1) = true := by
  have h1 : dn T x (k + 1) = true := by
    unfold dn at hd ⊢
    rw [FT_step h hw, List.any_append, hd]
    rfl
  refine ⟨?_, h1⟩
  unfold mk
  rw [if_pos h1, if_pos hd, FT_step h hw]
  exact insT_in y _ hd
theorem mk_now {T : List (List UInt8)} {x y : List UInt8} {k : Nat} (h : T[k]? = some y) (hw : wiB y x = false) (hd : dn T x k = false) (hl : Op.bytesLess x y = true) : mk T x (k + 1) = mk T x k ++ [x] ++ [y] ∧ dn T x (k + 1) = true := by
  have h1 : dn T x (k + 1) = true := by
    unfold dn
    rw [FT_step h hw, List.any_append]
    simp [hl]
  refine ⟨?_, h1⟩
  unfold mk
  rw [if_pos h1, if_neg (by rw [hd]; simp), FT_step h hw, insT_app hl [] _ hd]
  simp
theorem mk_not {T : List (List UInt8)} {x y : List UInt8} {k : Nat} (h : T[k]? = some y) (hw : wiB y x = false) (hd : dn T x k = false) (hl : Op.bytesLess x y = false) : mk T x (k + 1) = mk T x k ++ [y] ∧ dn T x (k + 1) = false := by
  have h1 : dn T x (k + 1) = false := by
    unfold dn at hd ⊢
    rw [FT_step h hw, List.any_append, hd]
    simp [hl]
  refine ⟨?_, h1⟩
  unfold mk
  rw [if_neg (by rw [h1]; simp), if_neg (by rw [hd]; simp), FT_step h hw]
theorem mk_len (T : List (List UInt8)) (x : List UInt8) (k : Nat) : (mk T x k).length ≤ k + 1 := by
  have h1 : (FT T x k).length ≤ k := by
    unfold FT
    refine Nat.le_trans (List.length_filter_le _ _) ?_
    rw [List.length_take]
    omega
  unfold mk
  split
  · rw [insT_len]; omega
  · omega
theorem mk_end {T : List (List UInt8)} {x : List UInt8} {k : Nat} (hk : T.length ≤ k) (ha : T.any (fun y => wiB x y) = false) : putT T x = if dn T x k = true then mk T x k else mk T x k ++ [x] := by
  unfold putT mk
  rw [if_neg (by rw [ha]; simp)]
  have hf : T.filter (fun y => !wiB y x) = FT T x k := by unfold FT; rw [List.take_of_length_le hk]
  rw [hf]
  split
  · rfl
  · rename_i h
    exact insT_end _ (by unfold dn at h; simpa using h)
end Go.Proofs.YtcejejiomhhpgaaGreatDoor
namespace Go.Proofs.YtcejejiomhhpgaaGreatDoor
open Go.RowKit Go.Shelf
theorem any_no {T : List (List UInt8)} {p : List UInt8 → Bool} {n : Nat} (hn : T.length ≤ n) (h : ∀ j t, j < n → T[j]? = some t → p t = false) : T.any p = false := by
  rw [List.any_eq_false]
  intro t ht
  obtain ⟨j, hj, he⟩ := List.getElem_of_mem ht
  rw [h j t (by omega) (by rw [List.getElem?_eq_getElem hj, he])]
  simp
theorem app_bel {w wr w1 : World} {o : Obj} {base : Nat} {e : TypeId} {size : Nat} {v : Value} {n : Nat} {xs : List Value} (hB : Below w.heap.size w wr) (hown : wr.ownsRow base e size v n xs) (hg : (wr.alloc o).grownBy w1 v.ownBlock) (hb : w.heap.size ≤ base) : Below w.heap.size w w1 :=
  (belA hB o).grown hg (belA hB o).size (fun k h => Nat.le_trans hb (hown.lt k h).1)
end Go.Proofs.YtcejejiomhhpgaaGreatDoor
namespace Go.Proofs.YtcejejiomhhpgaaGreatDoor
open Go.RowKit Go.Shelf
theorem set2_get {W : World} {b t : Nat} {x0 x1 : Value} (v0 v1 : Value) (h : W.heap[b]? = some (.cells #[x0, x1] t (0, 0))) : ((W.setCell ⟨b, 0, none⟩ v0).setCell ⟨b, 1, none⟩ v1).heap[b]? = some (.cells #[v0, v1] t (0, 0)) := by
  have h0 := set_get (j := 0) v0 h
  have h1 := set_get (j := 1) v1 h0
  rw [h1]
  simp
theorem set_gr (X : World) (b k : Nat) (u : Value) : X.grownBy (X.setCell ⟨b, k, none⟩ u) (some b) := ⟨rfl, rfl, rfl, by simp, fun j _ hj => heap_setCell_other X ⟨b, k, none⟩ j u (fun e => hj (by simp [e]))⟩
theorem lesL_step {c : List UInt8} {M : List (List UInt8)} {k : Nat} {m : List UInt8} (h : M[k]? = some m) : putL (lesL c (M.take (k + 1))) = if agB m c = true then putT (putL (lesL c (M.take k))) (mtT m c) else putL (lesL c (M.take k)) := by
  rw [List.take_add_one, h]
  show putL (lesL c (M.take k ++ [m])) = _
  rw [lesL_snoc]
  split
  · unfold putL
    rw [List.foldl_append]
    rfl
  · rw [List.append_nil]
theorem putL_mem {L : List (List UInt8)} {t : List UInt8} (h : t ∈ putL L) : t ∈ L := by
  rw [putL_eq] at h
  exact topL_mem ((srtT_perm _).mem_iff.1 h)
theorem putL_len (L : List (List UInt8)) : (putL L).length ≤ L.length := by
  rw [putL_eq, srtT_len]
  exact topL_len L
end Go.Proofs.YtcejejiomhhpgaaGreatDoor
namespace Go.Proofs.YtcejejiomhhpgaaGreatDoor
open Go.RowKit Go.Shelf
theorem idx_at {L : List UInt8} {s : UInt8} {k : Nat} (h : L[k]? = some s) (hn : ∀ j, j < k → L[j]? ≠ some s) : Lib.indexByte L s = k := by
  have h1 := Lib.indexByte_ge L s
  by_cases h2 : Lib.indexByte L s = -1
  · exact absurd h (Lib.indexByte_none h2 k)
  · obtain ⟨o, ho⟩ : ∃ o : Nat, Lib.indexByte L s = o := ⟨(Lib.indexByte L s).toNat, by omega⟩
    obtain ⟨h3, h4⟩ := Lib.indexByte_some ho
    rw [ho]
    rcases Nat.lt_trichotomy o k with h5 | h5 | h5
    · exact absurd h3 (hn o h5)
    · rw [h5]
    · exact absurd h (h4 k h5)
theorem idx_no {L : List UInt8} {s : UInt8} (h : ∀ j : Nat, L[j]? ≠ some s) : Lib.indexByte L s < 0 := by
  have h1 := Lib.indexByte_ge L s
  by_cases h2 : Lib.indexByte L s = -1
  · omega
  · obtain ⟨o, ho⟩ : ∃ o : Nat, Lib.indexByte L s = o := ⟨(Lib.indexByte L s).toNat, by omega⟩
    exact absurd (Lib.indexByte_some ho).1 (h o)
/-- what stands while a text is cut -/
def CTI (L : List UInt8) (s : UInt8) (f k : Nat) (D : List (List UInt8)) : Prop :=
  (k ≤ L.length ∧ f ≤ k ∧ D ++ prts s (L.drop f) = prts s L ∧ ∀ j, f ≤ j → j < k → L[j]? ≠ some s) ∨ (k = L.length + 1 ∧ D = prts s L)
theorem CTI.skip {L : List UInt8} {s x : UInt8} {f k : Nat} {D : List (List UInt8)} (h : CTI L s f k D) (hx : L[k]? = some x) (hne : x ≠ s) : CTI L s f (k + 1) D := by
  have hk := (List.getElem?_eq_some_iff.1 hx).1
  rcases h with ⟨h1, h2, h3, h4⟩ | ⟨h1, _⟩
  · refine .inl ⟨by omega, by omega, h3, fun j h5 h6 => ?_⟩
    by_cases e : j = k
    · subst e
      rw [hx]
      intro e2
      exact hne (Option.some.inj e2)
    · exact h4 j h5 (by omega)
  · omega
theorem CTI.cut {L : List UInt8} {s : UInt8} {f k : Nat} {D : List (List UInt8)} (h : CTI L s f k D) (hx : L[k]? = some s) : CTI L s (k + 1) (k + 1) (D ++ [(L.drop f).take (k - f)]) := by
  have hk := (List.getElem?_eq_some_iff.1 hx).1
  rcases h with ⟨h1, h2, h3, h4⟩ | ⟨h1, _⟩
  · refine .inl ⟨by omega, by omega, ?_, fun j h5 h6 => by omega⟩
    have hi : Lib.indexByte (L.drop f) s = ((k - f : Nat) : Int) := by
      refine idx_at ?_ (fun j hj => ?_)
      · rw [List.getElem?_drop, show f + (k - f) = k from by omega]
        exact hx
      · rw [List.getElem?_drop]
        exact h4 (f + j) (by omega) (by omega)
    rw [prts_pos hi, List.drop_drop, show f + (k - f + 1) = k + 1 from by omega] at h3
    rw [List.append_assoc]
    exact h3
  · omega
theorem CTI.last {L : List UInt8} {s : UInt8} {f : Nat} {D : List (List UInt8)} (h : CTI L s f L.length D) : CTI L s (L.length + 1) (L.length + 1) (D ++ [(L.drop f).take (L.length - f)]) := by
  rcases h with ⟨h1, h2, h3, h4⟩ | ⟨h1, _⟩
  · refine .inr ⟨rfl, ?_⟩
    have hi : Lib.indexByte (L.drop f) s < 0 := by
      refine idx_no (fun j => ?_)
      rw [List.getElem?_drop]
      by_cases hj : f + j < L.length
      · exact h4 (f + j) (by omega) hj
      · rw [List.getElem?_eq_none (by omega)]
        simp
    rw [prts_neg hi] at h3
    rw [← h3, List.take_of_length_le (by simp)]
  · omega
theorem CTI.len {L : List UInt8} {s : UInt8} {f k : Nat} {D : List (List UInt8)} (h : CTI L s f k D) : D.length ≤ (prts s L).length := by
  rcases h with ⟨_, _, h3, _⟩ | ⟨_, h2⟩
  · have := congrArg List.length h3
    rw [List.length_append] at this
    omega
  · rw [h2]
    omega
theorem CTI.fk {L : List UInt8} {s : UInt8} {f k : Nat} {D : List (List UInt8)} (h : CTI L s f k D) (hk : k ≤ L.length) : f ≤ k := by
  rcases h with ⟨_, h2, _⟩ | ⟨h1, _⟩ <;> omega
theorem ext_mid (a : ByteArray) (f k : Nat) : a.extract f k = ⟨((a.data.toList.drop f).take (k - f)).toArray⟩ := by
  refine ByteArray.ext ?_
  rw [ByteArray.data_extract]
  refine Array.ext' ?_
  rw [Array.toList_extract]
end Go.Proofs.YtcejejiomhhpgaaGreatDoor
namespace Go.Proofs.YtcejejiomhhpgaaGreatDoor
open Go.RowKit Go.Shelf
/-- what one list of a term asks of the other term -/
def cvP (a : List UInt8 × List (List UInt8)) (n : List UInt8) : Bool := !(agB n a.1 && !a.2.any (fun y => wiB (mtT n a.1) y))
theorem cvC_eq (a b : List UInt8 × List (List UInt8)) : cvC a b = (wiB a.1 b.1 && b.2.all (cvP a)) := rfl
theorem all_yes2 {L : List (List UInt8)} {p : List UInt8 → Bool} {n : Nat} (hn : L.length ≤ n) (h : ∀ j t, j < n → L[j]? = some t → p t = true) : L.all p = true := by
  rw [List.all_eq_true]
  intro t ht
  obtain ⟨j, hj, he⟩ := List.getElem_of_mem ht
  exact h j t (by omega) (by rw [List.getElem?_eq_getElem hj, he])
end Go.Proofs.YtcejejiomhhpgaaGreatDoor
namespace Go.Proofs.YtcejejiomhhpgaaGreatDoor
open Go.RowKit Go.Shelf
theorem cmpLn_end {A B : List (List UInt8)} {k : Nat} (h : ¬ (k < A.length ∧ k < B.length)) (hk : k ≤ A.length) (hk2 : k ≤ B.length) : decide (cmpLn (A.drop k) (B.drop k) < 0) = decide (A.length < B.length) := by
  by_cases h1 : k < A.length
  · have e : B.drop k = [] := List.drop_eq_nil_of_le (by omega)
    rw [e, List.drop_eq_getElem_cons h1]
    have : ¬ A.length < B.length := by omega
    simp [cmpLn, this]
  · have e : A.drop k = [] := List.drop_eq_nil_of_le (by omega)
    rw [e]
    by_cases h2 : k < B.length
    · rw [List.drop_eq_getElem_cons h2]
      have : A.length < B.length := by omega
      simp [cmpLn, this]
    · rw [List.drop_eq_nil_of_le (by omega)]
      have : ¬ A.length < B.length := by omega
      simp [cmpLn, this]
end Go.Proofs.YtcejejiomhhpgaaGreatDoor
namespace Go.Proofs.YtcejejiomhhpgaaGreatDoor
open Go.RowKit Go.Shelf
theorem bys_byte (l : List UInt8) : Lib.byteCells l = bys l := rfl
theorem bys_app (a b : List UInt8) : bys (a ++ b) = bys a ++ bys b := by unfold bys; rw [List.map_append]
theorem bys_str (l : List UInt8) : Lib.strCells ⟨l.toArray⟩ = bys l := rfl
/-- what stands while the document's Text writes -/
def DXI (w2 wr : World) (v : Value) (l : List UInt8) : Prop := wr.ownsRow w2.heap.size 5 1 v l.length (bys l) ∧ Below w2.heap.size w2 wr
/-- a row of the document's terms lies there -/
def IRR (w : World) (p : Option Addr) (Z : List ZT) : Prop := ∀ W : World, Below w.heap.size w W → ∀ (k : Nat) (z : ZT), Z[k]? = some z → ∃ g o0, p = some ⟨g, o0, none⟩ ∧ W.cell? ⟨g, o0 + k * 2, none⟩ = some (.string ⟨z.c.toArray⟩) ∧ W.cell? ⟨g, o0 + k * 2 + 1, none⟩ = some (.slice z.q z.L.length z.k)
theorem IRR.later {w W : World} {p : Option Addr} {Z : List ZT} (h : IRR w p Z) (hb : Below w.heap.size w W) : IRR W p Z := fun X hX k t ht => h X (bel0 hb hX) k t ht
/-- a space of the document, as it is read -/
def RSR (W : World) (V : Value) (Ts : List (List UInt8 × List (List UInt8))) : Prop := ∃ (Z : List ZT) (p : Option Addr) (c : Nat), V = .slice p Z.length c ∧ Z.map ZT.cont = Ts ∧ IRR W p Z ∧ ∀ z ∈ Z, IRSt W z.q z.L
theorem RSR.later {w W : World} {V : Value} {Ts : List (List UInt8 × List (List UInt8))} (h : RSR w V Ts) (hb : Below w.heap.size w W) : RSR W V Ts := by
  obtain ⟨Z, p, c, h1, h2, h3, h4⟩ := h
  exact ⟨Z, p, c, h1, h2, h3.later hb, fun z hz => (h4 z hz).later hb⟩
theorem RSR_nil (W : World) : RSR W (.slice none 0 0) [] := ⟨[], none, 0, rfl, rfl, (fun _ _ k z h => by cases h), (fun z h => by cases h)⟩
theorem szC_step {Z : List ZT} {k : Nat} {z : ZT} (h : Z[k]? = some z) : szC ((Z.take (k + 1)).map ZT.cont) = szC ((Z.take k).map ZT.cont) + (1 + z.L.length) := by
  rw [List.take_add_one, h, List.map_append, szC_append]
  simp [szC, ZT.cont]
theorem szC_take (Z : List ZT) (k : Nat) : szC ((Z.take k).map ZT.cont) ≤ szC (Z.map ZT.cont) := by
  have e : Z.map ZT.cont = (Z.take k).map ZT.cont ++ (Z.drop k).map ZT.cont := by rw [← List.map_append, List.take_append_drop]
  rw [e, szC_append]
  omega
theorem bels2 {w w2 : World} {W : World} (hB : Below w.heap.size w w2) (h : Below w2.heap.size w2 W) (v0 v1 : Value) : Below w.heap.size w ((W.setCell ⟨w.heap.size, 0, none⟩ v0).setCell ⟨w.heap.size, 1, none⟩ v1) := ((bel0 hB h).setCell (Nat.le_refl _) _).setCell (Nat.le_refl _) _
end Go.Proofs.YtcejejiomhhpgaaGreatDoor
