import Derived.Test.YthlgjdadkmpbbaaDoorXBL
import Derived.Deep.OwnRows
namespace Go.Proofs.YthlgjdadkmpbbaaDoor
open Go.RowKit Go.Shelf
/-- a token, as anybody may write one -/
abbrev ITok := Int × List UInt8 × Int × Int
def icel (t : ITok) : List Value := [.int .i64 t.1, .string ⟨t.2.1.toArray⟩, .int .i64 t.2.2.1, .int .i64 t.2.2.2]
def iagg (t : ITok) : Value := .agg (icel t).toArray
/-- a row of tokens lies there, now and later -/
def IR (w : World) (o : Option Addr) (L : List ITok) : Prop := ∀ W : World, Below w.heap.size w W → ∀ k t, L[k]? = some t → ∃ g o0, o = some ⟨g, o0, none⟩ ∧ W.cell? ⟨g, o0 + k * 4, none⟩ = some (.int .i64 t.1) ∧ W.cell? ⟨g, o0 + k * 4 + 1, none⟩ = some (.string ⟨t.2.1.toArray⟩) ∧ W.cell? ⟨g, o0 + k * 4 + 2, none⟩ = some (.int .i64 t.2.2.1) ∧ W.cell? ⟨g, o0 + k * 4 + 3, none⟩ = some (.int .i64 t.2.2.2)
theorem IR.later {w w' : World} {o : Option Addr} {L : List ITok} (h : IR w o L) (hb : Below w.heap.size w w') : IR w' o L := fun W hW => h W (bel0 hb hW)
/-- the cells of a row of tokens -/
def iels (L : List ITok) : List Value := L.flatMap icel
theorem iels_len (L : List ITok) : (iels L).length = L.length * 4 := by
  unfold iels
  induction L with
  | nil => rfl
  | cons t L ih => rw [List.flatMap_cons, List.length_append, ih, List.length_cons]; show 4 + _ = _; omega
theorem iels_get (L : List ITok) : ∀ (k m : Nat), m < 4 → (iels L)[k * 4 + m]? = L[k]?.bind fun t => (icel t)[m]? := by
  induction L with
  | nil => intro k m _; simp [iels]
  | cons t L ih =>
    intro k m hm
    have e : iels (t :: L) = icel t ++ iels L := rfl
    rw [e]
    cases k with
    | zero =>
      rw [List.getElem?_append_left (by show 0 * 4 + m < 4; omega)]
      simp
    | succ k =>
      rw [List.getElem?_append_right (by show 4 ≤ _; omega), show (k + 1) * 4 + m - (icel t).length = k * 4 + m by show _ - 4 = _; omega, ih k m hm]
      simp
theorem iels_at {L : List ITok} {k : Nat} {t : ITok} (h : L[k]? = some t) : (iels L)[k * 4]? = some (.int .i64 t.1) ∧ (iels L)[k * 4 + 1]? = some (.string ⟨t.2.1.toArray⟩) ∧ (iels L)[k * 4 + 2]? = some (.int .i64 t.2.2.1) ∧ (iels L)[k * 4 + 3]? = some (.int .i64 t.2.2.2) := by
  have h0 := iels_get L k 0 (by decide)
  have h1 := iels_get L k 1 (by decide)
  have h2 := iels_get L k 2 (by decide)
  have h3 := iels_get L k 3 (by decide)
  rw [h] at h0 h1 h2 h3
  exact ⟨h0, h1, h2, h3⟩
theorem iels_set (L : List ITok) (k : Nat) (t : ITok) (hk : k < L.length) : ((((iels L).set (k * 4) (.int .i64 t.1)).set (k * 4 + 1) (.string ⟨t.2.1.toArray⟩)).set (k * 4 + 2) (.int .i64 t.2.2.1)).set (k * 4 + 3) (.int .i64 t.2.2.2) = iels (L.set k t) := by
  have hl := iels_len L
  apply List.ext_getElem?
  intro j
  obtain ⟨q, m, rfl, hm⟩ : ∃ q m, j = q * 4 + m ∧ m < 4 := ⟨j / 4, j % 4, by omega, by omega⟩
  rw [iels_get (L.set k t) q m hm]
  by_cases hq : q = k
  · subst hq
    rw [List.getElem?_set_self hk]
    have hc : m = 0 ∨ m = 1 ∨ m = 2 ∨ m = 3 := by omega
    rcases hc with rfl | rfl | rfl | rfl <;>
      (repeat rw [List.getElem?_set_ne (by omega)]) <;>
      (first | (rw [List.getElem?_set_self (by simp only [List.length_set]; omega)]; rfl) | (show (((iels L).set (q * 4) _))[q * 4]? = _; rw [List.getElem?_set_self (by omega)]; rfl))
  · rw [List.getElem?_set_ne (by omega), List.getElem?_set_ne (by omega), List.getElem?_set_ne (by omega), List.getElem?_set_ne (by omega), iels_get L q m hm, List.getElem?_set_ne (fun e => hq e.symm)]
abbrev zeroT : ITok := (0, [], 0, 0)
theorem iels_made (n : Nat) : (madeCells (Value.agg #[.int .i64 0, .string ⟨#[]⟩, .int .i64 0, .int .i64 0]).cells (n * 4)).toList = iels (List.replicate n zeroT) := by
  apply List.ext_getElem?
  intro j
  obtain ⟨q, m, rfl, hm⟩ : ∃ q m, j = q * 4 + m ∧ m < 4 := ⟨j / 4, j % 4, by omega, by omega⟩
  rw [iels_get _ q m hm]
  unfold madeCells
  by_cases hq : q < n
  · rw [List.getElem?_replicate, if_pos hq]
    have hc : m = 0 ∨ m = 1 ∨ m = 2 ∨ m = 3 := by omega
    have hj : q * 4 + m < n * 4 := by omega
    have e4 : (Value.agg #[.int .i64 0, .string ⟨#[]⟩, .int .i64 0, .int .i64 0]).cells = #[.int .i64 0, .string ⟨#[]⟩, .int .i64 0, .int .i64 0] := rfl
    rw [e4]
    have em : (q * 4 + m) % 4 = m := by omega
    simp only [Array.toList_map, Array.toList_range, List.getElem?_map, List.getElem?_range hj, Option.map_some]
    rcases hc with rfl | rfl | rfl | rfl <;> simp [em, icel]
  · rw [List.getElem?_eq_none (by simp; omega), List.getElem?_eq_none (by simp; omega)]
    rfl
def put4k (W : World) (g k : Nat) (t : ITok) : World :=
  (((W.setCell ⟨g, k * 4, none⟩ (.int .i64 t.1)).setCell ⟨g, k * 4 + 1, none⟩ (.string ⟨t.2.1.toArray⟩)).setCell ⟨g, k * 4 + 2, none⟩ (.int .i64 t.2.2.1)).setCell ⟨g, k * 4 + 3, none⟩ (.int .i64 t.2.2.2)
theorem gr_trans {w w1 w2 : World} {r : Option Nat} (h1 : w.grownBy w1 r) (h2 : w1.grownBy w2 r) : w.grownBy w2 r :=
  ⟨h2.os.trans h1.os, h2.tape.trans h1.tape, h2.output.trans h1.output, Nat.le_trans h1.size h2.size, fun k hk hr => (h2.block k (Nat.lt_of_lt_of_le hk h1.size) hr).trans (h1.block k hk hr)⟩
theorem put4k_own {W : World} {B g n c k : Nat} {K : List ITok} (t : ITok) (h : W.ownsRow B 29 4 (.slice (some ⟨g, 0, none⟩) n c) n (iels K)) (hk : k < K.length) :
    (put4k W g k t).ownsRow B 29 4 (.slice (some ⟨g, 0, none⟩) n c) n (iels (K.set k t)) ∧ W.grownBy (put4k W g k t) (some g) := by
  have s0 := h.stored (k * 4) (.int .i64 t.1)
  have s1 := s0.1.stored (k * 4 + 1) (.string ⟨t.2.1.toArray⟩)
  have s2 := s1.1.stored (k * 4 + 2) (.int .i64 t.2.2.1)
  have s3 := s2.1.stored (k * 4 + 3) (.int .i64 t.2.2.2)
  rw [← iels_set K k t hk]
  exact ⟨s3.1, gr_trans s0.2 (gr_trans s1.2 (gr_trans s2.2 s3.2))⟩
/-- what is held of an owned row's token -/
theorem itok_cell {W : World} {B g n c : Nat} {K : List ITok} (h : W.ownsRow B 29 4 (.slice (some ⟨g, 0, none⟩) n c) n (iels K)) {k : Nat} {t : ITok} (ht : K[k]? = some t) :
    W.cell? ⟨g, k * 4, none⟩ = some (.int .i64 t.1) ∧ W.cell? ⟨g, k * 4 + 1, none⟩ = some (.string ⟨t.2.1.toArray⟩) ∧ W.cell? ⟨g, k * 4 + 2, none⟩ = some (.int .i64 t.2.2.1) ∧ W.cell? ⟨g, k * 4 + 3, none⟩ = some (.int .i64 t.2.2.2) := by
  have hl : K.length = n := by
    have := h.1
    rw [iels_len] at this
    omega
  have hk := (List.getElem?_eq_some_iff.1 ht).1
  obtain ⟨a0, a1, a2, a3⟩ := iels_at ht
  exact ⟨(h.cellAt _ (by omega)).trans a0, (h.cellAt _ (by omega)).trans a1, (h.cellAt _ (by omega)).trans a2, (h.cellAt _ (by omega)).trans a3⟩
/-- a row that is owned lies there, now and later -/
theorem IR_own {W : World} {B g n c : Nat} {K L : List ITok} (h : W.ownsRow B 29 4 (.slice (some ⟨g, 0, none⟩) n c) n (iels K)) (hL : ∀ (k : Nat) (t : ITok), L[k]? = some t → K[k]? = some t) : IR W (some ⟨g, 0, none⟩) L := fun W' hW k t ht => by
  obtain ⟨a0, a1, a2, a3⟩ := itok_cell (owns_below h hW) (hL k t ht)
  exact ⟨g, 0, rfl, by rw [Nat.zero_add]; exact a0, by rw [Nat.zero_add]; exact a1, by rw [Nat.zero_add]; exact a2, by rw [Nat.zero_add]; exact a3⟩
theorem fill_set (L : List ITok) (k m : Nat) {t : ITok} (ht : L[k]? = some t) : (L.take k ++ List.replicate (m + 1) zeroT).set k t = L.take (k + 1) ++ List.replicate m zeroT := by
  obtain ⟨hk, e⟩ := List.getElem?_eq_some_iff.1 ht
  have hl : (L.take k).length = k := by rw [List.length_take]; omega
  rw [List.set_append_right _ _ (by omega), hl, Nat.sub_self, List.replicate_succ, List.set_cons_zero, List.take_add_one, ht, List.append_assoc]
  rfl
set_option maxRecDepth 100000 in
set_option maxHeartbeats 2000000 in
theorem sameI_any (t : ITok) (w : World) :
    Calls Tryd.prog 7 #[iagg t, iagg t] w fun e w' => e = .returned (.bool true) ∧ Below w.heap.size w w' := by
  obtain ⟨a, b, c, d⟩ := t
  show Calls Tryd.prog 7 #[.agg #[.int .i64 a, .string ⟨b.toArray⟩, .int .i64 c, .int .i64 d], .agg #[.int .i64 a, .string ⟨b.toArray⟩, .int .i64 c, .int .i64 d]] w _
  go_enter Tryd.func7, Tryd.ntmps7
  go_wp2_with fail
  go_ret
  exact ⟨rfl, ((Below.refl _ _).alloc (Nat.le_refl _) _).alloc (by simp) _⟩
set_option maxRecDepth 100000 in
set_option maxHeartbeats 2000000 in
theorem sameAllI_any (D : List ITok) (o1 o2 : Option Addr) (c1 c2 : Nat) (w : World) (hL : D.length ≤ 281474976710656) (h1 : IR w o1 D) (h2 : IR w o2 D) :
    Calls Tryd.prog 5 #[.slice o1 D.length c1, .slice o2 D.length c2] w fun e w' => e = .returned (.bool true) ∧ Below w.heap.size w w' := by
  have x1 : Hid (IR w o1 D) := h1
  have x2 : Hid (IR w o2 D) := h2
  clear h1 h2
  go_enter Tryd.func5, Tryd.ntmps5
  go_wp2_with fail
  go_loopw [5] (fun i wr => ∃ k : Nat, k ≤ D.length ∧ i = .int .i64 k ∧ Below w.heap.size w wr) (fun i _ => D.length - (intOf i).toNat)
  case atStart => exact ⟨0, Nat.zero_le _, rfl, Below.refl _ _⟩
  case round =>
    obtain ⟨k, hk, rfl, hB⟩ := hrel
    by_cases hlt : k < D.length
    · have j1 : (k : Int) < (D.length : Int) := by omega
      have j0 : (0 : Int) ≤ (k : Int) := by omega
      obtain ⟨t, ht⟩ : ∃ t, D[k]? = some t := ⟨_, List.getElem?_eq_getElem hlt⟩
      obtain ⟨G1, Q1, rfl, -⟩ := x1.out w (Below.refl _ _) k t ht
      obtain ⟨G2, Q2, rfl, -⟩ := x2.out w (Below.refl _ _) k t ht
      have X1 : Hid (∀ W, Below w.heap.size w W → W.cell? ⟨G1, Q1 + k * 4, none⟩ = some (.int .i64 t.1) ∧ W.cell? ⟨G1, Q1 + k * 4 + 1, none⟩ = some (.string ⟨t.2.1.toArray⟩) ∧ W.cell? ⟨G1, Q1 + k * 4 + 2, none⟩ = some (.int .i64 t.2.2.1) ∧ W.cell? ⟨G1, Q1 + k * 4 + 3, none⟩ = some (.int .i64 t.2.2.2)) := fun W hW => by
        obtain ⟨g2, q2, e, h⟩ := x1.out W hW k t ht
        injection e with e
        injection e with e1 e2
        subst e1 e2
        exact h
      have X2 : Hid (∀ W, Below w.heap.size w W → W.cell? ⟨G2, Q2 + k * 4, none⟩ = some (.int .i64 t.1) ∧ W.cell? ⟨G2, Q2 + k * 4 + 1, none⟩ = some (.string ⟨t.2.1.toArray⟩) ∧ W.cell? ⟨G2, Q2 + k * 4 + 2, none⟩ = some (.int .i64 t.2.2.1) ∧ W.cell? ⟨G2, Q2 + k * 4 + 3, none⟩ = some (.int .i64 t.2.2.2)) := fun W hW => by
        obtain ⟨g2, q2, e, h⟩ := x2.out W hW k t ht
        injection e with e
        injection e with e1 e2
        subst e1 e2
        exact h
      clear x1 x2
      go_wp2_with fail
      refine quiet_lit3 (C := fun W => Below w.heap.size w W) (by kernel_rfl) (by kernel_rfl) (show Below _ _ _ from hB.drew) ?_
      go_big_quiet_want
      go_big_quiet_op
      go_big_quiet_on
      go_big_quiet_want
      go_big_quiet_op
      go_big_quiet_on
      go_big_quiet_want
      refine ⟨.pointer (some ⟨G1, Q1 + k * 4, none⟩), fun W hW => ?_, ?_⟩
      · go_simp
      go_big_quiet_on
      simp only [Act.put, List.setIfInBounds_toArray, List.set_cons_zero, List.set_cons_succ]
      go_big_quiet_want
      refine ⟨iagg t, fun W hW => ?_, ?_⟩
      · obtain ⟨p0, p1, p2, p3⟩ := X1.out W hW
        go_simp
        rfl
      go_big_quiet_on
      simp only [Act.put, List.setIfInBounds_toArray, List.set_cons_zero, List.set_cons_succ]
      go_big_quiet_want
      go_big_quiet_op
      go_big_quiet_on
      go_big_quiet_want
      go_big_quiet_op
      go_big_quiet_on
      go_big_quiet_want
      refine ⟨.pointer (some ⟨G2, Q2 + k * 4, none⟩), fun W hW => ?_, ?_⟩
      · go_simp
      go_big_quiet_on
      simp only [Act.put, List.setIfInBounds_toArray, List.set_cons_zero, List.set_cons_succ]
      go_big_quiet_want
      refine ⟨iagg t, fun W hW => ?_, ?_⟩
      · obtain ⟨p0, p1, p2, p3⟩ := X2.out W hW
        go_simp
        rfl
      go_big_quiet_on
      simp only [Act.put, List.setIfInBounds_toArray, List.set_cons_zero, List.set_cons_succ]
      go_big_quiet_want
      refine ⟨.bool true, fun W hW => ?_, ?_⟩
      · go_simp
        refine (sameI_any t W).mono ?_
        rintro e w7 ⟨rfl, hb⟩
        exact ⟨rfl, bel0 hW hb⟩
      go_big_quiet_on
      simp only [Act.put, List.setIfInBounds_toArray, List.set_cons_zero, List.set_cons_succ]
      go_big_quiet_want
      refine ⟨.bool false, fun W hW => ?_, ?_⟩
      · go_simp
      go_big_quiet_on
      simp only [Act.put, List.setIfInBounds_toArray, List.set_cons_zero, List.set_cons_succ]
      refine wpQuiet_nil ?_
      intro W hW
      go_wp2_with fail
      go_roundw
      case rel => exact ⟨k + 1, by omega, by go_num, hW⟩
      case measure => simp [intOf]; omega
    · have j1 : ¬ (k : Int) < (D.length : Int) := by omega
      go_wp2_with fail
      go_ret
      exact ⟨rfl, hB⟩
/-- the mark of a number -/
def markT (n : Int) : ITok := (100 + n, [109, 97, 114, 107], n, -n)
theorem res_mark (tmps : Array Value) (W : World) (b : Nat) (a : Int) (x : List UInt8) (c d : Int) (hp : tmps.getD 2 undef = .pointer (some ⟨b, 0, none⟩)) (h : W.heap[b]? = some (.cells #[.int .i64 a, .string ⟨x.toArray⟩, .int .i64 c, .int .i64 d] 29)) :
    (results Tryd.f6 tmps).run Tryd.prog W = .ok (iagg (a, x, c, d)) W := by
  have hc : ∀ j, W.cell? ⟨b, j, none⟩ = (#[.int .i64 a, .string ⟨x.toArray⟩, .int .i64 c, .int .i64 d] : Array Value)[j]? := by
    intro j; unfold World.cell?; rw [h]; simp
  have hp' : tmps[2]?.getD undef = .pointer (some ⟨b, 0, none⟩) := by simpa using hp
  simp [results, hp', go_sem, hc]
  rfl
theorem flat_cons (ln : List KT) (Ls : List (List KT)) : flat (ln :: Ls) = ln ++ (1, [10]) :: flat Ls := by
  unfold flat
  simp
theorem totLs_cons (ln : List KT) (Ls : List (List KT)) : totLs (ln :: Ls) = totL ln + totLs Ls := by unfold totLs; simp
theorem len_line2 : ∀ (ln : List KT), goodL ln → ln.length ≤ totL ln
  | [], _ => Nat.le_refl _
  | t :: ln, hg => by
    have ht := (hg t (by simp)).1
    have e : totL (t :: ln) = t.2.length + totL ln := by unfold totL; simp
    have i1 := len_line2 ln (fun u hu => hg u (by simp [hu]))
    simp only [List.length_cons]
    omega
theorem len_ls2 : ∀ (Ls : List (List KT)), goodLs Ls → (flat Ls).length ≤ 2 * totLs Ls
  | [], _ => by simp [flat]
  | ln :: Ls, hg => by
    obtain ⟨hne, hgl⟩ := hg ln (by simp)
    have i1 := len_ls2 Ls (fun x hx => hg x (by simp [hx]))
    have j1 := len_line2 ln hgl
    have h1 : 0 < ln.length := List.length_pos_iff.2 hne
    rw [totLs_cons, flat_cons]
    simp only [List.length_append, List.length_cons]
    omega
theorem scan_most (l : List UInt8) : (scanM l).1.length ≤ 65536 := by
  by_cases hs : l.length ≤ 16384
  · by_cases he : (scanM l).2.1 = 0
    · obtain ⟨Ls, h1, h2, h3⟩ := scan_ls l hs he
      have h4 := len_ls2 Ls h2
      rw [← h1] at h4
      unfold kt at h4
      rw [List.length_map] at h4
      omega
    · rw [(scan_done l hs).2 he]
      simp
  · unfold scanM
    rw [if_pos (by omega)]
    simp
end Go.Proofs.YthlgjdadkmpbbaaDoor
