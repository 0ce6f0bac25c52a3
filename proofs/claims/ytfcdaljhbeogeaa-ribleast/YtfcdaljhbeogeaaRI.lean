import Derived.Test.YtfcdaljhbeogeaaRH
import Derived.Test.YtfcdaljhbeogeaaBX
namespace Go.Proofs.Ytfcdaljhbeogeaa
open Go.RowKit
theorem gF_at {F : List Int} {v : Nat} (h : v < F.length) : F[v]? = some (gF F v) := by unfold gF; simp [List.getD, List.getElem?_eq_getElem h]
theorem iv_len {W : World} {B n c : Nat} {o : Option Addr} {V : List Int} (h : W.ownsRow B 3 1 (.slice o n c) n (iv V)) : V.length = n := by
  have := h.1
  unfold iv at this
  rw [List.length_map] at this
  omega
/-- a row that lies below is as it was -/
theorem own_bel {w W : World} {B b e sz n : Nat} {v : Value} {xs : List Value} (h : w.ownsRow b e sz v n xs) (hb : Below B w W) (hl : ∀ k, v.ownBlock = some k → k < B) : W.ownsRow b e sz v n xs := by
  refine ⟨h.1, ?_⟩
  rcases h.2 with hh | ⟨g, c, cur, rfl, h2, h3, r⟩
  · exact .inl hh
  · exact .inr ⟨g, c, cur, rfl, h2, (hb.block g (hl g rfl)).trans h3, r⟩
theorem bel_set2 {B : Nat} {a b : World} (h : Below B a b) (p : Addr) (u : Value) : Below B (a.setCell p u) (b.setCell p u) := by
  refine ⟨h.os, h.tape, h.output, by rw [size_set, size_set]; exact h.size, fun k hk => ?_⟩
  by_cases e : k = p.block
  · subst e
    have := h.block p.block hk
    simp only [World.setCell, Array.getElem?_modify, if_pos, this]
  · rw [heap_setCell_other _ p k u e, heap_setCell_other _ p k u e]
    exact h.block k hk
/-- the heap of nodes in lengths -/
def XF (w0 : World) (B gf N : Nat) : HX := { w0 := w0, B := B, hb := B, ho := 1, cs := #[.slice (some ⟨gf, 0, none⟩) N N, .slice none 0 0, .func (.func 46) #[.slice (some ⟨gf, 0, none⟩) N N] #[]], t := 72, K := 46, rv := .slice (some ⟨gf, 0, none⟩) N N, I := fun _ => True }
theorem XF_ok {w0 : World} {B gf N : Nat} (hB : B ≤ w0.heap.size) : HC (XF w0 B gf N) where
  bs := hB
  bB := Nat.le_refl _
  i0 := by show (1 : Nat) < 3; omega
  f1 := rfl
  ty := by show (72 : Nat) ≠ 3; decide
  cf := fun args W => rcf_enter Try.func46 (by kernel_rfl) rfl args W
  iK := fun _ _ _ _ => trivial
set_option maxRecDepth 100000 in
theorem isBelow_any (a b : Int) (w : World) : Calls Try.prog 45 #[.int .i64 a, .int .i64 b] w fun e w' => e = .returned (.bool (decide (0 ≤ a ∧ a < b))) ∧ w' = w := by
  by_cases h0 : 0 ≤ a
  · by_cases h1 : a < b
    · rw [decide_eq_true ⟨h0, h1⟩]
      go_enter Try.func45, Try.ntmps45
      go_wp2_with fail
      go_ret
      exact ⟨rfl, rfl⟩
    · rw [decide_eq_false (fun h => h1 h.2)]
      go_enter Try.func45, Try.ntmps45
      go_wp2_with fail
      go_ret
      exact ⟨rfl, rfl⟩
  · rw [decide_eq_false (fun h => h0 h.1)]
    go_enter Try.func45, Try.ntmps45
    go_wp2_with fail
    go_ret
    exact ⟨rfl, rfl⟩
set_option maxRecDepth 100000 in
set_option maxHeartbeats 1000000 in
theorem nearer_any {W : World} {wb gf N : Nat} {F : List Int} (hF : W.ownsRow wb 3 1 (.slice (some ⟨gf, 0, none⟩) N N) N (iv F)) {a b : Nat} (ha : a < N) (hb : b < N) : Calls Try.prog 46 #[.slice (some ⟨gf, 0, none⟩) N N, .int .i64 (a : Int), .int .i64 (b : Int)] W fun e w' => e = .returned (.bool (ltF F a b)) ∧ Below W.heap.size W w' := by
  have hl := iv_len hF
  have HL : Hid (∀ W1, Below W.heap.size W W1 → W1.cell? ⟨gf, a, none⟩ = some (.int .i64 (gF F a)) ∧ W1.cell? ⟨gf, b, none⟩ = some (.int .i64 (gF F b))) := fun W1 hW => by
    have h1 := owns_below hF hW
    exact ⟨iv_at h1 (gF_at (by omega)), iv_at h1 (gF_at (by omega))⟩
  have j0 : (0 : Int) ≤ (a : Int) := by omega
  have j1 : (a : Int) < (N : Int) := by omega
  have j2 : (0 : Int) ≤ (b : Int) := by omega
  have j3 : (b : Int) < (N : Int) := by omega
  unfold ltF
  obtain ⟨x, hx⟩ : ∃ x, gF F a = x := ⟨_, rfl⟩
  obtain ⟨y, hy⟩ : ∃ y, gF F b = y := ⟨_, rfl⟩
  rw [hx, hy] at HL
  rw [hx, hy]
  clear hF hl hx hy
  by_cases h : x < y
  · rw [decide_eq_true h]
    go_enter Try.func46, Try.ntmps46
    go_wp2_with fail
    refine quiet_lit3 (C := fun W1 => Below W.heap.size W W1) (by kernel_rfl) (by kernel_rfl) (show Below _ _ _ from (Below.refl _ _).drew) ?_
    go_big_quiet_want
    go_big_quiet_op
    go_big_quiet_on
    go_big_quiet_want
    go_big_quiet_op
    go_big_quiet_on
    go_big_quiet_want
    refine ⟨.pointer (some ⟨gf, a, none⟩), fun W hW => ?_, ?_⟩
    · go_simp
    go_big_quiet_on
    simp only [Act.put, List.setIfInBounds_toArray, List.set_cons_zero, List.set_cons_succ]
    go_big_quiet_want
    refine ⟨.int .i64 x, fun W hW => ?_, ?_⟩
    · obtain ⟨z0, z1⟩ := HL.out W hW
      go_simp
    go_big_quiet_on
    simp only [Act.put, List.setIfInBounds_toArray, List.set_cons_zero, List.set_cons_succ]
    go_big_quiet_want
    go_big_quiet_op
    go_big_quiet_on
    go_big_quiet_want
    go_big_quiet_op
    go_big_quiet_on
    go_big_quiet_want
    refine ⟨.pointer (some ⟨gf, b, none⟩), fun W hW => ?_, ?_⟩
    · go_simp
    go_big_quiet_on
    simp only [Act.put, List.setIfInBounds_toArray, List.set_cons_zero, List.set_cons_succ]
    go_big_quiet_want
    refine ⟨.int .i64 y, fun W hW => ?_, ?_⟩
    · obtain ⟨z0, z1⟩ := HL.out W hW
      go_simp
    go_big_quiet_on
    simp only [Act.put, List.setIfInBounds_toArray, List.set_cons_zero, List.set_cons_succ]
    go_big_quiet_want
    refine ⟨.bool true, fun W hW => ?_, ?_⟩
    · go_simp
    go_big_quiet_on
    simp only [Act.put, List.setIfInBounds_toArray, List.set_cons_zero, List.set_cons_succ]
    go_big_quiet_want
    go_big_quiet_op
    go_big_quiet_on
    refine wpQuiet_nil ?_
    intro W hW
    go_wp2_with fail
    go_ret
    exact ⟨rfl, hW⟩
  · rw [decide_eq_false h]
    go_enter Try.func46, Try.ntmps46
    go_wp2_with fail
    refine quiet_lit3 (C := fun W1 => Below W.heap.size W W1) (by kernel_rfl) (by kernel_rfl) (show Below _ _ _ from (Below.refl _ _).drew) ?_
    go_big_quiet_want
    go_big_quiet_op
    go_big_quiet_on
    go_big_quiet_want
    go_big_quiet_op
    go_big_quiet_on
    go_big_quiet_want
    refine ⟨.pointer (some ⟨gf, a, none⟩), fun W hW => ?_, ?_⟩
    · go_simp
    go_big_quiet_on
    simp only [Act.put, List.setIfInBounds_toArray, List.set_cons_zero, List.set_cons_succ]
    go_big_quiet_want
    refine ⟨.int .i64 x, fun W hW => ?_, ?_⟩
    · obtain ⟨z0, z1⟩ := HL.out W hW
      go_simp
    go_big_quiet_on
    simp only [Act.put, List.setIfInBounds_toArray, List.set_cons_zero, List.set_cons_succ]
    go_big_quiet_want
    go_big_quiet_op
    go_big_quiet_on
    go_big_quiet_want
    go_big_quiet_op
    go_big_quiet_on
    go_big_quiet_want
    refine ⟨.pointer (some ⟨gf, b, none⟩), fun W hW => ?_, ?_⟩
    · go_simp
    go_big_quiet_on
    simp only [Act.put, List.setIfInBounds_toArray, List.set_cons_zero, List.set_cons_succ]
    go_big_quiet_want
    refine ⟨.int .i64 y, fun W hW => ?_, ?_⟩
    · obtain ⟨z0, z1⟩ := HL.out W hW
      go_simp
    go_big_quiet_on
    simp only [Act.put, List.setIfInBounds_toArray, List.set_cons_zero, List.set_cons_succ]
    go_big_quiet_want
    refine ⟨.bool false, fun W hW => ?_, ?_⟩
    · go_simp
    go_big_quiet_on
    simp only [Act.put, List.setIfInBounds_toArray, List.set_cons_zero, List.set_cons_succ]
    go_big_quiet_want
    go_big_quiet_op
    go_big_quiet_on
    refine wpQuiet_nil ?_
    intro W hW
    go_wp2_with fail
    go_ret
    exact ⟨rfl, hW⟩
theorem XF_fa {w0 : World} {wb B gf N : Nat} {F : List Int} (hF : w0.ownsRow wb 3 1 (.slice (some ⟨gf, 0, none⟩) N N) N (iv F)) (hg : gf < B) : FA (XF w0 B gf N) (ltF F) N := fun a b W hW ha hb =>
  nearer_any (own_bel hF hW (fun k e => by have e' : gf = k := (by injection e); show k < B; omega)) ha hb
set_option maxRecDepth 100000 in
set_option maxHeartbeats 1000000 in
theorem index_any {W : World} {B : Nat} {o : Option Addr} {c n : Nat} {V : List Nat} (h : W.ownsRow B 3 1 (.slice o V.length c) V.length (V.map nv)) (hn : n ∈ V) (hl : V.length ≤ 65536) : Calls Try.prog 64 #[.slice o V.length c, .int .i64 (n : Int)] W fun e w' => ∃ k : Nat, e = .returned (.int .i64 (k : Int)) ∧ V[k]? = some n ∧ w' = W := by
  obtain ⟨k0, hk0⟩ := List.getElem?_of_mem hn
  have hp := (List.getElem?_eq_some_iff.1 hk0).1
  obtain ⟨g, rfl⟩ := rown_at h (by omega)
  have HC : Hid (∀ i x : Nat, V[i]? = some x → W.cell? ⟨g, i, none⟩ = some (.int .i64 (x : Int))) := fun i x hx => by
    have := (List.getElem?_eq_some_iff.1 hx).1
    exact (h.cellAt i (by omega)).trans (nv_get hx)
  have HK : Hid (V[k0]? = some n) := hk0
  obtain ⟨m, hm⟩ : ∃ m, V.length = m := ⟨_, rfl⟩
  have HM : Hid (V.length = m) := hm
  rw [hm] at hl hp ⊢
  clear h hn hk0 hm
  go_enter Try.func64, Try.ntmps64
  go_wp2_with fail
  go_loopw [8] (fun vi wr => ∃ i : Nat, vi = .int .i64 (i : Int) ∧ i ≤ k0 ∧ wr = W) (fun vi _ => m - (intOf vi).toNat)
  case atStart => exact ⟨0, rfl, Nat.zero_le _, rfl⟩
  case round =>
    obtain ⟨i, rfl, hi, rfl⟩ := hrel
    have j0 : (0 : Int) ≤ (i : Int) := by omega
    have j1 : (i : Int) < (m : Int) := by omega
    obtain ⟨x, hx⟩ : ∃ x, V[i]? = some x := ⟨_, List.getElem?_eq_getElem (by rw [HM.out]; omega)⟩
    have p0 := HC.out i x hx
    by_cases e : n = x
    · subst e
      have e1 : ((n : Int) == (n : Int)) = true := beq_self_eq_true _
      have HX : Hid (V[i]? = some n) := hx
      clear hx
      go_wp2_with fail
      go_ret
      exact ⟨i, rfl, HX.out, rfl⟩
    · have e1 : ((n : Int) == (x : Int)) = false := beq_eq_false_iff_ne.2 (by omega)
      have hne : i ≠ k0 := fun h => e (by rw [h, HK.out] at hx; exact Option.some.inj hx)
      clear hx
      go_wp2_with fail
      go_roundw
      case rel => exact ⟨i + 1, by go_num, by omega, by first | rfl | trivial⟩
      case measure => simp [intOf]; omega
set_option maxRecDepth 100000 in
set_option maxHeartbeats 1000000 in
theorem hasten_any {X : HX} (C : HC X) {lt : Nat → Nat → Bool} (S : SWO lt) {N : Nat} (F : FA X lt N) {W : World} {v : Value} {V : List Nat} (h : HS X W v V) (hV : ∀ x ∈ V, x < N) (hl : V.length ≤ 65536) {n : Nat} (hn : n ∈ V) (hr : ∀ k, V[k]? = some n → HR lt V k) : Calls Try.prog 58 #[.pointer (some ⟨X.hb, X.ho, none⟩), .int .i64 (n : Int)] W fun e w' => e = .returned (.tuple #[]) ∧ ∃ V', V'.Perm V ∧ hp lt V' ∧ HS X w' v V' := by
  have hc := h.c0 C
  obtain ⟨q, c, rfl⟩ := shapeP h.own
  have HIX : Hid (Calls Try.prog 64 #[.slice q V.length c, .int .i64 (n : Int)] W fun e w' => ∃ k : Nat, e = .returned (.int .i64 (k : Int)) ∧ V[k]? = some n ∧ w' = W) := index_any h.own hn hl
  have HRI : Hid (∀ k : Nat, V[k]? = some n → Calls Try.prog 63 #[.pointer (some ⟨X.hb, X.ho, none⟩), .int .i64 (k : Int)] W fun e w' => e = .returned (.tuple #[]) ∧ ∃ V', V'.Perm V ∧ hp lt V' ∧ HS X w' (.slice q V.length c) V') := fun k hk => hrise_any C S F h hV hl (List.getElem?_eq_some_iff.1 hk).1 (hr k hk)
  clear h F S C hV hr hn
  go_enter Try.func58, Try.ntmps58
  go_wp2_with fail
  refine HIX.out.mono ?_
  rintro e W1 ⟨k, rfl, hk, rfl⟩
  have HRK := HRI.out k hk
  go_wp2_with fail
  refine HRK.mono ?_
  rintro e W2 ⟨rfl, a⟩
  go_wp2_with fail
  go_end0
  exact ⟨rfl, a⟩
theorem HS.far {w0 W : World} {B gf N n : Nat} {v u : Value} {V : List Nat} (h : HS (XF w0 B gf N) W v V) (hg : gf < B) : HS (XF (w0.setCell ⟨gf, n, none⟩ u) B gf N) (W.setCell ⟨gf, n, none⟩ u) v V := by
  refine ⟨(heap_setCell_other W ⟨gf, n, none⟩ B u (by show B ≠ gf; omega)).trans h.blk, ownsRow_setCell_other h.own (a := ⟨gf, n, none⟩) (fun e => ?_) u, bel_set2 h.bel _ _, trivial⟩
  have := (h.own.lt gf e).1
  change B ≤ gf at this
  omega
set_option maxRecDepth 100000 in
set_option maxHeartbeats 2000000 in
theorem come_any {w0 W : World} {wb B gf N : Nat} {F : List Int} {v : Value} {V : List Nat} (hF : w0.ownsRow wb 3 1 (.slice (some ⟨gf, 0, none⟩) N N) N (iv F)) (hg : gf < B) (hB : B ≤ w0.heap.size) (h : HS (XF w0 B gf N) W v V) (hh : hp (ltF F) V) (hV : ∀ x ∈ V, x < N) (hnd : V.Nodup) (hl : V.length ≤ 65535) {n : Nat} {l : Int} (hn : n < N) (h1 : gF F n < 0 → n ∉ V) (h2 : 0 ≤ gF F n → l < gF F n → n ∈ V) :
    Calls Try.prog 47 #[.pointer (some ⟨B, 0, none⟩), .int .i64 (n : Int), .int .i64 l] W fun e w' => e = .returned (.tuple #[]) ∧ ∃ (w1 : World) (v' : Value) (V' : List Nat), V'.Perm (if gF F n < 0 then V ++ [n] else V) ∧ hp (ltF (if gF F n < 0 ∨ l < gF F n then F.set n l else F)) V' ∧ HS (XF w1 B gf N) w' v' V' ∧ w1.ownsRow wb 3 1 (.slice (some ⟨gf, 0, none⟩) N N) N (iv (if gF F n < 0 ∨ l < gF F n then F.set n l else F)) ∧ B ≤ w1.heap.size ∧ Below wb w0 w1 := by
  have hFl := iv_len hF
  have hFW : W.ownsRow wb 3 1 (.slice (some ⟨gf, 0, none⟩) N N) N (iv F) := own_bel hF h.bel (fun k e => by have e' : gf = k := (by injection e); show k < B; omega)
  have c0 : W.cell? ⟨B, 0, none⟩ = some (.slice (some ⟨gf, 0, none⟩) N N) := (cell_of_row W B 0 _ _ _ h.blk).trans rfl
  have p0 := iv_at hFW (gF_at (F := F) (v := n) (by omega))
  have z0 := hFW.frozenAt n
  have j0 : (0 : Int) ≤ (n : Int) := by omega
  have j1 : (n : Int) < (N : Int) := by omega
  have wbg := (hF.lt gf rfl).1
  have hs0 := hF.stored n (.int .i64 l)
  rw [iv_set] at hs0
  have hB1 : B ≤ (w0.setCell ⟨gf, n, none⟩ (.int .i64 l)).heap.size := by rw [size_set]; exact hB
  have hbl : Below wb w0 (w0.setCell ⟨gf, n, none⟩ (.int .i64 l)) := (Below.refl _ _).setCell (p := ⟨gf, n, none⟩) wbg _
  have h3 := h.far (n := n) (u := .int .i64 l) hg
  have FA3 := XF_fa (B := B) hs0.1 hg
  by_cases c1 : gF F n < 0
  · simp only [if_pos c1, if_pos (show gF F n < 0 ∨ l < gF F n from .inl c1)]
    have HPT : Hid (Calls Try.prog 52 #[.pointer (some ⟨B, 1, none⟩), .int .i64 (n : Int)] (W.setCell ⟨gf, n, none⟩ (.int .i64 l)) fun e w' => e = .returned (.tuple #[]) ∧ ∃ v' V', V'.Perm (V ++ [n]) ∧ hp (ltF (F.set n l)) V' ∧ HS (XF (w0.setCell ⟨gf, n, none⟩ (.int .i64 l)) B gf N) w' v' V') := hput_any (XF_ok hB1) (ltF_swo _) FA3 h3 (hp_other (by omega) hh (h1 c1)) hV hl hn
    have c2 : (W.setCell ⟨gf, n, none⟩ (.int .i64 l)).cell? ⟨B, 0, none⟩ = some (.slice (some ⟨gf, 0, none⟩) N N) := (cell_of_row _ B 0 _ _ _ h3.blk).trans rfl
    have HS0 : Hid ((w0.setCell ⟨gf, n, none⟩ (.int .i64 l)).ownsRow wb 3 1 (.slice (some ⟨gf, 0, none⟩) N N) N (iv (F.set n l)) ∧ B ≤ (w0.setCell ⟨gf, n, none⟩ (.int .i64 l)).heap.size ∧ Below wb w0 (w0.setCell ⟨gf, n, none⟩ (.int .i64 l))) := ⟨hs0.1, hB1, hbl⟩
    obtain ⟨x, hx⟩ : ∃ x, gF F n = x := ⟨_, rfl⟩
    rw [hx] at p0 c1
    clear h hF hFW hs0 h3 FA3 hh hV hnd h1 h2 hx hbl hB1 hFl
    go_enter Try.func47, Try.ntmps47
    go_wp2_with fail
    refine HPT.out.mono ?_
    rintro e W2 ⟨rfl, v2, V2, a1, a2, a3⟩
    go_wp2_with fail
    go_end0
    exact ⟨rfl, _, v2, V2, a1, a2, a3, HS0.out.1, HS0.out.2.1, HS0.out.2.2⟩
  · simp only [if_neg c1]
    by_cases c3 : l < gF F n
    · simp only [if_pos (show gF F n < 0 ∨ l < gF F n from .inr c3)]
      have HPT : Hid (Calls Try.prog 58 #[.pointer (some ⟨B, 1, none⟩), .int .i64 (n : Int)] (W.setCell ⟨gf, n, none⟩ (.int .i64 l)) fun e w' => e = .returned (.tuple #[]) ∧ ∃ V', V'.Perm V ∧ hp (ltF (F.set n l)) V' ∧ HS (XF (w0.setCell ⟨gf, n, none⟩ (.int .i64 l)) B gf N) w' v V') := hasten_any (XF_ok hB1) (ltF_swo _) FA3 h3 hV (by omega) (h2 (by omega) c3) (fun k hk => HR_fall (by omega) hh hnd hk c3)
      have HS0 : Hid ((w0.setCell ⟨gf, n, none⟩ (.int .i64 l)).ownsRow wb 3 1 (.slice (some ⟨gf, 0, none⟩) N N) N (iv (F.set n l)) ∧ B ≤ (w0.setCell ⟨gf, n, none⟩ (.int .i64 l)).heap.size ∧ Below wb w0 (w0.setCell ⟨gf, n, none⟩ (.int .i64 l))) := ⟨hs0.1, hB1, hbl⟩
      obtain ⟨x, hx⟩ : ∃ x, gF F n = x := ⟨_, rfl⟩
      rw [hx] at p0 c1 c3
      clear h hF hFW hs0 h3 FA3 hh hV hnd h1 h2 hx hbl hB1 hFl
      go_enter Try.func47, Try.ntmps47
      go_wp2_with fail
      refine HPT.out.mono ?_
      rintro e W2 ⟨rfl, V2, a1, a2, a3⟩
      go_wp2_with fail
      go_end0
      exact ⟨rfl, _, _, V2, a1, a2, a3, HS0.out.1, HS0.out.2.1, HS0.out.2.2⟩
    · simp only [if_neg (show ¬ (gF F n < 0 ∨ l < gF F n) from fun h => h.elim c1 c3)]
      have HS0 : Hid (hp (ltF F) V ∧ HS (XF w0 B gf N) W v V ∧ w0.ownsRow wb 3 1 (.slice (some ⟨gf, 0, none⟩) N N) N (iv F) ∧ B ≤ w0.heap.size) := ⟨hh, h, hF, hB⟩
      obtain ⟨x, hx⟩ : ∃ x, gF F n = x := ⟨_, rfl⟩
      rw [hx] at p0 c1 c3
      clear h hF hFW hs0 h3 FA3 hh hV hnd h1 h2 hbl hB1 hFl
      go_enter Try.func47, Try.ntmps47
      go_wp2_with fail
      go_end0
      exact ⟨rfl, w0, v, V, List.Perm.refl _, HS0.out.1, HS0.out.2.1, HS0.out.2.2.1, HS0.out.2.2.2, Below.refl _ _⟩
end Go.Proofs.Ytfcdaljhbeogeaa
