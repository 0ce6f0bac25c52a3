import Derived.Test.YtfcdaljhbeogeaaRP
namespace Go.Proofs.Ytfcdaljhbeogeaa
open Go.RowKit
theorem info_ed : (Try.prog.info? 34).map (fun i => (i.zero, i.size, i.bytes)) = some (some (.agg #[.int .i64 0, .int .i64 0, .int .i64 0, .int .i64 0]), 4, 32) := by kernel_rfl
theorem IRRe_own {W : World} {B g n c : Nat} {t : TypeId} {L : List IRt} (h : W.ownsRow B t 4 (.slice (some ⟨g, 0, none⟩) n c) n (rels L)) : IRR W (some ⟨g, 0, none⟩) L := fun W' hW k r ht => by
  have h' := owns_below h hW
  have hl : L.length = n := by
    have := h.1
    rw [rels_len] at this
    omega
  have hk := (List.getElem?_eq_some_iff.1 ht).1
  have rr := fun m hm => (rels_get L k m hm)
  have c := fun m (hm : m < 4) => (h'.cellAt (k * 4 + m) (by omega)).trans (rr m hm)
  simp only [ht, Option.bind_some] at c
  exact ⟨g, 0, rfl, by rw [Nat.zero_add]; exact c 0 (by decide), by rw [Nat.zero_add]; exact c 1 (by decide), by rw [Nat.zero_add]; exact c 2 (by decide), by rw [Nat.zero_add]; exact c 3 (by decide)⟩
theorem IRRe_of {W : World} {B n c : Nat} {t : TypeId} {o : Option Addr} {L : List IRt} (h : W.ownsRow B t 4 (.slice o n c) n (rels L)) : IRR W o L := by
  have hl : L.length = n := by
    have := h.1
    rw [rels_len] at this
    omega
  cases L with
  | nil => exact fun W' _ k r hr => by simp at hr
  | cons r L =>
    obtain ⟨g, rfl⟩ := rown_at h (by rw [← hl]; simp)
    exact IRRe_own h
theorem putre_own {W : World} {B g n c i : Nat} {e : TypeId} {K : List IRt} (t : IRt) (h : W.ownsRow B e 4 (.slice (some ⟨g, 0, none⟩) n c) n (rels K)) (hi : i < K.length) : (putr W g i t).ownsRow B e 4 (.slice (some ⟨g, 0, none⟩) n c) n (rels (K.set i t)) ∧ W.grownBy (putr W g i t) (some g) := by
  have s0 := h.stored (i * 4) (.int .i64 t.1)
  have s1 := s0.1.stored (i * 4 + 1) (.int .i64 t.2.1)
  have s2 := s1.1.stored (i * 4 + 2) (.int .i64 t.2.2.1)
  have s3 := s2.1.stored (i * 4 + 3) (.int .i64 t.2.2.2)
  rw [← rels_set4 K i t hi]
  exact ⟨s3.1, gr_tr s0.2 (gr_tr s1.2 (gr_tr s2.2 s3.2))⟩
theorem IRI_of {W : World} {B n c : Nat} {o : Option Addr} {V : List Int} (h : W.ownsRow B 3 1 (.slice o n c) n (iv V)) : IRI W o V := fun W' hW k x hx => by
  have hl := iv_len h
  have := (List.getElem?_eq_some_iff.1 hx).1
  obtain ⟨g, rfl⟩ := rown_at h (by omega)
  exact ⟨g, 0, rfl, by rw [Nat.zero_add]; exact iv_at (owns_below h hW) hx⟩
theorem IRI_pre {W : World} {o : Option Addr} {L M : List Int} (h : IRI W o (L ++ M)) : IRI W o L := fun W' hW k r hr => h W' hW k r (by rw [List.getElem?_append_left (List.getElem?_eq_some_iff.1 hr).1]; exact hr)
set_option maxRecDepth 100000 in
set_option maxHeartbeats 1000000 in
theorem ints_any (V : List Int) (o1 o2 : Option Addr) (c1 c2 n : Nat) (w : World) (hn : V.length = n) (hL : n ≤ 281474976710656) (h1 : IRI w o1 V) (h2 : IRI w o2 V) :
    Calls Try.prog 13 #[.slice o1 n c1, .slice o2 n c2] w fun e w' => e = .returned (.bool true) ∧ Below w.heap.size w w' := by
  have H1 : Hid (IRI w o1 V) := h1
  have H2 : Hid (IRI w o2 V) := h2
  have HN : Hid (V.length = n) := hn
  clear h1 h2 hn
  go_enter Try.func13, Try.ntmps13
  go_wp2_with fail
  go_loopw [5] (fun vi wr => ∃ i : Nat, vi = .int .i64 i ∧ i ≤ n ∧ Below w.heap.size w wr) (fun vi _ => n - (intOf vi).toNat)
  case atStart => exact ⟨0, rfl, Nat.zero_le _, Below.refl _ _⟩
  case round =>
    obtain ⟨i, rfl, hi, hB⟩ := hrel
    by_cases hlt : i < n
    · have j1 : (i : Int) < (n : Int) := by omega
      have j0 : (0 : Int) ≤ (i : Int) := by omega
      obtain ⟨r, hri⟩ : ∃ r, V[i]? = some r := ⟨_, List.getElem?_eq_getElem (by rw [HN.out]; omega)⟩
      obtain ⟨g, o0, rfl, -⟩ := H1.out wr hB i r hri
      obtain ⟨k, q0, rfl, -⟩ := H2.out wr hB i r hri
      have X1 : Hid (∀ W, Below wr.heap.size wr W → W.cell? ⟨g, o0 + i, none⟩ = some (.int .i64 r) ∧ W.cell? ⟨k, q0 + i, none⟩ = some (.int .i64 r)) := fun W hW => by
        obtain ⟨g3, q3, e, hh⟩ := H1.out W (bel0 hB hW) i r hri
        obtain ⟨g4, q4, e', hh'⟩ := H2.out W (bel0 hB hW) i r hri
        injection e with e
        injection e with e1 e2
        injection e' with e'
        injection e' with e3 e4
        subst e1 e2 e3 e4
        exact ⟨hh, hh'⟩
      have e5 : (r == r) = true := beq_self_eq_true r
      clear hri
      go_wp2_with fail
      refine quiet_lit3 (C := fun W => Below wr.heap.size wr W) (by kernel_rfl) (by kernel_rfl) (show Below _ _ _ from (Below.refl _ _).drew) ?_
      go_big_quiet_want
      go_big_quiet_op
      go_big_quiet_on
      go_big_quiet_want
      go_big_quiet_op
      go_big_quiet_on
      go_big_quiet_want
      refine ⟨.pointer (some ⟨g, o0 + i, none⟩), fun W hW => ?_, ?_⟩
      · go_simp
      go_big_quiet_on
      simp only [Act.put, List.setIfInBounds_toArray, List.set_cons_zero, List.set_cons_succ]
      go_big_quiet_want
      refine ⟨.int .i64 r, fun W hW => ?_, ?_⟩
      · obtain ⟨x0, x1⟩ := X1.out W hW
        go_simp
      go_big_quiet_on
      simp only [Act.put, List.setIfInBounds_toArray, List.set_cons_zero, List.set_cons_succ]
      go_big_quiet_want
      go_big_quiet_op
      go_big_quiet_on
      go_big_quiet_want
      go_big_quiet_op
      go_big_quiet_on
      go_big_quiet_want
      refine ⟨.pointer (some ⟨k, q0 + i, none⟩), fun W hW => ?_, ?_⟩
      · go_simp
      go_big_quiet_on
      simp only [Act.put, List.setIfInBounds_toArray, List.set_cons_zero, List.set_cons_succ]
      go_big_quiet_want
      refine ⟨.int .i64 r, fun W hW => ?_, ?_⟩
      · obtain ⟨x0, x1⟩ := X1.out W hW
        go_simp
      go_big_quiet_on
      simp only [Act.put, List.setIfInBounds_toArray, List.set_cons_zero, List.set_cons_succ]
      go_big_quiet_want
      refine ⟨.bool false, fun W hW => ?_, ?_⟩
      · go_simp
      go_big_quiet_on
      simp only [Act.put, List.setIfInBounds_toArray, List.set_cons_zero, List.set_cons_succ]
      refine wpQuiet_nil ?_
      intro W hW
      go_wp2_with fail
      go_roundw
      case rel => exact ⟨i + 1, by go_num, by omega, bel0 hB hW⟩
      case measure => simp [intOf]; omega
    · have j1 : ¬ (i : Int) < (n : Int) := by omega
      go_wp2_with fail
      go_ret
      exact ⟨rfl, hB⟩
set_option maxRecDepth 100000 in
set_option maxHeartbeats 1000000 in
theorem sameEdges_any (L : List IRt) (g c n : Nat) (o2 : Option Addr) (c2 : Nat) (w : World) (hn : L.length = n) (hL : n ≤ 60) (hc : n + 1 ≤ c) (h1 : IRR w (some ⟨g, 0, none⟩) (L ++ [(91, 0, 0, 0)])) (h2 : IRR w o2 L) :
    Calls Try.prog 14 #[.slice (some ⟨g, 0, none⟩) n c, .slice o2 n c2] w fun e w' => e = .returned (.bool true) ∧ Below w.heap.size w w' := by
  have H1 : Hid (IRR w (some ⟨g, 0, none⟩) (L ++ [(91, 0, 0, 0)])) := h1
  have H2 : Hid (IRR w o2 L) := h2
  have HN : Hid (L.length = n) := hn
  have k1 : (n : Int) + 1 ≤ (c : Int) := by omega
  have k2 : (n : Int) < (n : Int) + 1 := by omega
  have k3 : (0 : Int) ≤ (n : Int) := by omega
  clear h1 h2 hn hc
  go_enter Try.func14, Try.ntmps14
  go_wp2_with fail
  go_loopw [6] (fun vi wr => ∃ i : Nat, vi = .int .i64 i ∧ i ≤ n ∧ Below w.heap.size w wr) (fun vi _ => n - (intOf vi).toNat)
  case atStart => exact ⟨0, rfl, Nat.zero_le _, Below.refl _ _⟩
  case round =>
    obtain ⟨i, rfl, hi, hB⟩ := hrel
    by_cases hlt : i < n
    · have j1 : (i : Int) < (n : Int) := by omega
      have j0 : (0 : Int) ≤ (i : Int) := by omega
      obtain ⟨r, hri⟩ : ∃ r, L[i]? = some r := ⟨_, List.getElem?_eq_getElem (by rw [HN.out]; omega)⟩
      obtain ⟨k, q0, rfl, -⟩ := H2.out wr hB i r hri
      have X1 : Hid (∀ W, Below wr.heap.size wr W → W.cell? ⟨g, 0 + i * 4, none⟩ = some (.int .i64 r.1) ∧ W.cell? ⟨g, 0 + i * 4 + 1, none⟩ = some (.int .i64 r.2.1) ∧ W.cell? ⟨g, 0 + i * 4 + 2, none⟩ = some (.int .i64 r.2.2.1) ∧ W.cell? ⟨g, 0 + i * 4 + 3, none⟩ = some (.int .i64 r.2.2.2)) := fun W hW => irr_cells H1.out (by rw [List.getElem?_append_left (by rw [HN.out]; exact hlt)]; exact hri) (bel0 hB hW)
      have X2 : Hid (∀ W, Below wr.heap.size wr W → W.cell? ⟨k, q0 + i * 4, none⟩ = some (.int .i64 r.1) ∧ W.cell? ⟨k, q0 + i * 4 + 1, none⟩ = some (.int .i64 r.2.1) ∧ W.cell? ⟨k, q0 + i * 4 + 2, none⟩ = some (.int .i64 r.2.2.1) ∧ W.cell? ⟨k, q0 + i * 4 + 3, none⟩ = some (.int .i64 r.2.2.2)) := fun W hW => irr_cells H2.out hri (bel0 hB hW)
      simp only [Nat.zero_add] at X1
      obtain ⟨r0, r1, r2, r3⟩ := r
      simp only at X1 X2
      clear hri
      go_wp2_with fail
      refine quiet_lit3 (C := fun W => Below wr.heap.size wr W) (by kernel_rfl) (by kernel_rfl) (show Below _ _ _ from (Below.refl _ _).drew) ?_
      go_big_quiet_want
      go_big_quiet_op
      go_big_quiet_on
      go_big_quiet_want
      go_big_quiet_op
      go_big_quiet_on
      go_big_quiet_want
      refine ⟨.pointer (some ⟨g, i * 4, none⟩), fun W hW => ?_, ?_⟩
      · go_simp
      go_big_quiet_on
      simp only [Act.put, List.setIfInBounds_toArray, List.set_cons_zero, List.set_cons_succ]
      go_big_quiet_want
      refine ⟨.agg #[.int .i64 r0, .int .i64 r1, .int .i64 r2, .int .i64 r3], fun W hW => ?_, ?_⟩
      · obtain ⟨x0, x1, x2, x3⟩ := X1.out W hW
        go_simp
      go_big_quiet_on
      simp only [Act.put, List.setIfInBounds_toArray, List.set_cons_zero, List.set_cons_succ]
      go_big_quiet_want
      go_big_quiet_op
      go_big_quiet_on
      go_big_quiet_want
      go_big_quiet_op
      go_big_quiet_on
      go_big_quiet_want
      refine ⟨.pointer (some ⟨k, q0 + i * 4, none⟩), fun W hW => ?_, ?_⟩
      · go_simp
      go_big_quiet_on
      simp only [Act.put, List.setIfInBounds_toArray, List.set_cons_zero, List.set_cons_succ]
      go_big_quiet_want
      refine ⟨.agg #[.int .i64 r0, .int .i64 r1, .int .i64 r2, .int .i64 r3], fun W hW => ?_, ?_⟩
      · obtain ⟨x0, x1, x2, x3⟩ := X2.out W hW
        go_simp
      go_big_quiet_on
      simp only [Act.put, List.setIfInBounds_toArray, List.set_cons_zero, List.set_cons_succ]
      go_big_quiet_want
      refine ⟨.bool false, fun W hW => ?_, ?_⟩
      · go_simp
      go_big_quiet_on
      simp only [Act.put, List.setIfInBounds_toArray, List.set_cons_zero, List.set_cons_succ]
      refine wpQuiet_nil ?_
      intro W hW
      go_wp2_with fail
      go_roundw
      case rel => exact ⟨i + 1, by go_num, by omega, bel0 hB hW⟩
      case measure => simp [intOf]; omega
    · have j1 : ¬ (i : Int) < (n : Int) := by omega
      obtain ⟨m0, m1, m2, m3⟩ := irr_cells H1.out (i := n) (r := (91, 0, 0, 0)) (by rw [List.getElem?_append_right (by rw [HN.out]; exact Nat.le_refl _), HN.out, Nat.sub_self]; rfl) hB
      simp only [Nat.zero_add] at m0 m1 m2 m3
      go_wp2_with fail
      go_ret
      exact ⟨rfl, hB⟩
end Go.Proofs.Ytfcdaljhbeogeaa
