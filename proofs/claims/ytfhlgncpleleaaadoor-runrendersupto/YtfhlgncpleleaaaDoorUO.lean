import Derived.Test.YtfhlgncpleleaaaDoorUN
import Derived.Laws.OwnMore
namespace Go.Proofs.YtfhlgncpleleaaaDoor
open Go.RowKit Go.Shelf
def wgT (x : List UInt8) : Nat := if x.length ≤ 6 then 6 else x.length
def wgL (L : List (List UInt8)) : Nat := (L.map wgT).sum
def wgR (r : RP) : Nat := wgT r.sp + wgT r.wi + wgT r.fi + wgL r.po + wgL r.en + wgL r.li
def wgA (R : List RP) : Nat := (R.map wgR).sum
theorem wgT_len (x : List UInt8) : x.length ≤ wgT x := by unfold wgT; split <;> omega
theorem wgT_six (x : List UInt8) : 6 ≤ wgT x := by unfold wgT; split <;> omega
theorem wgT_le (x : List UInt8) : wgT x ≤ x.length + 6 := by unfold wgT; split <;> omega
theorem wgL_cons (x : List UInt8) (L : List (List UInt8)) : wgL (x :: L) = wgT x + wgL L := by simp [wgL]
theorem wgA_cons (r : RP) (R : List RP) : wgA (r :: R) = wgR r + wgA R := by simp [wgA]
theorem wgL_len : ∀ L : List (List UInt8), 6 * L.length ≤ wgL L
  | [] => by simp
  | x :: L => by
    have := wgL_len L
    have := wgT_six x
    rw [wgL_cons, List.length_cons]
    omega
theorem wgL_set (x : List UInt8) (hx : x.length ≤ 6) : ∀ (L : List (List UInt8)) (k : Nat), wgL (L.set k x) ≤ wgL L
  | [], k => by simp
  | y :: L, 0 => by
    have h1 := wgT_six y
    have h2 : wgT x = 6 := by unfold wgT; rw [if_pos hx]
    rw [List.set_cons_zero, wgL_cons, wgL_cons]
    omega
  | y :: L, k + 1 => by
    have := wgL_set x hx L k
    rw [List.set_cons_succ, wgL_cons, wgL_cons]
    omega
theorem wgA_set {r r' : RP} (hr : wgR r' ≤ wgR r) : ∀ (R : List RP) (i : Nat), R[i]? = some r → wgA (R.set i r') ≤ wgA R
  | [], i, h => by simp at h
  | a :: R, 0, h => by
    obtain rfl : a = r := by simpa using h
    rw [List.set_cons_zero, wgA_cons, wgA_cons]
    omega
  | a :: R, i + 1, h => by
    have := wgA_set hr R i (by simpa using h)
    rw [List.set_cons_succ, wgA_cons, wgA_cons]
    omega
theorem wgA_mem : ∀ (R : List RP) (r : RP), r ∈ R → wgR r ≤ wgA R
  | [], r, h => by cases h
  | a :: R, r, h => by
    rw [wgA_cons]
    rcases List.mem_cons.1 h with rfl | h
    · omega
    · have := wgA_mem R r h
      omega
theorem wgA_len : ∀ R : List RP, 18 * R.length ≤ wgA R
  | [] => by simp
  | a :: R => by
    have := wgA_len R
    have h1 := wgT_six a.sp
    have h2 := wgT_six a.wi
    have h3 := wgT_six a.fi
    rw [wgA_cons, List.length_cons]
    unfold wgR
    omega
theorem wdK_lenW (k : Int) : (wdK k).length ≤ 8 := by
  unfold wdK
  split
  · rename_i h
    have : ∀ i : Fin 10, (wdT.getD i.val []).length ≤ 8 := by decide
    exact this ⟨k.toNat, by omega⟩
  · decide
theorem jt_len (sep : List UInt8) (hs : sep.length ≤ 2) : ∀ L : List (List UInt8), (Lib.joinTail sep L).length ≤ 2 * wgL L
  | [] => by simp [Lib.joinTail]
  | x :: L => by
    have h1 := jt_len sep hs L
    have h2 := wgT_len x
    have h3 := wgT_six x
    have h4 : (Lib.joinTail sep (x :: L)).length = sep.length + x.length + (Lib.joinTail sep L).length := by simp [Lib.joinTail]; omega
    rw [h4, wgL_cons]
    omega
theorem jn_len (sep : List UInt8) (hs : sep.length ≤ 2) (L : List (List UInt8)) : (Lib.join L sep).length ≤ 2 * wgL L := by
  cases L with
  | nil => rw [Lib.join_nil]; simp
  | cons x L =>
    have h1 := jt_len sep hs L
    have h2 := wgT_len x
    rw [Lib.join_cons, List.length_append, wgL_cons]
    omega
theorem pN_len : ∀ L : List (List UInt8), (pN L).length ≤ 2 * wgL L
  | [] => by simp [pN]
  | x :: L => by
    have h1 := pN_len L
    have h2 := wgT_len x
    have h3 := wgT_six x
    have h4 : (pN (x :: L)).length = x.length + 3 + (pN L).length := by
      unfold pN pI
      simp
      omega
    rw [h4, wgL_cons]
    omega
theorem pW_le (wd x : List UInt8) (h : wd.length ≤ 10) : (pW wd x).length ≤ x.length + 14 := by
  unfold pW pI
  split
  · simp
  · simp
    omega
theorem pL_le (wd : List UInt8) (L : List (List UInt8)) (sep : List UInt8) (h : wd.length ≤ 10) : (pL wd L sep).length ≤ (Lib.join L sep).length + 14 := by
  unfold pL pI
  split
  · simp
  · simp
    omega
theorem rnR_len (r : RP) : (rnR r).length ≤ 8 * wgR r := by
  have a1 : (pH r.k r.fd).length ≤ 16 := by
    have := wdK_lenW r.k
    have h2 : (fdT r.fd).length ≤ 7 := by unfold fdT; split <;> decide
    unfold pH
    rw [List.length_append, List.length_append, List.length_singleton]
    omega
  have a2 := pW_le [115, 112, 97, 99, 101] r.sp (by decide)
  have a3 := pW_le [119, 105, 116, 110, 101, 115, 115] r.wi (by decide)
  have a4 := pL_le [112, 97, 116, 104] r.po [32] (by decide)
  have a5 := pL_le [98, 121] r.en [44, 32] (by decide)
  have a6 := pW_le [102, 105, 110, 97, 108] r.fi (by decide)
  have a7 := pN_len r.li
  have a8 : (pM r.mo).length ≤ 7 := by unfold pM; split <;> decide
  have b4 := jn_len [32] (by decide) r.po
  have b5 := jn_len [44, 32] (by decide) r.en
  have c1 := wgT_len r.sp
  have c2 := wgT_len r.wi
  have c3 := wgT_len r.fi
  have d1 := wgT_six r.sp
  have d2 := wgT_six r.wi
  have d3 := wgT_six r.fi
  unfold rnR wgR
  rw [List.length_append, List.length_append, List.length_append, List.length_append, List.length_append, List.length_append, List.length_append]
  omega
theorem flat_len : ∀ R : List RP, (R.flatMap rnR).length ≤ 8 * wgA R
  | [] => by simp
  | r :: R => by
    have h1 := flat_len R
    have h2 := rnR_len r
    rw [List.flatMap_cons, List.length_append, wgA_cons]
    omega
theorem bnd_of (s : RS) (Es : List VR) (c0 : -9223372036854775808 ≤ s.c) (c1 : s.c ≤ 9223372036854775807) (l0 : -9223372036854775808 ≤ s.l) (l1 : s.l ≤ 9223372036854775807) (hw : wgA (rps Es) ≤ 1000000000) : BND s Es := by
  have h1 := flat_len (rps Es)
  have h2 := wgA_len (rps Es)
  have h3 : (rps Es).length = Es.length := by unfold rps; rw [List.length_map]
  refine ⟨c0, c1, l0, l1, ?_, by omega, fun e he => ?_⟩
  · unfold flR
    omega
  · have h4 := wgA_mem (rps Es) e.r (List.mem_map_of_mem he)
    have q1 := wgL_len e.r.po
    have q2 := wgL_len e.r.en
    have q3 := wgL_len e.r.li
    unfold wgR at h4
    exact ⟨by omega, by omega, by omega⟩
theorem gvs_set : ∀ (Gs : List GE) (i j : Nat) (e e' : GE) (u : Value), Gs[i]? = some e → j < 9 → e'.v.vs = e.v.vs.set j u → (gvs Gs).set (i * 9 + j) u = gvs (Gs.set i e')
  | [], i, j, e, e', u, h, _, _ => by simp at h
  | a :: r, 0, j, e, e', u, h, hj, hv => by
    obtain rfl : a = e := by simpa using h
    rw [List.set_cons_zero]
    show (a.v.vs ++ gvs r).set (0 * 9 + j) u = e'.v.vs ++ gvs r
    rw [hv, Nat.zero_mul, Nat.zero_add, List.set_append, if_pos (by rw [vs_len]; exact hj)]
  | a :: r, i + 1, j, e, e', u, h, hj, hv => by
    have ih := gvs_set r i j e e' u (by simpa using h) hj hv
    rw [List.set_cons_succ]
    show (a.v.vs ++ gvs r).set ((i + 1) * 9 + j) u = a.v.vs ++ gvs (r.set i e')
    rw [← ih, List.set_append, if_neg (by rw [vs_len]; omega), vs_len, show (i + 1) * 9 + j - 9 = i * 9 + j by omega]
theorem gvs_same : ∀ (Gs : List GE) (i : Nat) (e e' : GE), Gs[i]? = some e → e'.v.vs = e.v.vs → gvs (Gs.set i e') = gvs Gs
  | [], i, e, e', h, _ => by simp at h
  | a :: r, 0, e, e', h, hv => by
    obtain rfl : a = e := by simpa using h
    rw [List.set_cons_zero]
    show e'.v.vs ++ gvs r = a.v.vs ++ gvs r
    rw [hv]
  | a :: r, i + 1, e, e', h, hv => by
    rw [List.set_cons_succ]
    show a.v.vs ++ gvs (r.set i e') = a.v.vs ++ gvs r
    rw [gvs_same r i e e' (by simpa using h) hv]
theorem gbs_same : ∀ (Gs : List GE) (i : Nat) (e e' : GE), Gs[i]? = some e → e'.g1 = e.g1 → e'.g2 = e.g2 → e'.g3 = e.g3 → gbs (Gs.set i e') = gbs Gs
  | [], i, e, e', h, _, _, _ => by simp at h
  | a :: r, 0, e, e', h, h1, h2, h3 => by
    obtain rfl : a = e := by simpa using h
    rw [List.set_cons_zero]
    show [e'.g1, e'.g2, e'.g3] ++ gbs r = [a.g1, a.g2, a.g3] ++ gbs r
    rw [h1, h2, h3]
  | a :: r, i + 1, e, e', h, h1, h2, h3 => by
    rw [List.set_cons_succ]
    show [a.g1, a.g2, a.g3] ++ gbs (r.set i e') = [a.g1, a.g2, a.g3] ++ gbs r
    rw [gbs_same r i e e' (by simpa using h) h1 h2 h3]
theorem gbs_at : ∀ (Gs : List GE) (i j : Nat) (e : GE) (x : Nat), Gs[i]? = some e → [e.g1, e.g2, e.g3][j]? = some x → (gbs Gs)[i * 3 + j]? = some x
  | [], i, j, e, x, h, _ => by simp at h
  | a :: r, 0, j, e, x, h, hj => by
    obtain rfl : a = e := by simpa using h
    have hj3 := (List.getElem?_eq_some_iff.1 hj).1
    show ([a.g1, a.g2, a.g3] ++ gbs r)[0 * 3 + j]? = some x
    rw [Nat.zero_mul, Nat.zero_add, List.getElem?_append_left hj3]
    exact hj
  | a :: r, i + 1, j, e, x, h, hj => by
    have ih := gbs_at r i j e x (by simpa using h) hj
    show ([a.g1, a.g2, a.g3] ++ gbs r)[(i + 1) * 3 + j]? = some x
    rw [List.getElem?_append_right (by simp only [List.length_cons, List.length_nil]; omega)]
    simp only [List.length_cons, List.length_nil]
    rw [show (i + 1) * 3 + j - (0 + 1 + 1 + 1) = i * 3 + j by omega]
    exact ih
def GE.lineE (e : GE) (k : Nat) (x : List UInt8) : GE := ⟨⟨e.r.k, e.r.fd, e.r.sp, e.r.wi, e.r.po, e.r.en, e.r.fi, e.r.li.set k x, e.r.mo⟩, e.g1, e.c1, e.g2, e.c2, e.g3, e.c3⟩
def GE.portE (e : GE) (k : Nat) (x : List UInt8) : GE := ⟨⟨e.r.k, e.r.fd, e.r.sp, e.r.wi, e.r.po.set k x, e.r.en, e.r.fi, e.r.li, e.r.mo⟩, e.g1, e.c1, e.g2, e.c2, e.g3, e.c3⟩
def GE.fdE (e : GE) (b : Bool) : GE := ⟨⟨e.r.k, b, e.r.sp, e.r.wi, e.r.po, e.r.en, e.r.fi, e.r.li, e.r.mo⟩, e.g1, e.c1, e.g2, e.c2, e.g3, e.c3⟩
def GE.spE (e : GE) (x : List UInt8) : GE := ⟨⟨e.r.k, e.r.fd, x, e.r.wi, e.r.po, e.r.en, e.r.fi, e.r.li, e.r.mo⟩, e.g1, e.c1, e.g2, e.c2, e.g3, e.c3⟩
def grs (Gs : List GE) : List RP := Gs.map (fun e => e.r)
theorem grs_set (Gs : List GE) (i : Nat) (e : GE) : grs (Gs.set i e) = (grs Gs).set i e.r := by unfold grs; rw [List.map_set]
theorem wgG_set {Gs : List GE} {i : Nat} {e e' : GE} (he : Gs[i]? = some e) (hr : wgR e'.r ≤ wgR e.r) : wgA (grs (Gs.set i e')) ≤ wgA (grs Gs) := by
  rw [grs_set]
  exact wgA_set hr _ i (by unfold grs; rw [List.getElem?_map, he]; rfl)
theorem wg_line (e : GE) (k : Nat) (x : List UInt8) (hx : x.length ≤ 6) : wgR (e.lineE k x).r ≤ wgR e.r := by
  have := wgL_set x hx e.r.li k
  unfold wgR GE.lineE
  simp only
  omega
theorem wg_port (e : GE) (k : Nat) (x : List UInt8) (hx : x.length ≤ 6) : wgR (e.portE k x).r ≤ wgR e.r := by
  have := wgL_set x hx e.r.po k
  unfold wgR GE.portE
  simp only
  omega
theorem wg_fd (e : GE) (b : Bool) : wgR (e.fdE b).r ≤ wgR e.r := Nat.le_refl _
theorem wg_sp (e : GE) (x : List UInt8) (hx : x.length ≤ 6) : wgR (e.spE x).r ≤ wgR e.r := by
  have h1 := wgT_six e.r.sp
  have h2 : wgT x = 6 := by unfold wgT; rw [if_pos hx]
  unfold wgR GE.spE
  simp only
  omega
/-- two places of the lists are two blocks -/
theorem gne {Gs : List GE} (hn : (gbs Gs).Nodup) {i k j m : Nat} {d e : GE} {x y : Nat} (hi : Gs[i]? = some d) (hk : Gs[k]? = some e) (hj : [d.g1, d.g2, d.g3][j]? = some x) (hm : [e.g1, e.g2, e.g3][m]? = some y) (h3 : j < 3) (h4 : m < 3) (hne : ¬ (i = k ∧ j = m)) : x ≠ y := by
  intro e5
  subst e5
  have q1 := gbs_at Gs i j d x hi hj
  have q2 := gbs_at Gs k m e x hk hm
  have q3 := (List.getElem?_inj (List.getElem?_eq_some_iff.1 q1).1 hn).1 (q1.trans q2.symm)
  omega
/-- a cell of a reply stored over that is no list -/
theorem GRW.cellV {W : World} {B i j n c G : Nat} {Gs : List GE} {e e' : GE} {u : Value} (h : GRW W B Gs (.slice (some ⟨G, 0, none⟩) n c)) (hn : Gs.length = n) (he : Gs[i]? = some e) (hj : j < 9) (hv : e'.v.vs = e.v.vs.set j u) (h1 : e'.g1 = e.g1 ∧ e'.c1 = e.c1 ∧ e'.r.po = e.r.po) (h2 : e'.g2 = e.g2 ∧ e'.c2 = e.c2 ∧ e'.r.en = e.r.en) (h3 : e'.g3 = e.g3 ∧ e'.c3 = e.c3 ∧ e'.r.li = e.r.li) : GRW (W.setCell ⟨G, i * 9 + j, none⟩ u) B (Gs.set i e') (.slice (some ⟨G, 0, none⟩) n c) := by
  subst hn
  have hs := h.row.stored (i * 9 + j) u
  have hl := (List.getElem?_eq_some_iff.1 he).1
  refine ⟨?_, ?_, ?_⟩
  · rw [List.length_set, ← gvs_set Gs i j e e' u he hj hv]
    exact hs.1
  · intro m d hd
    have up : ∀ x : GE, GOK W B x → GOK (W.setCell ⟨G, i * 9 + j, none⟩ u) B x := fun x hx => hx.rowV h.row (by decide) hs.2
    by_cases hm : m = i
    · subst hm
      rw [List.getElem?_set_self hl] at hd
      obtain rfl : e' = d := by injection hd
      have ok := up e (h.each m e he)
      refine ⟨?_, ?_, ?_⟩
      · rw [h1.1, h1.2.1, h1.2.2]; exact ok.o1
      · rw [h2.1, h2.2.1, h2.2.2]; exact ok.o2
      · rw [h3.1, h3.2.1, h3.2.2]; exact ok.o3
    · rw [List.getElem?_set_ne (fun e5 => hm e5.symm)] at hd
      exact up d (h.each m d hd)
  · rw [gbs_same Gs i e e' he h1.1 h2.1 h3.1]
    exact h.nd
theorem GRW.lineV {W : World} {B i k n c : Nat} {Gs : List GE} {e : GE} {p : Option Addr} (x : List UInt8) (h : GRW W B Gs (.slice p n c)) (he : Gs[i]? = some e) (hk : k < e.r.li.length) : GRW (W.setCell ⟨e.g3, k, none⟩ (.string ⟨x.toArray⟩)) B (Gs.set i (e.lineE k x)) (.slice p n c) := by
  have hg := gr_setZ W e.g3 k (.string ⟨x.toArray⟩)
  have ok := h.each i e he
  have hl := (List.getElem?_eq_some_iff.1 he).1
  refine ⟨?_, ?_, ?_⟩
  · rw [List.length_set, gvs_same Gs i e _ he (by unfold GE.v VR.vs GE.lineE; simp only [List.length_set])]
    rcases off_rowsV ok.o3 h.row (by decide) with h5 | h5
    · cases h5
    · exact h.row.kept hg (.inr (fun e5 => h5 (by rw [e5]; rfl)))
  · intro m d hd
    by_cases hm : m = i
    · subst hm
      rw [List.getElem?_set_self hl] at hd
      obtain rfl : (e.lineE k x) = d := by injection hd
      refine ⟨?_, ?_, ?_⟩
      · exact ok.o1.kept hg (.inr (fun e5 => absurd (gne h.nd he he (j := 0) (m := 2) rfl rfl (by omega) (by omega) (by omega)) (fun h6 => h6 (by injection e5))))
      · exact ok.o2.kept hg (.inr (fun e5 => absurd (gne h.nd he he (j := 1) (m := 2) rfl rfl (by omega) (by omega) (by omega)) (fun h6 => h6 (by injection e5))))
      · show (W.setCell ⟨e.g3, k, none⟩ (.string ⟨x.toArray⟩)).ownsRow B 9 1 (.slice (some ⟨e.g3, 0, none⟩) ((e.r.li.set k x).length + 1) e.c3) ((e.r.li.set k x).length + 1) (stZ ((e.r.li.set k x) ++ [BEH]))
        have hs := (ok.o3.stored k (.string ⟨x.toArray⟩)).1
        rw [List.length_set]
        have e1 : (stZ (e.r.li ++ [BEH])).set k (.string ⟨x.toArray⟩) = stZ ((e.r.li.set k x) ++ [BEH]) := by
          unfold stZ
          rw [List.map_append, List.map_append, List.map_set, List.set_append, if_pos (by rw [List.length_map]; exact hk)]
        rw [e1] at hs
        exact hs
    · rw [List.getElem?_set_ne (fun e5 => hm e5.symm)] at hd
      have od := h.each m d hd
      refine ⟨?_, ?_, ?_⟩
      · exact od.o1.kept hg (.inr (fun e5 => absurd (gne h.nd hd he (j := 0) (m := 2) rfl rfl (by omega) (by omega) (by omega)) (fun h6 => h6 (by injection e5))))
      · exact od.o2.kept hg (.inr (fun e5 => absurd (gne h.nd hd he (j := 1) (m := 2) rfl rfl (by omega) (by omega) (by omega)) (fun h6 => h6 (by injection e5))))
      · exact od.o3.kept hg (.inr (fun e5 => absurd (gne h.nd hd he (j := 2) (m := 2) rfl rfl (by omega) (by omega) (by omega)) (fun h6 => h6 (by injection e5))))
  · rw [gbs_same Gs i e (e.lineE k x) he rfl rfl rfl]
    exact h.nd
theorem GRW.portV {W : World} {B i k n c : Nat} {Gs : List GE} {e : GE} {p : Option Addr} (x : List UInt8) (h : GRW W B Gs (.slice p n c)) (he : Gs[i]? = some e) (hk : k < e.r.po.length) : GRW (W.setCell ⟨e.g1, k, none⟩ (.string ⟨x.toArray⟩)) B (Gs.set i (e.portE k x)) (.slice p n c) := by
  have hg := gr_setZ W e.g1 k (.string ⟨x.toArray⟩)
  have ok := h.each i e he
  have hl := (List.getElem?_eq_some_iff.1 he).1
  refine ⟨?_, ?_, ?_⟩
  · rw [List.length_set, gvs_same Gs i e _ he (by unfold GE.v VR.vs GE.portE; simp only [List.length_set])]
    rcases off_rowsV ok.o1 h.row (by decide) with h5 | h5
    · cases h5
    · exact h.row.kept hg (.inr (fun e5 => h5 (by rw [e5]; rfl)))
  · intro m d hd
    by_cases hm : m = i
    · subst hm
      rw [List.getElem?_set_self hl] at hd
      obtain rfl : (e.portE k x) = d := by injection hd
      refine ⟨?_, ?_, ?_⟩
      · show (W.setCell ⟨e.g1, k, none⟩ (.string ⟨x.toArray⟩)).ownsRow B 9 1 (.slice (some ⟨e.g1, 0, none⟩) ((e.r.po.set k x).length + 1) e.c1) ((e.r.po.set k x).length + 1) (stZ ((e.r.po.set k x) ++ [BEH]))
        have hs := (ok.o1.stored k (.string ⟨x.toArray⟩)).1
        rw [List.length_set]
        have e1 : (stZ (e.r.po ++ [BEH])).set k (.string ⟨x.toArray⟩) = stZ ((e.r.po.set k x) ++ [BEH]) := by
          unfold stZ
          rw [List.map_append, List.map_append, List.map_set, List.set_append, if_pos (by rw [List.length_map]; exact hk)]
        rw [e1] at hs
        exact hs
      · exact ok.o2.kept hg (.inr (fun e5 => absurd (gne h.nd he he (j := 1) (m := 0) rfl rfl (by omega) (by omega) (by omega)) (fun h6 => h6 (by injection e5))))
      · exact ok.o3.kept hg (.inr (fun e5 => absurd (gne h.nd he he (j := 2) (m := 0) rfl rfl (by omega) (by omega) (by omega)) (fun h6 => h6 (by injection e5))))
    · rw [List.getElem?_set_ne (fun e5 => hm e5.symm)] at hd
      have od := h.each m d hd
      refine ⟨?_, ?_, ?_⟩
      · exact od.o1.kept hg (.inr (fun e5 => absurd (gne h.nd hd he (j := 0) (m := 0) rfl rfl (by omega) (by omega) (by omega)) (fun h6 => h6 (by injection e5))))
      · exact od.o2.kept hg (.inr (fun e5 => absurd (gne h.nd hd he (j := 1) (m := 0) rfl rfl (by omega) (by omega) (by omega)) (fun h6 => h6 (by injection e5))))
      · exact od.o3.kept hg (.inr (fun e5 => absurd (gne h.nd hd he (j := 2) (m := 0) rfl rfl (by omega) (by omega) (by omega)) (fun h6 => h6 (by injection e5))))
  · rw [gbs_same Gs i e (e.portE k x) he rfl rfl rfl]
    exact h.nd
theorem GRW.fdV {W : World} {B i n c G : Nat} {Gs : List GE} {e : GE} (b : Bool) (h : GRW W B Gs (.slice (some ⟨G, 0, none⟩) n c)) (hn : Gs.length = n) (he : Gs[i]? = some e) : GRW (W.setCell ⟨G, i * 9 + 1, none⟩ (.bool b)) B (Gs.set i (e.fdE b)) (.slice (some ⟨G, 0, none⟩) n c) := h.cellV hn he (by decide) rfl ⟨rfl, rfl, rfl⟩ ⟨rfl, rfl, rfl⟩ ⟨rfl, rfl, rfl⟩
theorem GRW.spV {W : World} {B i n c G : Nat} {Gs : List GE} {e : GE} (x : List UInt8) (h : GRW W B Gs (.slice (some ⟨G, 0, none⟩) n c)) (hn : Gs.length = n) (he : Gs[i]? = some e) : GRW (W.setCell ⟨G, i * 9 + 2, none⟩ (.string ⟨x.toArray⟩)) B (Gs.set i (e.spE x)) (.slice (some ⟨G, 0, none⟩) n c) := h.cellV hn he (by decide) rfl ⟨rfl, rfl, rfl⟩ ⟨rfl, rfl, rfl⟩ ⟨rfl, rfl, rfl⟩
end Go.Proofs.YtfhlgncpleleaaaDoor
