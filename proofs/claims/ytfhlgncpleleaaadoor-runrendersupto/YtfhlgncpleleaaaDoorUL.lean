import Derived.Test.YtfhlgncpleleaaaDoorUQ
import Derived.Deep.CutRange
namespace Go.Proofs.YtfhlgncpleleaaaDoor
open Go.RowKit Go.Shelf
/-- a reply of one's own: its three lists have a text behind their ends -/
structure GE where
  r : RP
  g1 : Nat
  c1 : Nat
  g2 : Nat
  c2 : Nat
  g3 : Nat
  c3 : Nat
def GE.v (e : GE) : VR := ⟨e.r, some ⟨e.g1, 0, none⟩, e.c1, some ⟨e.g2, 0, none⟩, e.c2, some ⟨e.g3, 0, none⟩, e.c3⟩
def BEH : List UInt8 := [98, 101, 104, 105, 110, 100]
structure GOK (W : World) (B : Nat) (e : GE) : Prop where
  o1 : W.ownsRow B 9 1 (.slice (some ⟨e.g1, 0, none⟩) (e.r.po.length + 1) e.c1) (e.r.po.length + 1) (stZ (e.r.po ++ [BEH]))
  o2 : W.ownsRow B 9 1 (.slice (some ⟨e.g2, 0, none⟩) (e.r.en.length + 1) e.c2) (e.r.en.length + 1) (stZ (e.r.en ++ [BEH]))
  o3 : W.ownsRow B 9 1 (.slice (some ⟨e.g3, 0, none⟩) (e.r.li.length + 1) e.c3) (e.r.li.length + 1) (stZ (e.r.li ++ [BEH]))
def gbs (Gs : List GE) : List Nat := Gs.flatMap (fun e => [e.g1, e.g2, e.g3])
def gvs (Gs : List GE) : List Value := Gs.flatMap (fun e => e.v.vs)
structure GRW (W : World) (B : Nat) (Gs : List GE) (v : Value) : Prop where
  row : W.ownsRow B 30 9 v Gs.length (gvs Gs)
  each : ∀ (i : Nat) (e : GE), Gs[i]? = some e → GOK W B e
  nd : (gbs Gs).Nodup
theorem GOK.below {W X : World} {B : Nat} {e : GE} (h : GOK W B e) (hb : Below W.heap.size W X) : GOK X B e := ⟨own_belZ h.o1 hb, own_belZ h.o2 hb, own_belZ h.o3 hb⟩
theorem GRW.below {W X : World} {B : Nat} {Gs : List GE} {v : Value} (h : GRW W B Gs v) (hb : Below W.heap.size W X) : GRW X B Gs v := ⟨own_belZ h.row hb, fun i e he => (h.each i e he).below hb, h.nd⟩
theorem lsr_own {W : World} {B g n c : Nat} {L : List (List UInt8)} {M : List (List UInt8)} (h : W.ownsRow B 9 1 (.slice (some ⟨g, 0, none⟩) n c) n (stZ (L ++ M))) : LSR W (some ⟨g, 0, none⟩) L := fun X hX k x hx => by
  have o := own_belZ h hX
  refine ⟨g, 0, rfl, ?_⟩
  rw [Nat.zero_add]
  refine own_atZ o (stZ_at ?_)
  rw [List.getElem?_append_left (List.getElem?_eq_some_iff.1 hx).1]
  exact hx
theorem cap_own {W : World} {B n c e sz m : Nat} {o : Option Addr} {xs : List Value} (h : W.ownsRow B e sz (.slice o n c) m xs) (hm : m ≠ 0) : m ≤ c := by
  rcases h.2 with ⟨e, h2⟩ | ⟨g2, c2, cur, e, _, _, h3, _⟩
  · exact absurd h2 hm
  · injection e with _ _ e3
    omega
theorem GOK.ok {W : World} {B : Nat} {e : GE} (h : GOK W B e) : VOK W e.v := ⟨lsr_own h.o1, lsr_own h.o2, lsr_own h.o3, by have := cap_own h.o1 (by omega); show e.r.po.length ≤ e.c1; omega, by have := cap_own h.o2 (by omega); show e.r.en.length ≤ e.c2; omega, by have := cap_own h.o3 (by omega); show e.r.li.length ≤ e.c3; omega⟩
theorem vs_len (e : VR) : e.vs.length = 9 := rfl
theorem gvs_at : ∀ (Gs : List GE) (i : Nat) (e : GE) (j : Nat) (v : Value), Gs[i]? = some e → e.v.vs[j]? = some v → (gvs Gs)[i * 9 + j]? = some v
  | [], i, e, j, v, h, _ => by simp at h
  | a :: r, 0, e, j, v, h, hj => by
    have e1 : a = e := by simpa using h
    subst e1
    have hj9 := (List.getElem?_eq_some_iff.1 hj).1
    show (a.v.vs ++ gvs r)[0 * 9 + j]? = some v
    rw [Nat.zero_mul, Nat.zero_add, List.getElem?_append_left hj9]
    exact hj
  | a :: r, i + 1, e, j, v, h, hj => by
    have ih := gvs_at r i e j v (by simpa using h) hj
    show (a.v.vs ++ gvs r)[(i + 1) * 9 + j]? = some v
    rw [List.getElem?_append_right (by rw [vs_len]; omega), vs_len, show (i + 1) * 9 + j - 9 = i * 9 + j by omega]
    exact ih
def gvr (Gs : List GE) : List VR := Gs.map GE.v
theorem rps_gvr (Gs : List GE) : rps (gvr Gs) = Gs.map (fun e => e.r) := by
  unfold rps gvr
  rw [List.map_map]
  rfl
theorem GRW.read {W : World} {B n c : Nat} {Gs : List GE} {p : Option Addr} (h : GRW W B Gs (.slice p n c)) : RDR W p (gvr Gs) := fun X hX i e he => by
  have h' := h.below hX
  obtain ⟨d, hd, rfl⟩ : ∃ d, Gs[i]? = some d ∧ d.v = e := by
    unfold gvr at he
    rw [List.getElem?_map] at he
    obtain ⟨d, h1, h2⟩ := Option.map_eq_some_iff.1 he
    exact ⟨d, h1, h2⟩
  have hl := (List.getElem?_eq_some_iff.1 hd).1
  obtain ⟨g, rfl⟩ := own_someZ h'.row (by omega)
  refine ⟨⟨g, 0, rfl, fun j v hv => ?_⟩, (h'.each i d hd).ok⟩
  rw [Nat.zero_add]
  exact own_atZ h'.row (gvs_at Gs i d j v hd hv)
theorem add_spotZ {a : Addr} (h : a.spot = none) (m : Nat) : a.add m = ⟨a.block, a.off + m, none⟩ := by
  unfold Addr.add
  split
  · rename_i h0
    subst h0
    obtain ⟨b, o, s⟩ := a
    simp only at h
    subst h
    rfl
  · rfl
theorem run_append_noneU {w : World} (base : Nat) (v : Value) (n c : Nat) (xs : List Value) (hown : w.ownsRow base 9 1 v n xs) : (Builtin.append_ #[28, 28] 28 #[v, .slice none 0 c]).run Tryd.prog w = .ok v w := by
  obtain ⟨i, hi, hz0, hz1, hz2⟩ := info_parts info_stZ
  rcases hown.2 with ⟨rfl, rfl⟩ | ⟨g, cap, cur, rfl, _, _, hnc, _⟩
  · simp [Builtin.append_, run_underlying Tryd.underlying28, sizeOf, typeInfo, hi, Builtin.lenOf, Builtin.firstCells]
  · simp [Builtin.append_, run_underlying Tryd.underlying28, sizeOf, typeInfo, hi, Builtin.lenOf, Builtin.firstCells, hnc, storeCells]
/-- a list of texts, behind a row of one's own -/
theorem appL {W : World} {B : Nat} {v : Value} {n m c : Nat} {xs : List Value} {p : Option Addr} {L : List (List UInt8)} (h : W.ownsRow B 9 1 v n xs) (hB : B ≤ W.heap.size) (hm : L.length = m) (hl : LSR W p L) (hN : n + m ≤ 2000000000) :
    ∃ v' W', (Builtin.append_ #[28, 28] 28 #[v, .slice p m c]).run Tryd.prog W = .ok v' W' ∧ W'.ownsRow B 9 1 v' (n + m) (xs ++ stZ L) ∧ W.grownBy W' v.ownBlock ∧ (v'.ownBlock = v.ownBlock ∨ v'.ownBlock = some W.heap.size) := by
  obtain ⟨iS, hiS, hzS0, hzS1, hzS2⟩ := info_parts info_stZ
  cases p with
  | none =>
    have hL : L = [] := by
      cases L with
      | nil => rfl
      | cons x r =>
        obtain ⟨g, o, e, _⟩ := hl W (Below.refl _ _) 0 x rfl
        cases e
    subst hL
    obtain rfl : m = 0 := hm.symm
    refine ⟨v, W, run_append_noneU B v n c xs h, ?_, gr_belZ (Below.refl _ _) _, .inl rfl⟩
    show W.ownsRow B 9 1 v n (xs ++ [])
    rw [List.append_nil]
    exact h
  | some a =>
    obtain ⟨v', W', hr, o2, g2, -, hb⟩ := run_append_own_at (P := Tryd.prog) W B 28 28 9 iS _ 1 16 Tryd.underlying28 hiS hzS0 hzS1 hzS2 rfl (by decide) v n xs h a m c (stZ L) (by rw [stZ_len, hm, Nat.mul_one]) (fun j u hu => by
      unfold stZ at hu
      rw [List.getElem?_map] at hu
      obtain ⟨x, hx, rfl⟩ := Option.map_eq_some_iff.1 hu
      obtain ⟨g, o, e, hc⟩ := hl W (Below.refl _ _) j x hx
      injection e with e
      subst e
      rw [add_spotZ rfl]
      exact hc) stZ_one (by unfold maxLen; omega) (by omega) hB
    exact ⟨v', W', hr, o2, g2, hb⟩
end Go.Proofs.YtfhlgncpleleaaaDoor
