import Derived.Test.YtecgjlpmmailjaaGreatDoorXAW
import Derived.Test.YtecgjlpmmailjaaGreatDoorXAF
import Derived.Deep.AppendLies
import Derived.Laws.OwnMore
import Derived.Test.YtecgjlpmmailjaaGreatDoorXAN
import Derived.Test.YtecgjlpmmailjaaGreatDoorXAE
import Derived.Test.YtecgjlpmmailjaaGreatDoorXAS
namespace Go.Proofs.YtecgjlpmmailjaaGreatDoor
open Go.RowKit Go.Shelf
theorem bys_byte (l : List UInt8) : Lib.byteCells l = bys l := rfl
theorem bys_app (a b : List UInt8) : bys (a ++ b) = bys a ++ bys b := by unfold bys; rw [List.map_append]
theorem bys_str (l : List UInt8) : Lib.strCells ⟨l.toArray⟩ = bys l := rfl
/-- what stands while the document's Text writes -/
def DXI (w2 wr : World) (v : Value) (l : List UInt8) : Prop := wr.ownsRow w2.heap.size 5 1 v l.length (bys l) ∧ Below w2.heap.size w2 wr
/-- a row of the document's terms lies there -/
def IRR (w : World) (p : Option Addr) (Z : List ZT) : Prop := ∀ W : World, Below w.heap.size w W → ∀ (k : Nat) (z : ZT), Z[k]? = some z → ∃ g o0, p = some ⟨g, o0, none⟩ ∧ W.cell? ⟨g, o0 + k * 2, none⟩ = some (.string ⟨z.c.toArray⟩) ∧ W.cell? ⟨g, o0 + k * 2 + 1, none⟩ = some (.slice z.q z.L.length z.k)
theorem IRR.later {w W : World} {p : Option Addr} {Z : List ZT} (h : IRR w p Z) (hb : Below w.heap.size w W) : IRR W p Z := fun X hX k t ht => h X (bel0 hb hX) k t ht
/-- a space of the document, as it is read -/
def RSR (W : World) (V : Value) (Ts : List (List UInt8 × List (List UInt8))) : Prop := ∃ (Z : List ZT) (p : Option Addr) (c : Nat), V = .slice p Z.length c ∧ Z.map ZT.cont = Ts ∧ IRR W p Z ∧ ∀ z ∈ Z, IRSt W z.q z.L
theorem RSR.later {w W : World} {V : Value} {Ts : List (List UInt8 × List (List UInt8))} (h : RSR w V Ts) (hb : Below w.heap.size w W) : RSR W V Ts := by
  obtain ⟨Z, p, c, h1, h2, h3, h4⟩ := h
  exact ⟨Z, p, c, h1, h2, h3.later hb, fun z hz => (h4 z hz).later hb⟩
theorem RSR_nil (W : World) : RSR W (.slice none 0 0) [] := ⟨[], none, 0, rfl, rfl, (fun _ _ k z h => by cases h), (fun z h => by cases h)⟩
theorem szC_step {Z : List ZT} {k : Nat} {z : ZT} (h : Z[k]? = some z) : szC ((Z.take (k + 1)).map ZT.cont) = szC ((Z.take k).map ZT.cont) + (1 + z.L.length) := by
  rw [List.take_add_one, h, List.map_append, szC_append]
  simp [szC, ZT.cont]
theorem szC_take (Z : List ZT) (k : Nat) : szC ((Z.take k).map ZT.cont) ≤ szC (Z.map ZT.cont) := by
  have e : Z.map ZT.cont = (Z.take k).map ZT.cont ++ (Z.drop k).map ZT.cont := by rw [← List.map_append, List.take_append_drop]
  rw [e, szC_append]
  omega
theorem bels2 {w w2 : World} {W : World} (hB : Below w.heap.size w w2) (h : Below w2.heap.size w2 W) (v0 v1 : Value) : Below w.heap.size w ((W.setCell ⟨w.heap.size, 0, none⟩ v0).setCell ⟨w.heap.size, 1, none⟩ v1) := ((bel0 hB h).setCell (Nat.le_refl _) _).setCell (Nat.le_refl _) _
end Go.Proofs.YtecgjlpmmailjaaGreatDoor
namespace Go.Proofs.YtecgjlpmmailjaaGreatDoor
open Go.RowKit Go.Shelf
theorem app_none0 {P : Program} {w : World} {ops : Array Oper} {rest : List Oper} {o : Oper} {a : Act} {Q : Exit → Act → World → Prop} (hgd : o.guard = none) (s x : Operand) (t : TypeId)
    (ho : o.op = .call { callee := .builtin .append, args := #[s, x], argTypes := #[t, t] })
    (base : Nat) (e : TypeId) (i : TypeInfo) (size : Nat) (ht : P.underlying t = some (.slice e)) (hi : P.info? e = some i)
    (v : Value) (n c : Nat) (xs : List Value) (hs : a.eval s = v) (hown : w.ownsRow base e size v n xs) (hx : a.eval x = .slice none 0 c)
    (h : wpList P ops Q rest (a.put o.dst v) w) : wpList P ops Q (o :: rest) a w := by
  refine wpList_plain hgd fun K hK => ?_
  have hrun : (Builtin.append_ #[t, t] o.type #[v, .slice none 0 c]).run P w = .ok v w := by
    rcases hown.2 with ⟨rfl, rfl⟩ | ⟨g, cap, cur, rfl, _, _, hnc, _⟩
    · simp [Builtin.append_, run_underlying ht, sizeOf, typeInfo, hi, Builtin.lenOf, Builtin.firstCells]
    · simp [Builtin.append_, run_underlying ht, sizeOf, typeInfo, hi, Builtin.lenOf, Builtin.firstCells, hnc, storeCells]
  unfold Oper.wp
  simp [execOp, ho, resolve, invoke, builtin, hs, hx, hrun, Result.andThen]
  exact hK _ _ h
theorem app_belC {w W X : World} {n : Nat} {e : TypeId} {sz : Nat} {v : Value} {xs : List Value} (hB : Below w.heap.size w W) (h : W.ownsRow w.heap.size e sz v n xs) (hg : W.grownBy X v.ownBlock) : Below w.heap.size w X :=
  hB.grown hg hB.size (fun k hk => (h.lt k hk).1)
theorem info_strY : (Tryz.prog.info? 9).map (fun i => (i.zero, i.size, i.bytes)) = some (some (.string ⟨#[]⟩), 1, 16) := by kernel_rfl
theorem stx_one (L : List (List UInt8)) : ∀ v ∈ stx L, v.oneCell' = true := fun v hv => by
  obtain ⟨z, _, rfl⟩ := List.mem_map.1 hv
  rfl
theorem stx_news {W : World} {ad : Addr} {L : List (List UInt8)} (h : IRSt W (some ad) L) : ∀ j u, (stx L)[j]? = some u → W.cell? (ad.add j) = some u := fun j u hu => by
  unfold stx at hu
  rw [List.getElem?_map] at hu
  cases hz : L[j]? with
  | none => rw [hz] at hu; cases hu
  | some t =>
    rw [hz] at hu
    obtain ⟨g, o0, e1, c0⟩ := h W (Below.refl _ _) j t hz
    injection e1 with e1
    subst e1
    have ea : (⟨g, o0, none⟩ : Addr).add j = ⟨g, o0 + j, none⟩ := by simp [Addr.add]
    rw [ea, c0]
    exact hu
theorem app_st {ops : Array Oper} {rest : List Oper} {o : Oper} {a : Act} {Q : Exit → Act → World → Prop} {w : World} (hgd : o.guard = none) (s x : Operand)
    (ho : o.op = .call { callee := .builtin .append, args := #[s, x], argTypes := #[22, 22] }) (base : Nat) (v : Value) (m : Nat) (xs : List Value) (hs : a.eval s = v) (hown : w.ownsRow base 9 1 v m xs)
    (p : Option Addr) (n k : Nat) (L : List (List UInt8)) (hx : a.eval x = .slice p n k) (hL : L.length = n) (hr : IRSt w p L) (hm : m + n ≤ 10000000) (hbase : base ≤ w.heap.size)
    (h : ∀ v' w', w'.ownsRow base 9 1 v' (m + n) (xs ++ stx L) → w.grownBy w' v.ownBlock → wpList Tryz.prog ops Q rest (a.put o.dst v') w') : wpList Tryz.prog ops Q (o :: rest) a w := by
  obtain ⟨iT, hiT, hzT0, hzT1, hzT2⟩ := info_parts info_strY
  cases p with
  | none =>
    have hz : L = [] := by
      cases hc : L with
      | nil => rfl
      | cons z l =>
        obtain ⟨g, o0, e, -⟩ := hr w (Below.refl _ _) 0 z (by rw [hc]; rfl)
        cases e
    subst hz
    have hn : n = 0 := hL.symm
    subst hn
    refine app_none0 hgd s x 22 ho base 9 iT 1 Tryz.underlying22 hiT v m k xs hs hown hx (h v w ?_ ⟨rfl, rfl, rfl, Nat.le_refl _, fun _ _ _ => rfl⟩)
    have e : xs ++ stx [] = xs := by simp [stx]
    rw [e]
    exact hown
  | some ad =>
    exact wpList_append_own _ hgd s x 22 ho base 9 iT _ 1 16 Tryz.underlying22 hiT hzT0 hzT1 hzT2 rfl (by decide) v m xs hs hown ad n k (stx L) hx (by simp [stx, hL]) (stx_news hr) (stx_one L) (by unfold maxLen; omega) (by omega) hbase (fun v' w' h1 h2 _ => h v' w' h1 h2)
end Go.Proofs.YtecgjlpmmailjaaGreatDoor
namespace Go.Proofs.YtecgjlpmmailjaaGreatDoor
open Go.RowKit Go.Shelf
def xpE (b lim : Int) (Ts : List (List UInt8 × List (List UInt8))) : Int := if b = 0 then 11 else if lim < 0 ∨ 2048 < lim then 1 else if exE splT lim.toNat [] Ts = none then 3 else 0
def xpL (b lim : Int) (Ts : List (List UInt8 × List (List UInt8))) : List (List UInt8) := if b = 0 then [] else if lim < 0 ∨ 2048 < lim then [] else (exE splT lim.toNat [] Ts).getD []
def XPD (b lim : Int) (Ts : List (List UInt8 × List (List UInt8))) (E : Int) (L : List (List UInt8)) : Prop := E = xpE b lim Ts ∧ L = xpL b lim Ts
def XPQ (w : World) (b lim : Int) (Ts : List (List UInt8 × List (List UInt8))) (e : Ending) (w' : World) : Prop := ∃ v E L, e = .returned (.tuple #[v, .int .i64 E]) ∧ XPD b lim Ts E L ∧ w'.ownsRow w.heap.size 9 1 v L.length (stx L) ∧ Below w.heap.size w w'
theorem xpq_mk {w w' : World} {b lim : Int} {Ts : List (List UInt8 × List (List UInt8))} {v : Value} {E : Int} {L : List (List UInt8)} (h1 : XPD b lim Ts E L) (h2 : w'.ownsRow w.heap.size 9 1 v L.length (stx L)) (h3 : Below w.heap.size w w') : XPQ w b lim Ts (.returned (.tuple #[v, .int .i64 E])) w' := ⟨v, E, L, rfl, h1, h2, h3⟩
theorem xpd_w (lim : Int) (Ts : List (List UInt8 × List (List UInt8))) : XPD 0 lim Ts 11 [] := ⟨by unfold xpE; rw [if_pos rfl], by unfold xpL; rw [if_pos rfl]⟩
theorem xpd_a {b lim : Int} (Ts : List (List UInt8 × List (List UInt8))) (hb : ¬ b = 0) (h : lim < 0 ∨ 2048 < lim) : XPD b lim Ts 1 [] := ⟨by unfold xpE; rw [if_neg hb, if_pos h], by unfold xpL; rw [if_neg hb, if_pos h]⟩
theorem xpd_n {b : Int} {M : Nat} {Ts : List (List UInt8 × List (List UInt8))} (hb : ¬ b = 0) (hM : M ≤ 2048) (h : exE splT M [] Ts = none) : XPD b (M : Int) Ts 3 [] := by
  have h2 : ¬ ((M : Int) < 0 ∨ 2048 < (M : Int)) := by omega
  have e : ((M : Int)).toNat = M := by omega
  refine ⟨?_, ?_⟩
  · unfold xpE; rw [if_neg hb, if_neg h2, e, if_pos h]
  · unfold xpL; rw [if_neg hb, if_neg h2, e, h]; rfl
theorem xpd_s {b : Int} {M : Nat} {Ts : List (List UInt8 × List (List UInt8))} {L : List (List UInt8)} (hb : ¬ b = 0) (hM : M ≤ 2048) (h : exE splT M [] Ts = some L) : XPD b (M : Int) Ts 0 L := by
  have h2 : ¬ ((M : Int) < 0 ∨ 2048 < (M : Int)) := by omega
  have e : ((M : Int)).toNat = M := by omega
  refine ⟨?_, ?_⟩
  · unfold xpE; rw [if_neg hb, if_neg h2, e, h]; rfl
  · unfold xpL; rw [if_neg hb, if_neg h2, e, h]; rfl
theorem exS_succ {l : List (List UInt8)} {k : Nat} {c d : List UInt8} (h : l[k]? = some c) : exS splT (l.take (k + 1)) d = exS splT (l.take k) d ++ splT c d := by
  rw [List.take_add_one, h, exS_app]
  show _ ++ exS splT [c] d = _
  rw [exS_one]
theorem exS_len {n : Nat} {l : List (List UInt8)} {d : List UInt8} (h : gdW n l) : (exS splT l d).length ≤ 256 * l.length := by
  induction l with
  | nil => simp [exS]
  | cons c r ih =>
    have e : exS splT (c :: r) d = splT c d ++ exS splT r d := rfl
    have h1 := spl_len c d (good_len (h c List.mem_cons_self).1)
    have h2 := ih (fun x hx => h x (List.mem_cons_of_mem _ hx))
    rw [e, List.length_append, List.length_cons]
    omega
theorem exO_cons (N M : Nat) (l : List (List UInt8)) (d : List UInt8) (r : List (List UInt8)) (h : N + l.length ≤ M) : exO splT N M l (d :: r) = exO splT N M (exS splT l d) r := by
  show (decide _ && _) = _
  rw [decide_eq_true h]
  rfl
theorem exO_bad (N M : Nat) (l L : List (List UInt8)) (h : ¬ N + l.length ≤ M) : exO splT N M l L = false := by
  cases L with
  | nil => exact decide_eq_false h
  | cons d r =>
    show (decide _ && _) = _
    rw [decide_eq_false h]
    rfl
theorem step_app_st {ops : Array Oper} {o : Oper} {a : Act} {w : World} {K : Act → World → Prop} {Q : Exit → Act → World → Prop} {E : Prop} (hgd : o.guard = none) (s x : Operand)
    (ho : o.op = .call { callee := .builtin .append, args := #[s, x], argTypes := #[22, 22] }) (base : Nat) (v : Value) (m : Nat) (xs : List Value) (hs : a.eval s = v) (hown : w.ownsRow base 9 1 v m xs)
    (p : Option Addr) (n k : Nat) (L : List (List UInt8)) (hx : a.eval x = .slice p n k) (hL : L.length = n) (hr : IRSt w p L) (hm : m + n ≤ 10000000) (hbase : base ≤ w.heap.size)
    (h : ∀ v' w', w'.ownsRow base 9 1 v' (m + n) (xs ++ stx L) → w.grownBy w' v.ownBlock → K (a.put o.dst v') w') : if Region.wanted o (yielded ops a.tmps) = true then Oper.wp Tryz.prog o a w K Q else E := by
  have hw : Region.wanted o (yielded ops a.tmps) = true := by simp [Region.wanted, hgd]
  rw [if_pos hw]
  obtain ⟨iT, hiT, hzT0, hzT1, hzT2⟩ := info_parts info_strY
  cases p with
  | none =>
    have hz : L = [] := by
      cases hc : L with
      | nil => rfl
      | cons z l =>
        obtain ⟨g, o0, e, -⟩ := hr w (Below.refl _ _) 0 z (by rw [hc]; rfl)
        cases e
    subst hz
    have hn : n = 0 := hL.symm
    subst hn
    have hrun : (Builtin.append_ #[22, 22] o.type #[v, .slice none 0 k]).run Tryz.prog w = .ok v w := by
      rcases hown.2 with ⟨rfl, rfl⟩ | ⟨g, cap, cur, rfl, _, _, hnc, _⟩
      · simp [Builtin.append_, run_underlying Tryz.underlying22, sizeOf, typeInfo, hiT, Builtin.lenOf, Builtin.firstCells]
      · simp [Builtin.append_, run_underlying Tryz.underlying22, sizeOf, typeInfo, hiT, Builtin.lenOf, Builtin.firstCells, hnc, storeCells]
    have h9 := h v w (by have e : xs ++ stx [] = xs := by simp [stx]
                         rw [e]; exact hown) ⟨rfl, rfl, rfl, Nat.le_refl _, fun _ _ _ => rfl⟩
    unfold Oper.wp
    simp [execOp, ho, resolve, invoke, builtin, hs, hx, hrun, Result.andThen]
    exact h9
  | some ad =>
    exact wp_append_own w s x 22 ho base 9 iT _ 1 16 Tryz.underlying22 hiT hzT0 hzT1 hzT2 rfl (by decide) v m xs hs hown ad n k (stx L) hx (by simp [stx, hL]) (stx_news hr) (stx_one L) (by unfold maxLen; omega) (by omega) hbase (fun v' w' h1 h2 _ => h v' w' h1 h2)
end Go.Proofs.YtecgjlpmmailjaaGreatDoor
namespace Go.Proofs.YtecgjlpmmailjaaGreatDoor
open Go.RowKit Go.Shelf
end Go.Proofs.YtecgjlpmmailjaaGreatDoor
namespace Go.Proofs.YtecgjlpmmailjaaGreatDoor
open Go.RowKit Go.Shelf
def rtc (z : ZT) : List Value := [.string ⟨z.c.toArray⟩, .slice z.q z.L.length z.k]
def rts (Z : List ZT) : List Value := Z.flatMap rtc
theorem rts_snoc (Z : List ZT) (z : ZT) : rts (Z ++ [z]) = rts Z ++ [.string ⟨z.c.toArray⟩, .slice z.q z.L.length z.k] := by simp [rts, rtc]
theorem rts_len (Z : List ZT) : (rts Z).length = Z.length * 2 := by
  induction Z with
  | nil => rfl
  | cons x l ih => simp only [rts, List.flatMap_cons, List.length_append, List.length_cons] at ih ⊢; rw [ih]; simp [rtc]; omega
theorem rts_get (Z : List ZT) (k m : Nat) (hm : m < 2) : (rts Z)[k * 2 + m]? = (Z[k]?).bind (fun t => (rtc t)[m]?) := by
  induction Z generalizing k with
  | nil => simp [rts]
  | cons t l ih =>
    have hc : rts (t :: l) = rtc t ++ rts l := rfl
    have hl : (rtc t).length = 2 := rfl
    cases k with
    | zero =>
      rw [hc, List.getElem?_append_left (by rw [hl]; omega)]
      simp
    | succ k =>
      rw [hc, List.getElem?_append_right (by rw [hl]; omega), hl, show (k + 1) * 2 + m - 2 = k * 2 + m from by omega, ih]
      simp
/-- a term of the document, as it is read -/
def YOK (w : World) (z : ZT) : Prop := IRSt w z.q z.L ∧ z.L.length ≤ 1000000 ∧ good z.c = true ∧ ∀ t ∈ z.L, good t = true
theorem YOK.later {w W : World} {z : ZT} (h : YOK w z) (hb : Below w.heap.size w W) : YOK W z := ⟨h.1.later hb, h.2⟩
theorem anyZ_no {T : List ZT} {p : ZT → Bool} {n : Nat} (hn : T.length ≤ n) (h : ∀ j t, j < n → T[j]? = some t → p t = false) : T.any p = false := by
  rw [List.any_eq_false]
  intro t ht
  obtain ⟨j, hj, he⟩ := List.getElem_of_mem ht
  rw [h j t (by omega) (by rw [List.getElem?_eq_getElem hj, he])]
  simp
theorem fltZ_step {K : List ZT} {x y : ZT} {j : Nat} (h : K[j]? = some y) : (K.take (j + 1)).filter (fun y => !cvB y x) = (K.take j).filter (fun y => !cvB y x) ++ (if cvB y x = true then [] else [y]) := by
  rw [List.take_add_one, h, List.filter_append]
  congr 1
  cases hc : cvB y x <;> simp [hc]
end Go.Proofs.YtecgjlpmmailjaaGreatDoor
namespace Go.Proofs.YtecgjlpmmailjaaGreatDoor
open Go.RowKit Go.Shelf
def ZT.ln (z : ZT) : List (List UInt8) := z.c :: z.L
/-- what stands while the least is taken again and again -/
def SEL (K0 K D : List ZT) : Prop := (D ++ K).Perm K0 ∧ (D.map ZT.ln).Pairwise (fun a b => leLn a b = true) ∧ ∀ d ∈ D, ∀ x ∈ K, leLn d.ln x.ln = true
theorem set_perm {z y : ZT} : ∀ (L : List ZT) (k : Nat), L[k]? = some z → (L.set k y ++ [z]).Perm (L ++ [y])
  | [], k, h => by cases h
  | a :: l, 0, h => by
    obtain rfl : a = z := by simpa using h
    rw [List.set_cons_zero, List.cons_append]
    exact ((List.perm_append_comm (l₁ := l) (l₂ := [a])).cons y).trans ((List.Perm.swap a y l).trans ((List.perm_append_comm (l₁ := [y]) (l₂ := l)).cons a))
  | a :: l, k + 1, h => by
    rw [List.set_cons_succ, List.cons_append, List.cons_append]
    exact (set_perm l k (by simpa using h)).cons a
theorem cut_perm {K : List ZT} {k m : Nat} {z y : ZT} (hm : K.length = m + 1) (hz : K[k]? = some z) (hy : K[m]? = some y) : ((K.set k y).take m ++ [z]).Perm K := by
  have hk := (List.getElem?_eq_some_iff.1 hz).1
  have e : K = K.take m ++ [y] := by
    have h1 := List.take_add_one (l := K) (i := m)
    rw [hy, List.take_of_length_le (by omega)] at h1
    exact h1
  by_cases h : k = m
  · subst h
    obtain rfl : y = z := by rw [hz] at hy; exact (Option.some.inj hy).symm
    rw [List.take_set_of_le (by omega), ← e]
  · have h2 : (K.set k y).take m = (K.take m).set k y := by rw [List.take_set]
    rw [h2]
    refine (set_perm (K.take m) k ?_).trans (by rw [← e])
    rw [List.getElem?_take_of_lt (by omega)]
    exact hz
theorem SEL.step {K0 K D : List ZT} {k m : Nat} {z y : ZT} (h : SEL K0 K D) (hm : K.length = m + 1) (hz : K[k]? = some z) (hy : K[m]? = some y) (hmin : ∀ x ∈ K, leLn z.ln x.ln = true) : SEL K0 ((K.set k y).take m) (D ++ [z]) := by
  have hp := cut_perm hm hz hy
  have hmem : ∀ x ∈ (K.set k y).take m, x ∈ K := fun x hx => hp.mem_iff.1 (List.mem_append_left _ hx)
  refine ⟨?_, ?_, ?_⟩
  · refine List.Perm.trans ?_ h.1
    rw [List.append_assoc]
    exact ((List.perm_append_comm).trans hp).append_left D
  · rw [List.map_append, List.pairwise_append]
    refine ⟨h.2.1, by simp, fun a ha b hb => ?_⟩
    obtain ⟨d, hd, rfl⟩ := List.mem_map.1 ha
    obtain ⟨e, he, rfl⟩ := List.mem_map.1 hb
    obtain rfl := List.mem_singleton.1 he
    exact h.2.2 d hd _ (List.mem_of_getElem? hz)
  · intro d hd x hx
    rcases List.mem_append.1 hd with hd | hd
    · exact h.2.2 d hd x (hmem x hx)
    · obtain rfl := List.mem_singleton.1 hd
      exact hmin x (hmem x hx)
theorem SEL_start (K : List ZT) : SEL K K [] := ⟨List.Perm.refl _, List.Pairwise.nil, fun d h => by cases h⟩
theorem SEL.done {K0 D : List ZT} (h : SEL K0 [] D) : D.map ZT.cont = (srtLn ((K0.map ZT.cont).map (fun t => t.1 :: t.2))).map (fun S => (S.headD [], S.tail)) := by
  have hp : D.Perm K0 := by have := h.1; rwa [List.append_nil] at this
  have e : D.map ZT.ln = srtLn (K0.map ZT.ln) := srtLn_eq (hp.map _) h.2.1
  have e2 : (K0.map ZT.cont).map (fun t => t.1 :: t.2) = K0.map ZT.ln := by rw [List.map_map]; rfl
  rw [e2, ← e, List.map_map]
  rfl
theorem le_refl_ln (a : List (List UInt8)) : leLn a a = true := by unfold leLn; rw [cmpLn_self]; rfl
theorem le_of_lt_ln {a b : List (List UInt8)} (h : cmpLn a b < 0) : leLn a b = true := by unfold leLn; simp; omega
theorem le_of_not_ln {a b : List (List UInt8)} (h : ¬ cmpLn a b < 0) : leLn b a = true := by
  unfold leLn
  simp
  rcases cmpLn_three a b with ⟨h1, -⟩ | ⟨-, h2⟩ | ⟨-, h2⟩ <;> omega
theorem rts_set (K : List ZT) (k : Nat) (t : ZT) (hk : k < K.length) : ((rts K).set (k * 2) (.string ⟨t.c.toArray⟩)).set (k * 2 + 1) (.slice t.q t.L.length t.k) = rts (K.set k t) := by
  induction K generalizing k with
  | nil => exact absurd hk (by simp)
  | cons a l ih =>
    cases k with
    | zero => rfl
    | succ k =>
      have h1 := ih k (by simpa using hk)
      rw [List.set_cons_succ]
      show ((_ :: _ :: rts l).set ((k + 1) * 2) _).set ((k + 1) * 2 + 1) _ = _ :: _ :: rts (l.set k t)
      rw [← h1, show (k + 1) * 2 = k * 2 + 1 + 1 from by omega, show k * 2 + 1 + 1 + 1 = (k * 2 + 1) + 1 + 1 from rfl, List.set_cons_succ, List.set_cons_succ, List.set_cons_succ, List.set_cons_succ]
theorem rts_take (L : List ZT) (i : Nat) : (rts L).take (i * 2) = rts (L.take i) := by
  induction L generalizing i with
  | nil => simp [rts]
  | cons a l ih =>
    cases i with
    | zero => simp [rts]
    | succ i =>
      show (_ :: _ :: rts l).take ((i + 1) * 2) = _ :: _ :: rts (l.take i)
      rw [show (i + 1) * 2 = i * 2 + 1 + 1 from by omega, List.take_succ_cons, List.take_succ_cons, ih]
end Go.Proofs.YtecgjlpmmailjaaGreatDoor
namespace Go.Proofs.YtecgjlpmmailjaaGreatDoor
open Go.RowKit Go.Shelf
/-- terms in the document's order -/
def frmD (Ts : List (List UInt8 × List (List UInt8))) : List (List UInt8 × List (List UInt8)) := (srtLn (Ts.map (fun t => t.1 :: t.2))).map (fun S => (S.headD [], S.tail))
end Go.Proofs.YtecgjlpmmailjaaGreatDoor
namespace Go.Proofs.YtecgjlpmmailjaaGreatDoor
open Go.RowKit Go.Shelf
/-- a term with its list in order -/
def sof (t : List UInt8 × List (List UInt8)) : List UInt8 × List (List UInt8) := (t.1, srtT t.2)
/-- the document's terms, each in its form -/
def stD (Ts : List (List UInt8 × List (List UInt8))) : List (List UInt8 × List (List UInt8)) := Ts.filterMap (fun t => (setO t.1 t.2).map (fun R => (t.1, srtT R)))
theorem stD_eq (Ts : List (List UInt8 × List (List UInt8))) : stD Ts = (stl Ts).map sof := by
  unfold stD stl
  rw [List.map_filterMap]
  congr 1
  funext t
  cases setO t.1 t.2 <;> rfl
theorem all_permL {T U : List (List UInt8)} (hp : T.Perm U) (p : List UInt8 → Bool) : T.all p = U.all p := by
  rw [Bool.eq_iff_iff, List.all_eq_true, List.all_eq_true]
  exact ⟨fun h x hx => h x (hp.mem_iff.2 hx), fun h x hx => h x (hp.mem_iff.1 hx)⟩
theorem cvC_sof (a b : List UInt8 × List (List UInt8)) : cvC (sof a) (sof b) = cvC a b := by
  unfold cvC sof
  simp only
  rw [all_permL (srtT_perm b.2)]
  congr 2
  funext n
  rw [any_perm (srtT_perm a.2)]
theorem topCS_sof (T : List (List UInt8 × List (List UInt8))) (x : List UInt8 × List (List UInt8)) : topCS (T.map sof) (sof x) = (topCS T x).map sof := by
  unfold topCS
  have h1 : (T.map sof).any (fun y => cvC (sof x) y) = T.any (fun y => cvC x y) := by
    rw [List.any_map]
    congr 1
    funext y
    exact cvC_sof x y
  rw [h1]
  split
  · rfl
  · rw [List.map_append, List.filter_map]
    congr 2
    congr 1
    funext y
    show (!cvC (sof y) (sof x)) = !cvC y x
    rw [cvC_sof]
theorem topF_sof (L : List (List UInt8 × List (List UInt8))) : ∀ T : List (List UInt8 × List (List UInt8)), (L.map sof).foldl topCS (T.map sof) = (L.foldl topCS T).map sof := by
  induction L with
  | nil => intro T; rfl
  | cons x l ih =>
    intro T
    rw [List.map_cons, List.foldl_cons, List.foldl_cons, topCS_sof, ih]
theorem topC_sof (L : List (List UInt8 × List (List UInt8))) : topC (L.map sof) = (topC L).map sof := topF_sof L []
/-- the document's form is the program's -/
theorem frm_eq (Ts : List (List UInt8 × List (List UInt8))) : (srtLn ((topC (stD Ts)).map (fun t => t.1 :: t.2))).map (fun S => (S.headD [], S.tail)) = ordT (topC (stl Ts)) := by
  rw [stD_eq, topC_sof, List.map_map]
  rfl
end Go.Proofs.YtecgjlpmmailjaaGreatDoor
namespace Go.Proofs.YtecgjlpmmailjaaGreatDoor
open Go.RowKit Go.Shelf
def DPS (w w' : World) (b : Int) (l : List UInt8) (e : Ending) : Prop := ∃ V, e = .returned (.tuple #[.agg #[.int .i64 (prB b l), V], .int .i64 (prE b l)]) ∧ RSR w' V (prT b l) ∧ Below w.heap.size w w'
theorem DPS_no {w w' : World} {b : Int} {l : List UInt8} {c : Int} (h : prE b l = c) (hc : c ≠ 0) (hb : Below w.heap.size w w') : DPS w w' b l (.returned (.tuple #[.agg #[.int .i64 0, .slice none 0 0], .int .i64 c])) := by
  have h1 : prE b l ≠ 0 := by rw [h]; exact hc
  refine ⟨.slice none 0 0, ?_, ?_, hb⟩
  · unfold prB
    rw [if_neg h1, h]
  · unfold prT
    rw [if_neg h1]
    exact RSR_nil _
theorem tcon_len (p : List UInt8) : (prts 45 p).length = 1 + (tcon p).2.length := by
  have := prts_ne 45 p
  unfold tcon
  rw [List.length_tail]
  omega
theorem tcon_step {P : List (List UInt8)} {i : Nat} {p : List UInt8} (h : P[i]? = some p) : szC ((P.take (i + 1)).map tcon) = szC ((P.take i).map tcon) + (prts 45 p).length := by
  rw [List.take_add_one, h, List.map_append, szC_append, tcon_len]
  simp [szC]
theorem okP_cub (b : Nat) (q : List UInt8) : okP b q = (cubB q && (q.length == b)) := by
  unfold okP
  congr 1
  rw [Bool.eq_iff_iff, cubB_iff, decide_eq_true_eq, refP_zero]
theorem all_upto {α : Type} {L : List α} {p : α → Bool} {n : Nat} (hn : L.length ≤ n) (h : ∀ j t, j < n → L[j]? = some t → p t = true) : L.all p = true := by
  rw [List.all_eq_true]
  intro t ht
  obtain ⟨j, hj, he⟩ := List.getElem_of_mem ht
  exact h j t (by omega) (by rw [List.getElem?_eq_getElem hj, he])
theorem far_cell {W X : World} {b : Nat} {x y u : Value} {i : Int} {q : Option Addr} {n c : Nat} {T : TypeId} {fr : Nat × Nat} {g o : Nat} {t : ByteArray} (hb : W.heap[b]? = some (.cells #[.int .i64 i, .slice q n c] T fr)) (hs : ∃ o', W.cell? ⟨g, o', none⟩ = some (.string t)) (hX : Below ((W.setCell ⟨b, 0, none⟩ x).setCell ⟨b, 1, none⟩ y).heap.size ((W.setCell ⟨b, 0, none⟩ x).setCell ⟨b, 1, none⟩ y) X) (hc : W.cell? ⟨g, o, none⟩ = some u) : X.cell? ⟨g, o, none⟩ = some u := by
  have hne : g ≠ b := fun e => by
    subst e
    obtain ⟨o', h⟩ := hs
    unfold World.cell? at h
    rw [hb] at h
    match o', h with
    | 0, h => simp at h
    | 1, h => simp at h
    | k + 2, h => simp at h
  have hg := World.block_lt_of_cell? W _ hc
  have e0 : ((W.setCell ⟨b, 0, none⟩ x).setCell ⟨b, 1, none⟩ y).heap[g]? = W.heap[g]? := (heap_setCell_other _ ⟨b, 1, none⟩ g y (fun e => hne e)).trans (heap_setCell_other _ ⟨b, 0, none⟩ g x (fun e => hne e))
  have e1 : X.heap[g]? = W.heap[g]? := (hX.block g (by simp; exact hg)).trans e0
  rw [World.cell?_of_block (a := ⟨g, o, none⟩) e1]
  exact hc
theorem RSR_store {W : World} {b : Nat} {x y V : Value} {i : Int} {q : Option Addr} {n c : Nat} {T : TypeId} {fr : Nat × Nat} {Ts : List (List UInt8 × List (List UInt8))} (hb : W.heap[b]? = some (.cells #[.int .i64 i, .slice q n c] T fr)) (h : RSR W V Ts) : RSR ((W.setCell ⟨b, 0, none⟩ x).setCell ⟨b, 1, none⟩ y) V Ts := by
  obtain ⟨Z, p, cp, h1, h2, h3, h4⟩ := h
  refine ⟨Z, p, cp, h1, h2, fun X hX k z hz => ?_, fun z hz X hX k t ht => ?_⟩
  · obtain ⟨g, o0, e, c0, c1⟩ := h3 W (Below.refl _ _) k z hz
    exact ⟨g, o0, e, far_cell hb ⟨_, c0⟩ hX c0, far_cell hb ⟨_, c0⟩ hX c1⟩
  · obtain ⟨g, o0, e, c0⟩ := h4 z hz W (Below.refl _ _) k t ht
    exact ⟨g, o0, e, far_cell hb ⟨_, c0⟩ hX c0⟩
theorem own_other {W X : World} {B n sz B' n' sz' : Nat} {e e' : TypeId} {v v' : Value} {xs xs' : List Value} (h : W.ownsRow B e sz v n xs) (h' : W.ownsRow B' e' sz' v' n' xs') (hne : e ≠ e') (hg : W.grownBy X v'.ownBlock) : X.ownsRow B e sz v n xs := by
  refine ⟨h.1, ?_⟩
  rcases h.2 with h1 | ⟨g, cap, cur, h1, h2, h3, h4⟩
  · exact .inl h1
  · refine .inr ⟨g, cap, cur, h1, h2, (hg.block g (lt_of_get3 h3) (fun e2 => ?_)).trans h3, h4⟩
    rcases own_shapeQ h' with ⟨rfl, -⟩ | ⟨g', c', rfl, -, -, cur', h5⟩
    · cases e2
    · have e3 : g = g' := Option.some.inj e2
      subst e3
      rw [h3] at h5
      injection h5 with h5
      injection h5 with _ h6 _
      exact hne h6
end Go.Proofs.YtecgjlpmmailjaaGreatDoor
namespace Go.Proofs.YtecgjlpmmailjaaGreatDoor
open Go.RowKit Go.Shelf
theorem ordT_perm (X : List (List UInt8 × List (List UInt8))) : (ordT X).Perm (X.map sof) := by
  unfold ordT
  refine ((srtLn_perm _).map _).trans ?_
  rw [List.map_map]
  exact List.Perm.refl _
theorem szC_perm {A B : List (List UInt8 × List (List UInt8))} (h : A.Perm B) : szC A = szC B := by
  induction h with
  | nil => rfl
  | cons x _ ih => rw [szC, szC, ih]
  | swap x y l => simp only [szC]; omega
  | trans _ _ h1 h2 => exact h1.trans h2
theorem szC_sof (X : List (List UInt8 × List (List UInt8))) : szC (X.map sof) = szC X := by
  induction X with
  | nil => rfl
  | cons x l ih =>
    rw [List.map_cons, szC, szC, ih]
    show 1 + (srtT x.2).length + _ = _
    rw [srtT_len]
theorem szC_ord (X : List (List UInt8 × List (List UInt8))) : szC (ordT X) = szC X := (szC_perm (ordT_perm X)).trans (szC_sof X)
theorem topCF_mem (L : List (List UInt8 × List (List UInt8))) : ∀ (T : List (List UInt8 × List (List UInt8))) (t : List UInt8 × List (List UInt8)), t ∈ L.foldl topCS T → t ∈ T ∨ t ∈ L := by
  induction L with
  | nil => intro T t h; exact .inl h
  | cons x l ih =>
    intro T t h
    rw [List.foldl_cons] at h
    rcases ih _ t h with h | h
    · unfold topCS at h
      split at h
      · exact .inl h
      · rcases List.mem_append.1 h with h | h
        · exact .inl (List.mem_filter.1 h).1
        · obtain rfl := List.mem_singleton.1 h
          exact .inr List.mem_cons_self
    · exact .inr (List.mem_cons_of_mem _ h)
theorem gdC_top {L : List (List UInt8 × List (List UInt8))} (h : gdC L) : gdC (topC L) := fun t ht => by
  rcases topCF_mem L [] t ht with h1 | h1
  · cases h1
  · exact h t h1
theorem gdC_sof {L : List (List UInt8 × List (List UInt8))} (h : gdC L) : gdC (L.map sof) := fun t ht => by
  obtain ⟨x, hx, rfl⟩ := List.mem_map.1 ht
  exact ⟨(h x hx).1, fun y hy => (h x hx).2 y ((srtT_perm x.2).mem_iff.1 hy)⟩
theorem gdC_ord {L : List (List UInt8 × List (List UInt8))} (h : gdC L) : gdC (ordT L) := fun t ht => gdC_sof h t ((ordT_perm L).mem_iff.1 ht)
theorem gdC_stl {L : List (List UInt8 × List (List UInt8))} (h : gdC L) : gdC (stl L) := fun t ht => by
  unfold stl at ht
  obtain ⟨x, hx, he⟩ := List.mem_filterMap.1 ht
  cases hs : setO x.1 x.2 with
  | none => rw [hs] at he; cases he
  | some R =>
    rw [hs] at he
    obtain rfl := Option.some.inj he
    refine ⟨(h x hx).1, fun y hy => ?_⟩
    have h2 := (put_some hs).1
    have h3 : y ∈ putL (lesL x.1 x.2) := by rw [h2]; exact (srtT_perm R).mem_iff.2 hy
    exact lesL_good (h x hx).1 (h x hx).2 y (putL_mem h3)
theorem gdC_tcon {b : Nat} {P : List (List UInt8)} (h : P.all (okT b) = true) : gdC (P.map tcon) := fun t ht => by
  obtain ⟨p, hp, rfl⟩ := List.mem_map.1 ht
  have h1 := List.all_eq_true.1 h p hp
  have hq : ∀ q ∈ prts 45 p, good q = true := fun q hq => by
    have h2 := List.all_eq_true.1 h1 q hq
    rw [okP_cub] at h2
    exact ((cubB_iff q).1 (Bool.and_eq_true_iff.1 h2).1).2
  have hne := prts_ne 45 p
  unfold tcon
  cases hc : prts 45 p with
  | nil => rw [hc] at hne; exact absurd hne (by simp)
  | cons c r =>
    rw [hc] at hq
    exact ⟨hq c List.mem_cons_self, fun x hx => hq x (List.mem_cons_of_mem _ hx)⟩
/-- what Parse gives has good cubes, and not too many -/
theorem prT_ok (b : Int) (l : List UInt8) : gdC (prT b l) ∧ szC (prT b l) ≤ 128 := by
  unfold prT
  split
  · rename_i h0
    split
    · exact ⟨(fun t h => by cases h), Nat.zero_le _⟩
    · rename_i hn
      unfold prE at h0
      split at h0
      · cases h0
      · split at h0
        · cases h0
        · try rw [if_neg hn] at h0
          split at h0
          · cases h0
          · rename_i hall
            split at h0
            · cases h0
            · rename_i hsz
              have hall' : (prts 43 l).all (okT b.toNat) = true := by
                cases h : (prts 43 l).all (okT b.toNat)
                · exact absurd h hall
                · rfl
              refine ⟨gdC_ord (gdC_top (gdC_stl (gdC_tcon hall'))), ?_⟩
              rw [szC_ord]
              have := szC_top ((prts 43 l).map tcon)
              omega
  · exact ⟨(fun t h => by cases h), Nat.zero_le _⟩
end Go.Proofs.YtecgjlpmmailjaaGreatDoor
