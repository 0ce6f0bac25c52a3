import Derived.Test.YtfcdaljhbeogeaaBL
namespace Go.Proofs.Ytfcdaljhbeogeaa
open Go.RowKit
/-- the length that is known of a node; -1: none -/
def gF (F : List Int) (v : Nat) : Int := F.getD v (-1)
theorem gF_set {F : List Int} {n : Nat} (hn : n < F.length) (x : Int) (v : Nat) : gF (F.set n x) v = if v = n then x else gF F v := by
  unfold gF
  simp only [List.getD, List.getElem?_set]
  by_cases e : v = n
  · subst e; simp [hn]
  · rw [if_neg (fun h => e h.symm), if_neg e]
theorem gF_lt {F : List Int} {v : Nat} (h : 0 ≤ gF F v) : v < F.length := by
  refine Nat.lt_of_not_le (fun hl => ?_)
  unfold gF at h
  simp only [List.getD, List.getElem?_eq_none hl, Option.getD_none] at h
  omega
/-- lengths that are those of shortest ways -/
structure Cert (E : List IRt) (D : List Nat) (F : List Int) : Prop where
  dom : ∀ v, gF F v = -1 ∨ 0 ≤ gF F v
  dst : ∀ d ∈ D, gF F d = 0
  rel : ∀ e ∈ E, 0 ≤ gF F e.2.1.toNat → 0 ≤ gF F e.1.toNat ∧ gF F e.1.toNat ≤ gF F e.2.1.toNat + e.2.2.1
  tgt : ∀ v, 0 ≤ gF F v → (gF F v = 0 ∧ v ∈ D) ∨ ∃ e ∈ E, e.1.toNat = v ∧ 0 ≤ gF F e.2.1.toNat ∧ gF F v = gF F e.2.1.toNat + e.2.2.1
theorem cert_le {E : List IRt} {D : List Nat} {F G : List Int} (hE : ∀ e ∈ E, 1 ≤ e.2.2.1) (h1 : Cert E D F) (h2 : Cert E D G) : ∀ (n v : Nat), gF F v = (n : Int) → 0 ≤ gF G v ∧ gF G v ≤ gF F v := by
  intro n
  induction n using Nat.strongRecOn with
  | ind n ih =>
    intro v hv
    rcases h1.tgt v (by omega) with ⟨a, b⟩ | ⟨e, he, e1, e2, e3⟩
    · have := h2.dst v b
      omega
    · have hc := hE e he
      obtain ⟨m, hm⟩ : ∃ m : Nat, gF F e.2.1.toNat = (m : Int) := ⟨(gF F e.2.1.toNat).toNat, by omega⟩
      have i := ih m (by omega) e.2.1.toNat hm
      have r := h2.rel e he i.1
      rw [e1] at r
      omega
theorem cert_uniq {E : List IRt} {D : List Nat} {F G : List Int} (hE : ∀ e ∈ E, 1 ≤ e.2.2.1) (hl : F.length = G.length) (h1 : Cert E D F) (h2 : Cert E D G) : F = G := by
  have key : ∀ v, gF F v = gF G v := fun v => by
    rcases h1.dom v with a | a
    · rcases h2.dom v with b | b
      · omega
      · have := cert_le hE h2 h1 (gF G v).toNat v (by omega)
        omega
    · have i := cert_le hE h1 h2 (gF F v).toNat v (by omega)
      have j := cert_le hE h2 h1 (gF G v).toNat v (by omega)
      omega
  apply List.ext_getElem?
  intro v
  by_cases hv : v < F.length
  · have := key v
    unfold gF at this
    simp only [List.getD, List.getElem?_eq_getElem hv, List.getElem?_eq_getElem (hl ▸ hv), Option.getD_some] at this
    rw [List.getElem?_eq_getElem hv, List.getElem?_eq_getElem (hl ▸ hv), this]
  · rw [List.getElem?_eq_none (by omega), List.getElem?_eq_none (by omega)]
/-- how far the search has come: settled, open; of the settled t the first edges of a list are done -/
structure DI (E : List IRt) (D : List Nat) (F : List Int) (V Sd : List Nat) : Prop where
  dom : ∀ v, gF F v = -1 ∨ 0 ≤ gF F v
  mem : ∀ v, 0 ≤ gF F v ↔ v ∈ V ∨ v ∈ Sd
  nod : (Sd ++ V).Nodup
  tgt : ∀ v, 0 ≤ gF F v → (gF F v = 0 ∧ v ∈ D) ∨ ∃ e ∈ E, e.1.toNat = v ∧ e.2.1.toNat ∈ Sd ∧ gF F v = gF F e.2.1.toNat + e.2.2.1
  ord : ∀ s ∈ Sd, ∀ v ∈ V, gF F s ≤ gF F v
  dst : ∀ d ∈ D, gF F d = 0
/-- the edges of a list that lead to settled nodes are done -/
def RelD (E : List IRt) (F : List Int) (P : IRt → Prop) : Prop := ∀ e ∈ E, P e → 0 ≤ gF F e.1.toNat ∧ gF F e.1.toNat ≤ gF F e.2.1.toNat + e.2.2.1
theorem DI.done {E : List IRt} {D : List Nat} {F : List Int} {Sd : List Nat} (h : DI E D F [] Sd) (hr : RelD E F (fun e => e.2.1.toNat ∈ Sd)) : Cert E D F := by
  refine ⟨h.dom, h.dst, fun e he hx => ?_, fun v hv => ?_⟩
  · rcases (h.mem _).1 hx with a | a
    · cases a
    · exact hr e he a
  · rcases h.tgt v hv with a | ⟨e, he, e1, e2, e3⟩
    · exact .inl a
    · exact .inr ⟨e, he, e1, (h.mem _).2 (.inr e2), e3⟩
theorem DI.perm {E : List IRt} {D : List Nat} {F : List Int} {V V' Sd : List Nat} (h : DI E D F V Sd) (hp : V'.Perm V) : DI E D F V' Sd :=
  ⟨h.dom, fun v => by rw [h.mem v]; exact ⟨fun a => a.imp (fun x => hp.symm.subset x) id, fun a => a.imp (fun x => hp.subset x) id⟩, ((List.Perm.append_left Sd hp).nodup_iff).2 h.nod, h.tgt, fun s hs v hv => h.ord s hs v (hp.subset hv), h.dst⟩
theorem DI.take {E : List IRt} {D : List Nat} {F : List Int} {V V' Sd : List Nat} {t : Nat} (h : DI E D F V Sd) (hp : V.Perm (t :: V')) (hm : ∀ v ∈ V, gF F t ≤ gF F v) : DI E D F V' (Sd ++ [t]) ∧ (∀ s ∈ Sd ++ [t], gF F s ≤ gF F t) ∧ 0 ≤ gF F t := by
  have ht : t ∈ V := hp.symm.subset List.mem_cons_self
  have h' := h.perm hp.symm
  refine ⟨⟨h.dom, fun v => ?_, ?_, fun v hv => ?_, fun s hs v hv => ?_, h.dst⟩, fun s hs => ?_, (h.mem t).2 (.inl ht)⟩
  · rw [h'.mem v]
    simp only [List.mem_cons, List.mem_append, List.not_mem_nil, or_false]
    constructor
    · rintro ((a | a) | a)
      · exact .inr (.inr a)
      · exact .inl a
      · exact .inr (.inl a)
    · rintro (a | a | a)
      · exact .inl (.inr a)
      · exact .inr a
      · exact .inl (.inl a)
  · have := h'.nod
    rw [List.append_assoc]
    exact this
  · rcases h.tgt v hv with a | ⟨e, he, e1, e2, e3⟩
    · exact .inl a
    · exact .inr ⟨e, he, e1, List.mem_append_left _ e2, e3⟩
  · have hvV : v ∈ V := hp.symm.subset (List.mem_cons_of_mem _ hv)
    rcases List.mem_append.1 hs with a | a
    · exact h.ord s a v hvV
    · rw [List.mem_singleton.1 a]
      exact hm v hvV
  · rcases List.mem_append.1 hs with a | a
    · exact h.ord s a t ht
    · rw [List.mem_singleton.1 a]
      exact Int.le_refl _
/-- a way of length l from n over the settled t -/
theorem DI.new {E : List IRt} {D : List Nat} {F : List Int} {V Sd : List Nat} {t n : Nat} {l : Int} {e : IRt} (h : DI E D F V Sd) (hts : t ∈ Sd) (hmx : ∀ s ∈ Sd, gF F s ≤ gF F t) (he : e ∈ E) (e1 : e.1.toNat = n) (e2 : e.2.1.toNat = t) (hc : 1 ≤ e.2.2.1) (hl : l = gF F t + e.2.2.1) (hn : n < F.length) (hneg : gF F n < 0) : DI E D (F.set n l) (V ++ [n]) Sd := by
  have g := gF_set hn l
  have ht0 : 0 ≤ gF F t := (h.mem t).2 (.inr hts)
  have hnV : n ∉ V ∧ n ∉ Sd := ⟨fun a => by have := (h.mem n).2 (.inl a); omega, fun a => by have := (h.mem n).2 (.inr a); omega⟩
  have hne : ∀ s ∈ Sd, gF (F.set n l) s = gF F s := fun s hs => by rw [g]; exact if_neg (fun (x : s = n) => hnV.2 (x ▸ hs))
  refine ⟨fun v => ?_, fun v => ?_, ?_, fun v hv => ?_, fun s hs v hv => ?_, fun d hd => ?_⟩
  · rw [g]
    split
    · omega
    · exact h.dom v
  · rw [g]
    by_cases ev : v = n
    · subst ev
      rw [if_pos rfl]
      exact ⟨fun _ => .inl (List.mem_append_right _ (List.mem_singleton.2 rfl)), fun _ => by omega⟩
    · rw [if_neg ev, h.mem v]
      simp only [List.mem_append, List.mem_singleton]
      exact ⟨fun a => a.imp .inl id, fun a => a.imp (fun b => b.elim id (fun c => absurd c ev)) id⟩
  · rw [← List.append_assoc]
    refine List.nodup_append.2 ⟨h.nod, by simp, fun a ha b hb => ?_⟩
    rw [List.mem_singleton.1 hb]
    rintro rfl
    rcases List.mem_append.1 ha with x | x
    · exact hnV.2 x
    · exact hnV.1 x
  · rw [g] at hv
    by_cases ev : v = n
    · subst ev
      refine .inr ⟨e, he, e1, e2 ▸ hts, ?_⟩
      rw [e2, hne t hts, g, if_pos rfl, hl]
    · rw [if_neg ev] at hv
      rw [g, if_neg ev]
      rcases h.tgt v hv with a | ⟨e', he', a1, a2, a3⟩
      · exact .inl a
      · exact .inr ⟨e', he', a1, a2, by rw [hne _ a2]; exact a3⟩
  · rw [hne s hs, g]
    have := hmx s hs
    split
    · omega
    · rename_i ev
      rcases List.mem_append.1 hv with x | x
      · exact h.ord s hs v x
      · exact absurd (List.mem_singleton.1 x) ev
  · rw [g, if_neg (fun (x : d = n) => by have := h.dst d hd; rw [x] at this; omega)]
    exact h.dst d hd
theorem DI.less {E : List IRt} {D : List Nat} {F : List Int} {V Sd : List Nat} {t n : Nat} {l : Int} {e : IRt} (h : DI E D F V Sd) (hts : t ∈ Sd) (hmx : ∀ s ∈ Sd, gF F s ≤ gF F t) (he : e ∈ E) (e1 : e.1.toNat = n) (e2 : e.2.1.toNat = t) (hc : 1 ≤ e.2.2.1) (hl : l = gF F t + e.2.2.1) (hn : n < F.length) (hlt : l < gF F n) : DI E D (F.set n l) V Sd ∧ n ∈ V := by
  have g := gF_set hn l
  have ht0 : 0 ≤ gF F t := (h.mem t).2 (.inr hts)
  have hnS : n ∉ Sd := fun a => by have := hmx n a; omega
  have hnV : n ∈ V := ((h.mem n).1 (by omega)).elim id (fun a => absurd a hnS)
  have hne : ∀ s ∈ Sd, gF (F.set n l) s = gF F s := fun s hs => by rw [g]; exact if_neg (fun (x : s = n) => hnS (x ▸ hs))
  refine ⟨⟨fun v => ?_, fun v => ?_, h.nod, fun v hv => ?_, fun s hs v hv => ?_, fun d hd => ?_⟩, hnV⟩
  · rw [g]
    split
    · omega
    · exact h.dom v
  · rw [g]
    by_cases ev : v = n
    · subst ev
      rw [if_pos rfl]
      exact ⟨fun _ => .inl hnV, fun _ => by omega⟩
    · rw [if_neg ev]
      exact h.mem v
  · rw [g] at hv
    by_cases ev : v = n
    · subst ev
      refine .inr ⟨e, he, e1, e2 ▸ hts, ?_⟩
      rw [e2, hne t hts, g, if_pos rfl, hl]
    · rw [if_neg ev] at hv
      rw [g, if_neg ev]
      rcases h.tgt v hv with a | ⟨e', he', a1, a2, a3⟩
      · exact .inl a
      · exact .inr ⟨e', he', a1, a2, by rw [hne _ a2]; exact a3⟩
  · rw [hne s hs, g]
    have := hmx s hs
    split
    · omega
    · exact h.ord s hs v hv
  · rw [g, if_neg (fun (x : d = n) => by have := h.dst d hd; rw [x] at this; omega)]
    exact h.dst d hd
/-- what was done stays done where lengths fall -/
theorem RelD.keep {E : List IRt} {F : List Int} {P : IRt → Prop} {n : Nat} {l : Int} (h : RelD E F P) (hn : n < F.length) (hl : 0 ≤ l) (hle : gF F n < 0 ∨ l ≤ gF F n) (hto : ∀ e ∈ E, P e → e.2.1.toNat ≠ n) : RelD E (F.set n l) P := fun e he hp => by
  have g := gF_set hn l
  obtain ⟨a, b⟩ := h e he hp
  rw [g, g, if_neg (hto e he hp)]
  split
  · rename_i x
    rw [x] at a b
    omega
  · exact ⟨a, b⟩
/-- nearer -/
def ltF (F : List Int) (a b : Nat) : Bool := decide (gF F a < gF F b)
theorem ltF_swo (F : List Int) : SWO (ltF F) := by
  constructor
  · intro a b h
    unfold ltF at *
    rw [decide_eq_true_eq] at h
    exact decide_eq_false (by omega)
  · intro a b c h1 h2
    unfold ltF at *
    rw [decide_eq_false_iff_not] at *
    omega
theorem hp_other {F : List Int} {V : List Nat} {n : Nat} {l : Int} (hn : n < F.length) (h : hp (ltF F) V) (hnV : n ∉ V) : hp (ltF (F.set n l)) V := fun i x y h0 hx hy => by
  have g := gF_set hn l
  have e1 : x ≠ n := fun e => hnV (e ▸ List.mem_of_getElem? hx)
  have e2 : y ≠ n := fun e => hnV (e ▸ List.mem_of_getElem? hy)
  have := h i x y h0 hx hy
  unfold ltF at *
  rw [g, g, if_neg e1, if_neg e2]
  exact this
theorem nodup_at {V : List Nat} (h : V.Nodup) {i j x : Nat} (hi : V[i]? = some x) (hj : V[j]? = some x) : i = j := by
  obtain ⟨l1, e1⟩ := List.getElem?_eq_some_iff.1 hi
  obtain ⟨l2, e2⟩ := List.getElem?_eq_some_iff.1 hj
  exact (List.getElem_inj h).1 (e1.trans e2.symm)
theorem HR_fall {F : List Int} {V : List Nat} {n k : Nat} {l : Int} (hn : n < F.length) (h : hp (ltF F) V) (hnd : V.Nodup) (hk : V[k]? = some n) (hlt : l < gF F n) : HR (ltF (F.set n l)) V k := by
  have g := gF_set hn l
  have S := ltF_swo F
  refine ⟨fun i x y h0 hi hx hy => ?_, fun i x y h0 hi hk0 hx hy => ?_⟩
  · have hxn : x ≠ n := fun e => hi (nodup_at hnd (e ▸ hx) hk)
    have := h i x y h0 hx hy
    unfold ltF at *
    rw [g, g, if_neg hxn]
    rw [decide_eq_false_iff_not] at *
    split
    · rename_i e
      rw [e] at this
      omega
    · exact this
  · have hxn : x ≠ n := fun e => by
      have := nodup_at hnd (e ▸ hx) hk
      omega
    have hyn : y ≠ n := fun e => by
      have := nodup_at hnd (e ▸ hy) hk
      omega
    have a := h i x n h0 hx (by rw [hi]; exact hk)
    have b := h k n y hk0 hk hy
    have := S.ntr _ _ _ a b
    unfold ltF at *
    rw [g, g, if_neg hxn, if_neg hyn]
    exact this
end Go.Proofs.Ytfcdaljhbeogeaa
