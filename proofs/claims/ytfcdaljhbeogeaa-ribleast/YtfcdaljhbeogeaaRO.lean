import Derived.Test.YtfcdaljhbeogeaaRH
namespace Go.Proofs.Ytfcdaljhbeogeaa
open Go.RowKit
theorem nodup_len : ∀ {L M : List Nat}, L.Nodup → (∀ x ∈ L, x ∈ M) → L.length ≤ M.length
  | [], M, _, _ => Nat.zero_le _
  | o :: O, M, h, hm => by
    obtain ⟨h1, h2⟩ := List.nodup_cons.1 h
    have hmo := hm o List.mem_cons_self
    have ih := nodup_len (L := O) (M := M.erase o) h2 (fun x hx => by
      have hne : x ≠ o := fun e => h1 (e ▸ hx)
      exact (List.mem_erase_of_ne hne).2 (hm x (List.mem_cons_of_mem _ hx)))
    have := List.length_erase_of_mem hmo
    have := List.length_pos_of_mem hmo
    rw [List.length_cons]
    omega
theorem DI.count {E : List IRt} {D : List Nat} {F : List Int} {V Sd : List Nat} (h : DI E D F V Sd) : Sd.length + V.length ≤ F.length := by
  have := nodup_len (M := List.range F.length) h.nod (fun x hx => by
    refine List.mem_range.2 (gF_lt ((h.mem x).2 ?_))
    rcases List.mem_append.1 hx with a | a
    · exact .inr a
    · exact .inl a)
  rw [List.length_append, List.length_range] at this
  exact this
theorem DI.vlt {E : List IRt} {D : List Nat} {F : List Int} {V Sd : List Nat} (h : DI E D F V Sd) : ∀ x ∈ V, x < F.length := fun x hx => gF_lt ((h.mem x).2 (.inl hx))
def cF (F : List Int) (n : Nat) (l : Int) : List Int := if gF F n < 0 ∨ l < gF F n then F.set n l else F
def cV (F : List Int) (V : List Nat) (n : Nat) : List Nat := if gF F n < 0 then V ++ [n] else V
theorem cF_len (F : List Int) (n : Nat) (l : Int) : (cF F n l).length = F.length := by unfold cF; split <;> simp
theorem DI.come {E : List IRt} {D : List Nat} {F : List Int} {V V' Sd : List Nat} {t n : Nat} {l : Int} {e : IRt} (h : DI E D F V Sd) (hts : t ∈ Sd) (hmx : ∀ s ∈ Sd, gF F s ≤ gF F t) (he : e ∈ E) (e1 : e.1.toNat = n) (e2 : e.2.1.toNat = t) (hc : 1 ≤ e.2.2.1) (hl : l = gF F t + e.2.2.1) (hn : n < F.length) (hp : V'.Perm (cV F V n)) :
    DI E D (cF F n l) V' Sd ∧ (∀ s ∈ Sd, gF (cF F n l) s = gF F s) ∧ (∀ (E' : List IRt) (P : IRt → Prop), (∀ e, P e → e.2.1.toNat ∈ Sd) → RelD E' F P → RelD E' (cF F n l) P) ∧ (0 ≤ gF (cF F n l) n ∧ gF (cF F n l) n ≤ l) ∧ ∀ v, gF (cF F n l) v ≤ gF F v ∨ gF (cF F n l) v = l := by
  have g := gF_set hn l
  have ht0 : 0 ≤ gF F t := (h.mem t).2 (.inr hts)
  unfold cV at hp
  unfold cF
  by_cases c1 : gF F n < 0
  · rw [if_pos c1] at hp
    rw [if_pos (.inl c1)]
    have hnS : n ∉ Sd := fun a => by have := (h.mem n).2 (.inr a); omega
    refine ⟨(h.new hts hmx he e1 e2 hc hl hn c1).perm hp, fun s hs => ?_, fun E' P hP hr => hr.keep hn (by omega) (.inl c1) (fun e he hpe x => hnS (x ▸ hP e hpe)), ?_, fun v => ?_⟩
    · rw [g]; exact if_neg (fun (x : s = n) => hnS (x ▸ hs))
    · rw [g, if_pos rfl]; omega
    · rw [g]; split
      · exact .inr rfl
      · exact .inl (Int.le_refl _)
  · rw [if_neg c1] at hp
    by_cases c2 : l < gF F n
    · rw [if_pos (.inr c2)]
      obtain ⟨hd, hnV⟩ := h.less hts hmx he e1 e2 hc hl hn c2
      have hnS : n ∉ Sd := fun a => by have := hmx n a; omega
      refine ⟨hd.perm hp, fun s hs => ?_, fun E' P hP hr => hr.keep hn (by omega) (.inr (by omega)) (fun e he hpe x => hnS (x ▸ hP e hpe)), ?_, fun v => ?_⟩
      · rw [g]; exact if_neg (fun (x : s = n) => hnS (x ▸ hs))
      · rw [g, if_pos rfl]; omega
      · rw [g]; split
        · exact .inr rfl
        · exact .inl (Int.le_refl _)
    · rw [if_neg (fun x => x.elim c1 c2)]
      exact ⟨h.perm hp, fun s _ => rfl, fun E' P _ hr => hr, by omega, fun v => .inl (Int.le_refl _)⟩
theorem DI.open_less {E : List IRt} {D : List Nat} {F : List Int} {V Sd : List Nat} {t n : Nat} {l : Int} {e : IRt} (h : DI E D F V Sd) (hmx : ∀ s ∈ Sd, gF F s ≤ gF F t) (hc : 1 ≤ e.2.2.1) (hl : l = gF F t + e.2.2.1) (h0 : 0 ≤ gF F n) (hlt : l < gF F n) : n ∈ V := by
  rcases (h.mem n).1 h0 with a | a
  · exact a
  · have := hmx n a
    omega
theorem DI.dest {E : List IRt} {D : List Nat} {F : List Int} {V V' : List Nat} {n : Nat} (h : DI E D F V []) (hn : n < F.length) (hp : V'.Perm (cV F V n)) : DI E (D ++ [n]) (cF F n 0) V' [] := by
  have g := gF_set hn 0
  unfold cV at hp
  unfold cF
  by_cases c1 : gF F n < 0
  · rw [if_pos c1] at hp
    rw [if_pos (.inl c1)]
    have hnV : n ∉ V := fun a => by have := (h.mem n).2 (.inl a); omega
    refine DI.perm (V := V ++ [n]) ⟨fun v => ?_, fun v => ?_, ?_, fun v hv => ?_, fun s hs => (by cases hs), fun d hd => ?_⟩ hp
    · rw [g]; split
      · omega
      · exact h.dom v
    · rw [g]
      by_cases ev : v = n
      · subst ev
        rw [if_pos rfl]
        exact ⟨fun _ => .inl (List.mem_append_right _ (List.mem_singleton.2 rfl)), fun _ => by omega⟩
      · rw [if_neg ev, h.mem v]
        simp only [List.mem_append, List.mem_singleton]
        exact ⟨fun a => a.imp .inl id, fun a => a.imp (fun b => b.elim id (fun c => absurd c ev)) id⟩
    · have := h.nod
      rw [List.nil_append] at this ⊢
      refine List.nodup_append.2 ⟨this, by simp, fun a ha b hb => ?_⟩
      rw [List.mem_singleton.1 hb]
      rintro rfl
      exact hnV ha
    · rw [g] at hv ⊢
      by_cases ev : v = n
      · subst ev
        rw [if_pos rfl]
        exact .inl ⟨rfl, List.mem_append_right _ (List.mem_singleton.2 rfl)⟩
      · rw [if_neg ev] at hv ⊢
        rcases h.tgt v hv with a | ⟨e, he, e1, e2, e3⟩
        · exact .inl ⟨a.1, List.mem_append_left _ a.2⟩
        · cases e2
    · rw [g]
      by_cases ev : d = n
      · rw [if_pos ev]
      · rw [if_neg ev]
        rcases List.mem_append.1 hd with a | a
        · exact h.dst d a
        · exact absurd (List.mem_singleton.1 a) ev
  · rw [if_neg c1] at hp
    have hn0 : gF F n = 0 := by
      rcases h.tgt n (by omega) with a | ⟨e, he, e1, e2, e3⟩
      · exact a.1
      · cases e2
    rw [if_neg (fun x => x.elim c1 (fun y => by omega))]
    refine DI.perm (V := V) ⟨h.dom, h.mem, h.nod, fun v hv => ?_, fun s hs => (by cases hs), fun d hd => ?_⟩ hp
    · rcases h.tgt v hv with a | ⟨e, he, e1, e2, e3⟩
      · exact .inl ⟨a.1, List.mem_append_left _ a.2⟩
      · cases e2
    · rcases List.mem_append.1 hd with a | a
      · exact h.dst d a
      · rw [List.mem_singleton.1 a]
        exact hn0
theorem gF_rep (N v : Nat) : gF (List.replicate N (-1)) v = -1 := by
  unfold gF
  simp only [List.getD, List.getElem?_replicate]
  split <;> rfl
theorem DI.start (E : List IRt) (N : Nat) : DI E [] (List.replicate N (-1)) [] [] := by
  refine ⟨fun v => .inl (gF_rep N v), fun v => ?_, List.nodup_nil, fun v hv => ?_, fun s hs => (by cases hs), fun d hd => (by cases hd)⟩
  · rw [gF_rep]
    exact ⟨fun h => by omega, fun h => h.elim (fun x => by cases x) (fun x => by cases x)⟩
  · rw [gF_rep] at hv
    omega
end Go.Proofs.Ytfcdaljhbeogeaa
