import Derived.Test.YtmblloddhpcdeacO7
namespace Go.Proofs.Ytmblloddhpcdeac
open Go.RowKit

theorem own_neO {W : World} {B1 B2 : Nat} {e1 e2 : TypeId} {s1 s2 n1 n2 : Nat} {a v : Value} {xs ys : List Value} (h1 : W.ownsRow B1 e1 s1 a n1 xs) (h2 : W.ownsRow B2 e2 s2 v n2 ys) (hne : e1 ≠ e2) : a.ownBlock = none ∨ a.ownBlock ≠ v.ownBlock := by
  rcases h1.2 with ⟨rfl, _⟩ | ⟨g, c, cur, rfl, _, hg, _⟩
  · exact .inl rfl
  · refine .inr (fun e => ?_)
    rcases h2.2 with ⟨rfl, _⟩ | ⟨g2, c2, cur2, rfl, _, hg2, _⟩
    · cases e
    · have : g = g2 := by injection e
      subst this
      rw [hg] at hg2
      injection hg2 with h
      injection h with _ h _
      exact hne h
/-- a value's block is not the one that is written -/
def offs (row : Option Nat) (v : Value) : Prop := v.ownBlock = none ∨ v.ownBlock ≠ row
theorem EOK_rows {W : World} {V G : Value} {M : List UInt8} (h : EOK W (V, G, M)) : (∃ B n, W.ownsRow B 26 9 V n (cels (List.replicate n M))) ∧ ∃ B n, W.ownsRow B 26 9 G n (cels (List.replicate n M)) := by
  obtain ⟨n, p, c, B, b2, h1, h2, h3, h4⟩ := h
  simp only at h1 h3 h4
  subst h1
  rcases h4 with ⟨g, rfl, rfl, o⟩ | ⟨o, v⟩
  · have oP : W.ownsRow B 26 9 (.slice (some ⟨g, 0, none⟩) n c) n (cels (List.replicate n M)) := own_preO (m := 64) (by rw [← rep_pre]; exact o) (repO_len _ _)
    exact ⟨⟨_, _, oP⟩, ⟨_, _, o⟩⟩
  · exact ⟨⟨_, _, v⟩, ⟨_, _, o⟩⟩
theorem EOK_kept {W X : World} {row : Option Nat} {E : Value × Value × List UInt8} (h : EOK W E) (hg : W.grownBy X row) (hV : offs row E.1) (hG : offs row E.2.1) : EOK X E := by
  obtain ⟨n, p, c, B, b2, h1, h2, h3, h4⟩ := h
  refine ⟨n, p, c, B, b2, h1, h2, h3, ?_⟩
  rcases h4 with ⟨g, e1, e2, o⟩ | ⟨o, v⟩
  · exact .inl ⟨g, e1, e2, o.kept hg hG⟩
  · exact .inr ⟨o.kept hg hG, v.kept hg (by rw [← h1]; exact hV)⟩
/-- a list that stands -/
def LOK (W : World) (h : Value × List (List UInt8)) : Prop := (∃ B, W.ownsRow B 26 9 h.1 h.2.length (cels h.2)) ∧ (∀ x ∈ h.2, good x = true) ∧ h.2.length ≤ 256
theorem LOK_kept {W X : World} {row : Option Nat} {h : Value × List (List UInt8)} (k : LOK W h) (hg : W.grownBy X row) (ho : offs row h.1) : LOK X h := by
  obtain ⟨⟨B, o⟩, r⟩ := k
  exact ⟨⟨B, o.kept hg ho⟩, r⟩
theorem LOK_below {W X : World} {h : Value × List (List UInt8)} (k : LOK W h) (hb : Below W.heap.size W X) : LOK X h := by
  obtain ⟨⟨B, o⟩, r⟩ := k
  exact ⟨⟨B, owns_below o hb⟩, r⟩
/-- two values have no block in common -/
def dis (x y : Value) : Prop := ∀ b, x.ownBlock = some b → y.ownBlock ≠ some b
theorem offs_dis {x y : Value} (h : dis x y) : offs x.ownBlock y := by
  cases hx : x.ownBlock with
  | none => cases hy : y.ownBlock with
    | none => exact .inl hy
    | some b => exact .inr (by rw [hy]; intro e; cases e)
  | some b => exact .inr (h b hx)
theorem dis_new {W : World} {B n m B2 : Nat} {e1 e2 : TypeId} {s1 s2 : Nat} {x y : Value} {xs ys : List Value} {X : World} (hy : X.ownsRow B e1 s1 y n xs) (hx : W.ownsRow B2 e2 s2 x m ys) (hB : W.heap.size ≤ B) : dis x y := by
  intro b hb e
  have h1 := (hx.lt b hb).2
  have h2 := (hy.lt b e).1
  omega

/-- what stands while TernOwn runs -/
structure IOw (w W : World) (E : List (Value × Value × List UInt8)) (H Q : List (Value × List (List UInt8))) (HV QV : List Value) (bv hv wv : Value) : Prop where
  bo : W.ownsRow w.heap.size 65 11 bv E.length (ecels E)
  ho : W.ownsRow w.heap.size 51 1 hv HV.length HV
  wo : W.ownsRow w.heap.size 51 1 wv QV.length QV
  hw : dis hv wv
  eo : ∀ e ∈ E, EOK W e
  hk : ∀ h ∈ H, LOK W h
  qk : ∀ h ∈ Q, LOK W h
  pw : H.Pairwise (fun x y => dis x.1 y.1)
  eh : ∀ e ∈ E, ∀ h ∈ H, dis h.1 e.1 ∧ dis h.1 e.2.1
  be : Below w.heap.size w W

theorem IOw.below {w W X : World} {E : List (Value × Value × List UInt8)} {H Q : List (Value × List (List UInt8))} {HV QV : List Value} {bv hv wv : Value} (h : IOw w W E H Q HV QV bv hv wv) (hb : Below W.heap.size W X) : IOw w X E H Q HV QV bv hv wv :=
  ⟨owns_below h.bo hb, owns_below h.ho hb, owns_below h.wo hb, h.hw, fun e he => EOK_below (h.eo e he) hb, fun x hx => LOK_below (h.hk x hx) hb, fun x hx => LOK_below (h.qk x hx) hb, h.pw, h.eh, bel0 h.be hb⟩

theorem bel_grown {w W X : World} {row : Option Nat} (h : Below w.heap.size w W) (hg : W.grownBy X row) (hr : ∀ k, row = some k → w.heap.size ≤ k) : Below w.heap.size w X :=
  h.grown hg h.size hr

/-- a row of another type than the lists' is appended to: the lists and the entries stand -/
theorem IOw.lists {w W X : World} {E : List (Value × Value × List UInt8)} {H Q : List (Value × List (List UInt8))} {HV QV : List Value} {bv hv wv : Value} {B n s : Nat} {e : TypeId} {v : Value} {xs : List Value} (h : IOw w W E H Q HV QV bv hv wv)
    (hv0 : W.ownsRow B e s v n xs) (he : 26 ≠ e) (hg : W.grownBy X v.ownBlock) :
    (∀ e ∈ E, EOK X e) ∧ (∀ h ∈ H, LOK X h) ∧ (∀ h ∈ Q, LOK X h) := by
  refine ⟨fun x hx => ?_, fun x hx => ?_, fun x hx => ?_⟩
  · obtain ⟨⟨_, _, o1⟩, ⟨_, _, o2⟩⟩ := EOK_rows (V := x.1) (G := x.2.1) (M := x.2.2) (h.eo x hx)
    exact EOK_kept (h.eo x hx) hg (own_neO o1 hv0 he) (own_neO o2 hv0 he)
  · obtain ⟨⟨_, o⟩, _⟩ := h.hk x hx
    exact LOK_kept (h.hk x hx) hg (own_neO o hv0 he)
  · obtain ⟨⟨_, o⟩, _⟩ := h.qk x hx
    exact LOK_kept (h.qk x hx) hg (own_neO o hv0 he)

/-- the book gets an entry more -/
theorem IOw.book {w W X : World} {E : List (Value × Value × List UInt8)} {H Q : List (Value × List (List UInt8))} {HV QV : List Value} {bv hv wv bv' : Value} {e : Value × Value × List UInt8} (h : IOw w W E H Q HV QV bv hv wv)
    (ho : X.ownsRow w.heap.size 65 11 bv' (E.length + 1) (ecels E ++ ecel e)) (hg : W.grownBy X bv.ownBlock) (he : EOK W e) (hd : ∀ x ∈ H, dis x.1 e.1 ∧ dis x.1 e.2.1) :
    IOw w X (E ++ [e]) H Q HV QV bv' hv wv := by
  obtain ⟨l1, l2, l3⟩ := h.lists h.bo (by decide) hg
  obtain ⟨⟨_, _, o1⟩, ⟨_, _, o2⟩⟩ := EOK_rows (V := e.1) (G := e.2.1) (M := e.2.2) he
  refine ⟨by rw [List.length_append, ecels_snoc]; exact ho, h.ho.kept hg (own_neO h.ho h.bo (by decide)), h.wo.kept hg (own_neO h.wo h.bo (by decide)), h.hw, ?_, l2, l3, h.pw, ?_, bel_grown h.be hg (fun k e => (h.bo.lt k e).1)⟩
  · intro x hx
    rcases List.mem_append.1 hx with hx | hx
    · exact l1 x hx
    · obtain rfl := List.mem_singleton.1 hx
      exact EOK_kept he hg (own_neO o1 h.bo (by decide)) (own_neO o2 h.bo (by decide))
  · intro x hx y hy
    rcases List.mem_append.1 hx with hx | hx
    · exact h.eh x hx y hy
    · obtain rfl := List.mem_singleton.1 hx
      exact hd y hy

/-- held gets lists more -/
theorem IOw.held {w W X : World} {E : List (Value × Value × List UInt8)} {H Q N : List (Value × List (List UInt8))} {HV QV : List Value} {bv hv wv : Value} {g c : Nat} (h : IOw w W E H Q HV QV bv hv wv)
    (ho : X.ownsRow w.heap.size 51 1 (.slice (some ⟨g, 0, none⟩) (HV.length + N.length) c) (HV.length + N.length) (HV ++ N.map (·.1))) (hg : W.grownBy X hv.ownBlock) (hl : hv.ownBlock = some g ∨ W.heap.size ≤ g)
    (hN : ∀ x ∈ N, LOK W x) (hp : N.Pairwise (fun x y => dis x.1 y.1)) (hx : ∀ x ∈ H, ∀ y ∈ N, dis x.1 y.1) (he : ∀ e ∈ E, ∀ y ∈ N, dis y.1 e.1 ∧ dis y.1 e.2.1) :
    IOw w X E (H ++ N) Q (HV ++ N.map (·.1)) QV bv (.slice (some ⟨g, 0, none⟩) (HV.length + N.length) c) wv := by
  obtain ⟨l1, l2, l3⟩ := h.lists h.ho (by decide) hg
  refine ⟨h.bo.kept hg (own_neO h.bo h.ho (by decide)), by rw [List.length_append, List.length_map]; exact ho, h.wo.kept hg (offs_dis h.hw), ?_, l1, ?_, l3, ?_, ?_, bel_grown h.be hg (fun k e => (h.ho.lt k e).1)⟩
  · intro b hb e
    have hb' : g = b := by injection hb
    subst hb'
    rcases hl with hl | hl
    · exact h.hw g hl e
    · have := (h.wo.lt g e).2; omega
  · intro x hx
    rcases List.mem_append.1 hx with hx | hx
    · exact l2 x hx
    · obtain ⟨⟨_, o⟩, _⟩ := hN x hx
      exact LOK_kept (hN x hx) hg (own_neO o h.ho (by decide))
  · exact List.pairwise_append.2 ⟨h.pw, hp, hx⟩
  · intro x hx y hy
    rcases List.mem_append.1 hy with hy | hy
    · exact h.eh x hx y hy
    · exact he x hx y hy

/-- was gets lists more -/
theorem IOw.wass {w W X : World} {E : List (Value × Value × List UInt8)} {H Q N : List (Value × List (List UInt8))} {HV QV : List Value} {bv hv wv : Value} {g c : Nat} (h : IOw w W E H Q HV QV bv hv wv)
    (ho : X.ownsRow w.heap.size 51 1 (.slice (some ⟨g, 0, none⟩) (QV.length + N.length) c) (QV.length + N.length) (QV ++ N.map (·.1))) (hg : W.grownBy X wv.ownBlock) (hl : wv.ownBlock = some g ∨ W.heap.size ≤ g)
    (hN : ∀ x ∈ N, LOK W x) :
    IOw w X E H (Q ++ N) HV (QV ++ N.map (·.1)) bv hv (.slice (some ⟨g, 0, none⟩) (QV.length + N.length) c) := by
  obtain ⟨l1, l2, l3⟩ := h.lists h.wo (by decide) hg
  have hwo : dis wv hv := fun b hb e => h.hw b e hb
  refine ⟨h.bo.kept hg (own_neO h.bo h.wo (by decide)), h.ho.kept hg (offs_dis hwo), by rw [List.length_append, List.length_map]; exact ho, ?_, l1, l2, ?_, h.pw, h.eh, bel_grown h.be hg (fun k e => (h.wo.lt k e).1)⟩
  · intro b hb e
    have hb' : g = b := by injection e
    subst hb'
    rcases hl with hl | hl
    · exact h.hw g hb hl
    · have := (h.ho.lt g hb).2; omega
  · intro x hx
    rcases List.mem_append.1 hx with hx | hx
    · exact l3 x hx
    · obtain ⟨⟨_, o⟩, _⟩ := hN x hx
      exact LOK_kept (hN x hx) hg (own_neO o h.wo (by decide))

/-- the lists that are handed to kept at last: one of them is written, the others stand -/
theorem IOw.write {w W X : World} {E : List (Value × Value × List UInt8)} {H : List (Value × List (List UInt8))} {x : Value × List (List UInt8)} {HV : List Value} {bv hv : Value} (h : IOw w W E (x :: H) [] HV [] bv hv (.slice none 0 0))
    (hg : W.grownBy X x.1.ownBlock) (hB : ∀ k, x.1.ownBlock = some k → w.heap.size ≤ k) : IOw w X E H [] HV [] bv hv (.slice none 0 0) := by
  obtain ⟨⟨_, ox⟩, _⟩ := h.hk x (List.mem_cons_self ..)
  have hp := List.pairwise_cons.1 h.pw
  refine ⟨h.bo.kept hg (own_neO h.bo ox (by decide)), h.ho.kept hg (own_neO h.ho ox (by decide)), World.ownsRow_nil _ _ _ _, h.hw, ?_, ?_, fun y hy => (by cases hy), hp.2, fun e he y hy => h.eh e he y (List.mem_cons_of_mem _ hy), bel_grown h.be hg hB⟩
  · intro e he
    have := h.eh e he x (List.mem_cons_self ..)
    exact EOK_kept (h.eo e he) hg (offs_dis this.1) (offs_dis this.2)
  · intro y hy
    exact LOK_kept (h.hk y (List.mem_cons_of_mem _ hy)) hg (offs_dis (hp.1 y hy))
/-- was is no longer wanted -/
theorem IOw.nowas {w W : World} {E : List (Value × Value × List UInt8)} {H Q : List (Value × List (List UInt8))} {HV QV : List Value} {bv hv wv : Value} (h : IOw w W E H Q HV QV bv hv wv) : IOw w W E H [] HV [] bv hv (.slice none 0 0) :=
  ⟨h.bo, h.ho, World.ownsRow_nil _ _ _ _, fun b _ e => (by cases e), h.eo, h.hk, fun y hy => (by cases hy), h.pw, h.eh, h.be⟩
theorem IOw.start (w W : World) (h : Below w.heap.size w W) : IOw w W [] [] [] [] [] (.slice none 0 0) (.slice none 0 0) (.slice none 0 0) :=
  ⟨World.ownsRow_nil _ _ _ _, World.ownsRow_nil _ _ _ _, World.ownsRow_nil _ _ _ _, fun b hb => (by cases hb), fun y hy => (by cases hy), fun y hy => (by cases hy), fun y hy => (by cases hy), List.Pairwise.nil, fun y hy => (by cases hy), h⟩
end Go.Proofs.Ytmblloddhpcdeac
