import Derived.Test.YtkmnonkabekclaaDoorSA
namespace Go.Proofs.YtkmnonkabekclaaDoor
open Go.RowKit
def vv (n : Nat) (e : Option Addr × Nat) : Value := .slice e.1 n e.2
/-- the keys of one half -/
def keyZ (z : Nat) (k : Nat × Nat) : Prop := k = (0, z) ∨ k = (0, 2 + z) ∨ k = (0, 4 + z) ∨ k.1 = 1 + z ∨ k.1 = 3 + z
theorem key01 {k : Nat × Nat} (h : keyZ 1 k) : ¬ keyZ 0 k := by
  obtain ⟨a, b⟩ := k
  unfold keyZ at h ⊢
  simp only [Prod.mk.injEq] at h ⊢
  omega
theorem key10 {k : Nat × Nat} (h : keyZ 0 k) : ¬ keyZ 1 k := fun h1 => key01 h1 h
/-- one half, while its lists are marked -/
structure HC (f : Nat × Nat → Reg) (z : Nat) (T TE : TypeId) (s : Nat) (va vr : Value) (n : Nat) (X : List Value) (K : List (Option Addr × Nat)) (c : Nat → List Value) : Prop where
  a : f (0, z) = ⟨TE, 1, va, K.length, K.map (vv n)⟩
  r : f (0, 2 + z) = ⟨T, s, vr, n, X⟩
  v : ∀ j e, K[j]? = some e → f (1 + z, j) = ⟨T, s, vv n e, n, c j⟩
  g : ∀ j, f (3 + z, j) = nilR T s
  m : f (0, 4 + z) = nilR TE 1
variable {f f' : Nat × Nat → Reg} {z : Nat} {T TE : TypeId} {s : Nat} {va vr vm : Value} {n : Nat} {X : List Value} {K : List (Option Addr × Nat)} {c c' : Nat → List Value}
theorem HC.congr (h : HC f z T TE s va vr n X K c) (hc : ∀ j, j < K.length → c j = c' j) : HC f z T TE s va vr n X K c' :=
  ⟨h.a, h.r, fun j e he => by rw [h.v j e he, hc j (List.getElem?_eq_some_iff.1 he).1], h.g, h.m⟩
theorem HC.frame (h : HC f z T TE s va vr n X K c) (hf : ∀ k, keyZ z k → f' k = f k) : HC f' z T TE s va vr n X K c :=
  ⟨(hf _ (.inl rfl)).trans h.a, (hf _ (.inr (.inl rfl))).trans h.r, fun j e he => (hf _ (.inr (.inr (.inr (.inl rfl))))).trans (h.v j e he), fun j => (hf _ (.inr (.inr (.inr (.inr rfl))))).trans (h.g j), (hf _ (.inr (.inr (.inl rfl)))).trans h.m⟩
theorem HC.set (h : HC f z T TE s va vr n X K c) {i : Nat} {e : Option Addr × Nat} (he : K[i]? = some e) (xs : List Value) : HC (updS f (1 + z, i) ⟨T, s, vv n e, n, xs⟩) z T TE s va vr n X K (fun j => if j = i then xs else c j) :=
  ⟨(updS_ne _ _ (by simp only [ne_eq, Prod.mk.injEq]; omega)).trans h.a, (updS_ne _ _ (by simp only [ne_eq, Prod.mk.injEq]; omega)).trans h.r, fun j x hx => by
    by_cases hj : j = i
    · subst hj
      rw [he] at hx
      obtain rfl := Option.some.inj hx
      rw [updS_self, if_pos rfl]
    · rw [updS_ne _ _ (by simpa using hj), h.v j x hx, if_neg hj], fun j => (updS_ne _ _ (by simp only [ne_eq, Prod.mk.injEq]; omega)).trans (h.g j), (updS_ne _ _ (by simp only [ne_eq, Prod.mk.injEq]; omega)).trans h.m⟩
theorem updS_keep {z i : Nat} {r : Reg} {k : Nat × Nat} (hk : ¬ keyZ z k) : updS f (1 + z, i) r k = f k := updS_ne _ _ (fun e => hk (by rw [e]; exact .inr (.inr (.inr (.inl rfl)))))
/-- one half, while its lists are gone on from -/
structure HD (f : Nat × Nat → Reg) (z : Nat) (T TE : TypeId) (s : Nat) (va vr vm : Value) (n : Nat) (X : List Value) (K : List (Option Addr × Nat)) (mk : Nat → List Value) (gk : Nat → Nat → List Value) (Gs : List Value) : Prop where
  a : f (0, z) = ⟨TE, 1, va, K.length, K.map (vv n)⟩
  r : f (0, 2 + z) = ⟨T, s, vr, n, X⟩
  m : f (0, 4 + z) = ⟨TE, 1, vm, Gs.length, Gs⟩
  lo : ∀ j e G, K[j]? = some e → Gs[j]? = some G → GST f (1 + z, j) (3 + z, j) T s (vv n e) n (mk j) G 64 (gk j 64)
  hi : ∀ j e, K[j]? = some e → Gs.length ≤ j → f (1 + z, j) = ⟨T, s, vv n e, n, mk j⟩ ∧ f (3 + z, j) = nilR T s
structure HG (f : Nat × Nat → Reg) (z : Nat) (T TE : TypeId) (s : Nat) (va vr vm : Value) (n : Nat) (X : List Value) (K : List (Option Addr × Nat)) (mk : Nat → List Value) (gk : Nat → Nat → List Value) (Gs : List Value) (e0 : Option Addr × Nat) (G0 : Value) (m0 : Nat) : Prop where
  a : f (0, z) = ⟨TE, 1, va, K.length, K.map (vv n)⟩
  r : f (0, 2 + z) = ⟨T, s, vr, n, X⟩
  m : f (0, 4 + z) = ⟨TE, 1, vm, Gs.length, Gs⟩
  lo : ∀ j e G, K[j]? = some e → Gs[j]? = some G → GST f (1 + z, j) (3 + z, j) T s (vv n e) n (mk j) G 64 (gk j 64)
  at_ : GST f (1 + z, Gs.length) (3 + z, Gs.length) T s (vv n e0) n (mk Gs.length) G0 m0 (gk Gs.length m0)
  hi : ∀ j e, K[j]? = some e → Gs.length < j → f (1 + z, j) = ⟨T, s, vv n e, n, mk j⟩ ∧ f (3 + z, j) = nilR T s
variable {mk : Nat → List Value} {gk : Nat → Nat → List Value} {Gs : List Value} {e0 : Option Addr × Nat} {G0 : Value} {m0 : Nat}
theorem GST.congr {f f' : Nat × Nat → Reg} {k k3 : Nat × Nat} {T s n m : Nat} {v G : Value} {A S : List Value} (h : GST f k k3 T s v n A G m S) (h1 : f' k = f k) (h3 : f' k3 = f k3) : GST f' k k3 T s v n A G m S := by
  unfold GST at h ⊢
  rw [h1, h3]
  exact h
theorem HD.frame (h : HD f z T TE s va vr vm n X K mk gk Gs) (hf : ∀ k, keyZ z k → f' k = f k) : HD f' z T TE s va vr vm n X K mk gk Gs :=
  ⟨(hf _ (.inl rfl)).trans h.a, (hf _ (.inr (.inl rfl))).trans h.r, (hf _ (.inr (.inr (.inl rfl)))).trans h.m, fun j e G he hG => (h.lo j e G he hG).congr (hf _ (.inr (.inr (.inr (.inl rfl))))) (hf _ (.inr (.inr (.inr (.inr rfl))))), fun j e he hj => by rw [hf _ (.inr (.inr (.inr (.inl rfl)))), hf _ (.inr (.inr (.inr (.inr rfl))))]; exact h.hi j e he hj⟩
theorem HG.frame (h : HG f z T TE s va vr vm n X K mk gk Gs e0 G0 m0) (hf : ∀ k, keyZ z k → f' k = f k) : HG f' z T TE s va vr vm n X K mk gk Gs e0 G0 m0 :=
  ⟨(hf _ (.inl rfl)).trans h.a, (hf _ (.inr (.inl rfl))).trans h.r, (hf _ (.inr (.inr (.inl rfl)))).trans h.m, fun j e G he hG => (h.lo j e G he hG).congr (hf _ (.inr (.inr (.inr (.inl rfl))))) (hf _ (.inr (.inr (.inr (.inr rfl))))), h.at_.congr (hf _ (.inr (.inr (.inr (.inl rfl))))) (hf _ (.inr (.inr (.inr (.inr rfl))))), fun j e he hj => by rw [hf _ (.inr (.inr (.inr (.inl rfl)))), hf _ (.inr (.inr (.inr (.inr rfl))))]; exact h.hi j e he hj⟩
theorem HC.toD (h : HC f z T TE s va vr n X K mk) : HD f z T TE s va vr (.slice none 0 0) n X K mk gk [] :=
  ⟨h.a, h.r, h.m, fun j e G _ hG => by simp at hG, fun j e he _ => ⟨h.v j e he, h.g j⟩⟩
theorem HD.toG {W : World} {B : Nat} (hs : SEP W B f) (h : HD f z T TE s va vr vm n X K mk gk Gs) (he : K[Gs.length]? = some e0) (hgk : gk Gs.length 0 = []) : HG f z T TE s va vr vm n X K mk gk Gs e0 (vv n e0) 0 :=
  ⟨h.a, h.r, h.m, h.lo, by rw [hgk]; exact GST.start hs (h.hi _ e0 he (Nat.le_refl _)).1 (h.hi _ e0 he (Nat.le_refl _)).2, fun j x hx hj => h.hi j x hx (by omega)⟩
theorem HG.grow {TS : TypeId} {i0 : TypeInfo} {zz : Value} {by_ : Nat} {W : World} {B nb : Nat} (x : List Value) (ty : TypeId)
    (hu : Tryd.prog.underlying TS = some (.slice T)) (hi : Tryd.prog.info? T = some i0) (hz0 : i0.zero = some zz) (hz1 : i0.size = s) (hz2 : i0.bytes = by_) (hzc : zz.cells.size = s) (hs0 : 0 < s) (hby : by_ ≤ 1000) (hxl : x.length = 1 * s) (hx : ∀ u ∈ x, u.oneCell' = true)
    (hs : SEP W B f) (h : HG f z T TE s va vr vm n X K mk gk Gs e0 G0 m0) (hA : (mk Gs.length).length = n * s) (hB : B ≤ W.heap.size) (hnews : ∀ (j : Nat) (u : Value), x[j]? = some u → W.cell? ((⟨nb, 0, none⟩ : Addr).add j) = some u) (hlen : n + m0 ≤ 100000) (hgk : gk Gs.length (m0 + 1) = gk Gs.length m0 ++ x) :
    ∃ G' W' f', (Builtin.append_ #[TS, TS] ty #[G0, .slice (some ⟨nb, 0, none⟩) 1 1]).run Tryd.prog W = .ok G' W' ∧ SEP W' B f' ∧ HG f' z T TE s va vr vm n X K mk gk Gs e0 G' (m0 + 1) ∧ (∀ k, ¬ keyZ z k → f' k = f k) ∧ (∃ p c, G' = .slice p (n + (m0 + 1)) c) ∧ (∀ w : World, w.heap.size ≤ B → Below w.heap.size w W → Below w.heap.size w W') := by
  obtain ⟨G', W', f', hr, s1, g1, hf, hg, hb⟩ := GST.grow (TS := TS) (nb := nb) x ty hu hi hz0 hz1 hz2 hzc hs0 hby hxl hx (by simp only [ne_eq, Prod.mk.injEq]; omega) hs h.at_ hA hB hnews hlen
  have hk : ∀ k, ¬ keyZ z k → f' k = f k := fun k hk => hf k (fun e => hk (by rw [e]; exact .inr (.inr (.inr (.inl rfl))))) (fun e => hk (by rw [e]; exact .inr (.inr (.inr (.inr rfl)))))
  refine ⟨G', W', f', hr, s1, ⟨?_, ?_, ?_, fun j e G he hG => ?_, by rw [hgk]; exact g1, fun j e he hj => ?_⟩, hk, shapeZ (GST.own s1 g1 hA).2, fun w hw hbb => bel_grZ hbb hg (fun b e => Nat.le_trans hw (hb b e))⟩
  · rw [hf _ (by simp only [ne_eq, Prod.mk.injEq]; omega) (by simp only [ne_eq, Prod.mk.injEq]; omega)]; exact h.a
  · rw [hf _ (by simp only [ne_eq, Prod.mk.injEq]; omega) (by simp only [ne_eq, Prod.mk.injEq]; omega)]; exact h.r
  · rw [hf _ (by simp only [ne_eq, Prod.mk.injEq]; omega) (by simp only [ne_eq, Prod.mk.injEq]; omega)]; exact h.m
  · have hj := (List.getElem?_eq_some_iff.1 hG).1
    exact (h.lo j e G he hG).congr (hf _ (by simp only [ne_eq, Prod.mk.injEq]; omega) (by simp only [ne_eq, Prod.mk.injEq]; omega)) (hf _ (by simp only [ne_eq, Prod.mk.injEq]; omega) (by simp only [ne_eq, Prod.mk.injEq]; omega))
  · rw [hf _ (by simp only [ne_eq, Prod.mk.injEq]; omega) (by simp only [ne_eq, Prod.mk.injEq]; omega), hf _ (by simp only [ne_eq, Prod.mk.injEq]; omega) (by simp only [ne_eq, Prod.mk.injEq]; omega)]
    exact h.hi j e he hj
theorem HG.more {TES : TypeId} {i0 : TypeInfo} {by_ : Nat} {W : World} {B nb : Nat} (ty : TypeId)
    (hu : Tryd.prog.underlying TES = some (.slice TE)) (hi : Tryd.prog.info? TE = some i0) (hz0 : i0.zero = some (.slice none 0 0)) (hz1 : i0.size = 1) (hz2 : i0.bytes = by_) (hby : by_ ≤ 1000)
    (hs : SEP W B f) (h : HG f z T TE s va vr vm n X K mk gk Gs e0 G0 64) (he : K[Gs.length]? = some e0) (hx : G0.oneCell' = true) (hB : B ≤ W.heap.size) (hnb : W.heap[nb]? = some (.cells #[G0] TE (0, 0))) (hlen : Gs.length ≤ 100000) :
    ∃ v' W' f', (Builtin.append_ #[TES, TES] ty #[vm, .slice (some ⟨nb, 0, none⟩) 1 1]).run Tryd.prog W = .ok v' W' ∧ SEP W' B f' ∧ HD f' z T TE s va vr v' n X K mk gk (Gs ++ [G0]) ∧ (∀ k, ¬ keyZ z k → f' k = f k) ∧ (∃ p c, v' = .slice p (Gs.length + 1) c) ∧ (∀ w : World, w.heap.size ≤ B → Below w.heap.size w W → Below w.heap.size w W') := by
  have o := hs.own (0, 4 + z)
  rw [h.m] at o
  obtain ⟨v', W', hr, o2, g2, n2⟩ := appZ (TS := TES) (nb := nb) ty hu hi hz0 hz1 hz2 rfl (by decide) o hB (news := [G0]) rfl (World.news_of_block hnb) (fun u hu => by rw [List.mem_singleton.1 hu]; exact hx) hlen hby
  have s3 := hs.upd (0, 4 + z) (r := ⟨TE, 1, v', Gs.length + 1, Gs ++ [G0]⟩) o2 (by rw [h.m]; exact g2) (by rw [h.m]; exact n2)
  refine ⟨v', W', _, hr, s3, ⟨?_, ?_, ?_, fun j e G hj hG => ?_, fun j e hj hl => ?_⟩, fun k hk => updS_ne _ _ (fun e => hk (by rw [e]; exact .inr (.inr (.inl rfl)))), shapeZ o2, fun w hw hbb => bel_grZ hbb g2 (fun b e => Nat.le_trans hw (World.ownsRow.lt o b e).1)⟩
  · rw [updS_ne _ _ (by simp only [ne_eq, Prod.mk.injEq]; omega)]; exact h.a
  · rw [updS_ne _ _ (by simp only [ne_eq, Prod.mk.injEq]; omega)]; exact h.r
  · rw [updS_self, List.length_append]; rfl
  · by_cases h1 : j < Gs.length
    · rw [List.getElem?_append_left h1] at hG
      exact (h.lo j e G hj hG).congr (updS_ne _ _ (by simp only [ne_eq, Prod.mk.injEq]; omega)) (updS_ne _ _ (by simp only [ne_eq, Prod.mk.injEq]; omega))
    · have h2 : j = Gs.length := by
        have := (List.getElem?_eq_some_iff.1 hG).1
        rw [List.length_append, List.length_singleton] at this
        omega
      subst h2
      rw [List.getElem?_append_right (Nat.le_refl _), Nat.sub_self] at hG
      obtain rfl : G0 = G := Option.some.inj hG
      rw [he] at hj
      obtain rfl := Option.some.inj hj
      exact h.at_.congr (updS_ne _ _ (by simp only [ne_eq, Prod.mk.injEq]; omega)) (updS_ne _ _ (by simp only [ne_eq, Prod.mk.injEq]; omega))
  · rw [List.length_append, List.length_singleton] at hl
    rw [updS_ne _ _ (by simp only [ne_eq, Prod.mk.injEq]; omega), updS_ne _ _ (by simp only [ne_eq, Prod.mk.injEq]; omega)]
    exact h.hi j e hj (by omega)
end Go.Proofs.YtkmnonkabekclaaDoor
