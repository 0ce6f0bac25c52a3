import Derived.Test.YtnfhhdjgjonbaaaOD
namespace Go.Proofs.Ytnfhhdjgjonbaaa
open Go.RowKit
/-- what stands between the calls of one round -/
def ST (W : World) (B : Nat) (va : Value) (La : List Value) (vw : Value) (Lw : List Value) (vr : Value) (nr : Nat) (Lr : List Value) (vs : Value) (ns : Nat) (Ls : List Value) (V U : List Reg) (x0 x1 : Reg) : Prop :=
  (∃ f, SEP W B f ∧ DO6 f va La vw Lw vr nr Lr vs ns Ls V U ∧ f (4, 0) = x0 ∧ f (4, 1) = x1) ∧ B ≤ W.heap.size
variable {W X w : World} {B : Nat} {va vw vr vs : Value} {La Lw Lr Ls : List Value} {nr ns : Nat} {V U : List Reg} {x0 x1 : Reg}
theorem ST.below (h : ST W B va La vw Lw vr nr Lr vs ns Ls V U x0 x1) (hb : Below W.heap.size W X) : ST X B va La vw Lw vr nr Lr vs ns Ls V U x0 x1 := by
  obtain ⟨⟨f, h1, h2⟩, h3⟩ := h
  exact ⟨⟨f, h1.below hb, h2⟩, Nat.le_trans h3 hb.size⟩
def boxR (b : Nat) (xs : List Value) : Reg := ⟨29, 3, .slice (some ⟨b, 0, none⟩) 1 1, 1, xs⟩
theorem ST.box0 (h : ST W B va La vw Lw vr nr Lr vs ns Ls V U x0 x1) {b : Nat} (hW : W.heap.size = b) (a0 a1 a2 : Value) : ST (W.alloc (.cells #[a0, a1, a2] 29 (0, 0))) B va La vw Lw vr nr Lr vs ns Ls V U (boxR b [a0, a1, a2]) x1 := by
  obtain ⟨⟨f, h1, h2, h3, h4⟩, h5⟩ := h
  subst hW
  have hb := belAZ (Below.refl _ W) (.cells #[a0, a1, a2] 29 (0, 0))
  exact ⟨⟨_, h1.new hb h5 (4, 0) (r := boxR W.heap.size [a0, a1, a2]) (own_box (alloc_getZ _ _) (Nat.le_refl _) rfl), h2.box 0 _, updS_self _ _ _, (updS_ne _ _ (by simp)).trans h4⟩, Nat.le_trans h5 hb.size⟩
theorem ST.box1 (h : ST W B va La vw Lw vr nr Lr vs ns Ls V U x0 x1) {b : Nat} (hW : W.heap.size = b) (a0 a1 a2 : Value) : ST (W.alloc (.cells #[a0, a1, a2] 29 (0, 0))) B va La vw Lw vr nr Lr vs ns Ls V U x0 (boxR b [a0, a1, a2]) := by
  obtain ⟨⟨f, h1, h2, h3, h4⟩, h5⟩ := h
  subst hW
  have hb := belAZ (Below.refl _ W) (.cells #[a0, a1, a2] 29 (0, 0))
  exact ⟨⟨_, h1.new hb h5 (4, 1) (r := boxR W.heap.size [a0, a1, a2]) (own_box (alloc_getZ _ _) (Nat.le_refl _) rfl), h2.box 1 _, (updS_ne _ _ (by simp)).trans h3, updS_self _ _ _⟩, Nat.le_trans h5 hb.size⟩
theorem ST.get0 {b : Nat} {a0 a1 a2 : Value} (h : ST W B va La vw Lw vr nr Lr vs ns Ls V U (boxR b [a0, a1, a2]) x1) : W.cell? ⟨b, 0, none⟩ = some a0 ∧ W.cell? ⟨b, 1, none⟩ = some a1 ∧ W.cell? ⟨b, 2, none⟩ = some a2 := by
  obtain ⟨⟨f, h1, h2, h3, h4⟩, h5⟩ := h
  have o := h1.own (4, 0)
  rw [h3] at o
  have o' : W.ownsRow B 29 3 (.slice (some ⟨b, 0, none⟩) 1 1) 1 [a0, a1, a2] := o
  exact ⟨own_atZ o' rfl, own_atZ o' rfl, own_atZ o' rfl⟩
theorem ST.get1 {b : Nat} {a0 a1 a2 : Value} (h : ST W B va La vw Lw vr nr Lr vs ns Ls V U x0 (boxR b [a0, a1, a2])) : W.cell? ⟨b, 0, none⟩ = some a0 ∧ W.cell? ⟨b, 1, none⟩ = some a1 ∧ W.cell? ⟨b, 2, none⟩ = some a2 := by
  obtain ⟨⟨f, h1, h2, h3, h4⟩, h5⟩ := h
  have o := h1.own (4, 1)
  rw [h4] at o
  have o' : W.ownsRow B 29 3 (.slice (some ⟨b, 0, none⟩) 1 1) 1 [a0, a1, a2] := o
  exact ⟨own_atZ o' rfl, own_atZ o' rfl, own_atZ o' rfl⟩
theorem ST.nv (h : ST W B va La vw Lw vr nr Lr vs ns Ls V U x0 x1) (hb : Below W.heap.size W X) {v : Value} {l : List UInt8} (ho : OB X W.heap.size v l) : ST X B va La vw Lw vr nr Lr vs ns Ls (V ++ [⟨5, 1, v, l.length, Lib.byteCells l⟩]) U x0 x1 := by
  obtain ⟨⟨f, h1, h2, h3, h4⟩, h5⟩ := h
  exact ⟨⟨_, h1.new hb h5 (1, V.length) (r := ⟨5, 1, v, l.length, Lib.byteCells l⟩) ho, h2.uv _ rfl _, (updS_ne _ _ (by simp)).trans h3, (updS_ne _ _ (by simp)).trans h4⟩, Nat.le_trans h5 hb.size⟩
theorem ST.nu (h : ST W B va La vw Lw vr nr Lr vs ns Ls V U x0 x1) (hb : Below W.heap.size W X) {v : Value} {l : List UInt8} (ho : OB X W.heap.size v l) : ST X B va La vw Lw vr nr Lr vs ns Ls V (U ++ [⟨5, 1, v, l.length, Lib.byteCells l⟩]) x0 x1 := by
  obtain ⟨⟨f, h1, h2, h3, h4⟩, h5⟩ := h
  exact ⟨⟨_, h1.new hb h5 (2, U.length) (r := ⟨5, 1, v, l.length, Lib.byteCells l⟩) ho, h2.uu _ rfl _, (updS_ne _ _ (by simp)).trans h3, (updS_ne _ _ (by simp)).trans h4⟩, Nat.le_trans h5 hb.size⟩
theorem ST.ta (h : ST W B va La vw Lw vr nr Lr vs ns Ls V U x0 x1) (ty : TypeId) {nb : Nat} (x : Value) (hx : x.oneCell' = true) (hnb : W.heap[nb]? = some (.cells #[x] 30 (0, 0))) (hl : La.length ≤ 100000) :
    ∃ v' X, (Builtin.append_ #[24, 24] ty #[va, .slice (some ⟨nb, 0, none⟩) 1 1]).run Try.prog W = .ok v' X ∧ ST X B v' (La ++ [x]) vw Lw vr nr Lr vs ns Ls V U x0 x1 ∧ (∃ p' c', v' = .slice p' (La.length + 1) c') ∧ (∀ w : World, w.heap.size ≤ B → Below w.heap.size w W → Below w.heap.size w X) := by
  obtain ⟨⟨f, h1, h2, h3, h4⟩, h5⟩ := h
  obtain ⟨i0, hi, hz0, hz1, hz2⟩ := info_parts info_sb
  have o := h1.own (0, 0)
  rw [h2.a] at o
  obtain ⟨v', X, hr, o2, g2, n2⟩ := appZ (TS := 24) (nb := nb) ty Try.underlying24 hi hz0 hz1 hz2 rfl (by decide) o h5 (news := [x]) rfl (World.news_of_block hnb) (fun u hu => by rw [List.mem_singleton.1 hu]; exact hx) hl (by decide)
  have s1 := h1.upd (0, 0) (r := ⟨30, 1, v', La.length + 1, _⟩) o2 (by rw [h2.a]; exact g2) (by rw [h2.a]; exact n2)
  exact ⟨v', X, hr, ⟨⟨_, s1, h2.ua v' x, (updS_ne _ _ (by simp)).trans h3, (updS_ne _ _ (by simp)).trans h4⟩, Nat.le_trans h5 g2.size⟩, shapeZ o2, fun w hw hb => bel_grZ hb g2 (fun k e => Nat.le_trans hw (World.ownsRow.lt o k e).1)⟩
theorem ST.tw (h : ST W B va La vw Lw vr nr Lr vs ns Ls V U x0 x1) (ty : TypeId) {nb : Nat} (x : Value) (hx : x.oneCell' = true) (hnb : W.heap[nb]? = some (.cells #[x] 30 (0, 0))) (hl : Lw.length ≤ 100000) :
    ∃ v' X, (Builtin.append_ #[24, 24] ty #[vw, .slice (some ⟨nb, 0, none⟩) 1 1]).run Try.prog W = .ok v' X ∧ ST X B va La v' (Lw ++ [x]) vr nr Lr vs ns Ls V U x0 x1 ∧ (∃ p' c', v' = .slice p' (Lw.length + 1) c') ∧ (∀ w : World, w.heap.size ≤ B → Below w.heap.size w W → Below w.heap.size w X) := by
  obtain ⟨⟨f, h1, h2, h3, h4⟩, h5⟩ := h
  obtain ⟨i0, hi, hz0, hz1, hz2⟩ := info_parts info_sb
  have o := h1.own (0, 1)
  rw [h2.w] at o
  obtain ⟨v', X, hr, o2, g2, n2⟩ := appZ (TS := 24) (nb := nb) ty Try.underlying24 hi hz0 hz1 hz2 rfl (by decide) o h5 (news := [x]) rfl (World.news_of_block hnb) (fun u hu => by rw [List.mem_singleton.1 hu]; exact hx) hl (by decide)
  have s1 := h1.upd (0, 1) (r := ⟨30, 1, v', Lw.length + 1, _⟩) o2 (by rw [h2.w]; exact g2) (by rw [h2.w]; exact n2)
  exact ⟨v', X, hr, ⟨⟨_, s1, h2.uw v' x, (updS_ne _ _ (by simp)).trans h3, (updS_ne _ _ (by simp)).trans h4⟩, Nat.le_trans h5 g2.size⟩, shapeZ o2, fun w hw hb => bel_grZ hb g2 (fun k e => Nat.le_trans hw (World.ownsRow.lt o k e).1)⟩
theorem ST.tr (h : ST W B va La vw Lw vr nr Lr vs ns Ls V U x0 x1) (ty : TypeId) {nb : Nat} (a0 a1 a2 : Value) (hx : a0.oneCell' = true ∧ a1.oneCell' = true ∧ a2.oneCell' = true) (hnb : W.heap[nb]? = some (.cells #[a0, a1, a2] 29 (0, 0))) (hl : nr ≤ 100000) :
    ∃ v' X, (Builtin.append_ #[25, 25] ty #[vr, .slice (some ⟨nb, 0, none⟩) 1 1]).run Try.prog W = .ok v' X ∧ ST X B va La vw Lw v' (nr + 1) (Lr ++ [a0, a1, a2]) vs ns Ls V U x0 x1 ∧ (∃ p' c', v' = .slice p' (nr + 1) c') ∧ (∀ w : World, w.heap.size ≤ B → Below w.heap.size w W → Below w.heap.size w X) := by
  obtain ⟨⟨f, h1, h2, h3, h4⟩, h5⟩ := h
  obtain ⟨i0, hi, hz0, hz1, hz2⟩ := info_parts info_rec
  have o := h1.own (0, 2)
  rw [h2.r] at o
  obtain ⟨v', X, hr, o2, g2, n2⟩ := appZ (TS := 25) (nb := nb) ty Try.underlying25 hi hz0 hz1 hz2 rfl (by decide) o h5 (news := [a0, a1, a2]) rfl (World.news_of_block hnb) (fun u hu => by simp only [List.mem_cons, List.not_mem_nil, or_false] at hu; rcases hu with rfl | rfl | rfl; exact hx.1; exact hx.2.1; exact hx.2.2) hl (by decide)
  have s1 := h1.upd (0, 2) (r := ⟨29, 3, v', nr + 1, _⟩) o2 (by rw [h2.r]; exact g2) (by rw [h2.r]; exact n2)
  exact ⟨v', X, hr, ⟨⟨_, s1, h2.ur v' [a0, a1, a2], (updS_ne _ _ (by simp)).trans h3, (updS_ne _ _ (by simp)).trans h4⟩, Nat.le_trans h5 g2.size⟩, shapeZ o2, fun w hw hb => bel_grZ hb g2 (fun k e => Nat.le_trans hw (World.ownsRow.lt o k e).1)⟩
theorem ST.ts (h : ST W B va La vw Lw vr nr Lr vs ns Ls V U x0 x1) (ty : TypeId) {nb : Nat} (a0 a1 a2 : Value) (hx : a0.oneCell' = true ∧ a1.oneCell' = true ∧ a2.oneCell' = true) (hnb : W.heap[nb]? = some (.cells #[a0, a1, a2] 29 (0, 0))) (hl : ns ≤ 100000) :
    ∃ v' X, (Builtin.append_ #[25, 25] ty #[vs, .slice (some ⟨nb, 0, none⟩) 1 1]).run Try.prog W = .ok v' X ∧ ST X B va La vw Lw vr nr Lr v' (ns + 1) (Ls ++ [a0, a1, a2]) V U x0 x1 ∧ (∃ p' c', v' = .slice p' (ns + 1) c') ∧ (∀ w : World, w.heap.size ≤ B → Below w.heap.size w W → Below w.heap.size w X) := by
  obtain ⟨⟨f, h1, h2, h3, h4⟩, h5⟩ := h
  obtain ⟨i0, hi, hz0, hz1, hz2⟩ := info_parts info_rec
  have o := h1.own (0, 3)
  rw [h2.s] at o
  obtain ⟨v', X, hr, o2, g2, n2⟩ := appZ (TS := 25) (nb := nb) ty Try.underlying25 hi hz0 hz1 hz2 rfl (by decide) o h5 (news := [a0, a1, a2]) rfl (World.news_of_block hnb) (fun u hu => by simp only [List.mem_cons, List.not_mem_nil, or_false] at hu; rcases hu with rfl | rfl | rfl; exact hx.1; exact hx.2.1; exact hx.2.2) hl (by decide)
  have s1 := h1.upd (0, 3) (r := ⟨29, 3, v', ns + 1, _⟩) o2 (by rw [h2.s]; exact g2) (by rw [h2.s]; exact n2)
  exact ⟨v', X, hr, ⟨⟨_, s1, h2.us v' [a0, a1, a2], (updS_ne _ _ (by simp)).trans h3, (updS_ne _ _ (by simp)).trans h4⟩, Nat.le_trans h5 g2.size⟩, shapeZ o2, fun w hw hb => bel_grZ hb g2 (fun k e => Nat.le_trans hw (World.ownsRow.lt o k e).1)⟩
/-- between the rounds -/
def SO (W : World) (B : Nat) (va vw vr vs : Value) (nk : Nat) : Prop := ∃ K : List EO, K.length = nk ∧ okK K ∧ ∃ x0 x1, ST W B va (K.map EO.v) vw (K.map EO.u) vr nk (K.flatMap EO.rc) vs nk (K.flatMap EO.rc) (K.map regV) (K.map regU) x0 x1
theorem SO.start (W : World) (B : Nat) (hB : B ≤ W.heap.size) : SO W B (.slice none 0 0) (.slice none 0 0) (.slice none 0 0) (.slice none 0 0) 0 := ⟨[], rfl, fun _ h => by simp at h, _, _, ⟨fN, SEP_fN _ _, DO6_fN, rfl, rfl⟩, hB⟩
theorem SO.ga {nk : Nat} (h : SO W B va vw vr vs nk) : ∃ K : List EO, K.length = nk ∧ okK K ∧ (∃ f, SEP W B f ∧ GA f va vw vr vs K) ∧ B ≤ W.heap.size := by
  obtain ⟨K, hn, hk, x0, x1, ⟨f, h1, h2, -, -⟩, h5⟩ := h
  subst hn
  exact ⟨K, rfl, hk, ⟨f, h1, h2⟩, h5⟩
theorem SO.snoc {nk : Nat} {K : List EO} (hn : K.length = nk) (hk : okK K) (e : EO) (he : 0 < e.l.length ∧ e.l.length ≤ 200) (h : ST W B va (K.map EO.v ++ [e.v]) vw (K.map EO.u ++ [e.u]) vr (nk + 1) (K.flatMap EO.rc ++ e.rc) vs (nk + 1) (K.flatMap EO.rc ++ e.rc) (K.map regV ++ [regV e]) (K.map regU ++ [regU e]) x0 x1) : SO W B va vw vr vs (nk + 1) := by
  obtain ⟨⟨f, h1, h2, h3, h4⟩, h5⟩ := h
  subst hn
  have hg : GA f va vw vr vs (K ++ [e]) := GA.of h2
  refine ⟨K ++ [e], by simp, hk.snoc he, x0, x1, ⟨f, h1, ?_, h3, h4⟩, h5⟩
  unfold GA at hg
  rw [List.length_append, List.length_singleton] at hg
  exact hg
end Go.Proofs.Ytnfhhdjgjonbaaa
