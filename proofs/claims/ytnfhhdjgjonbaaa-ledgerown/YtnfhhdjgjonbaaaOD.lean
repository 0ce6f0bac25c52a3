import Derived.Test.YtnfhhdjgjonbaaaOC
import Derived.Test.YtnfhhdjgjonbaaaLK
import Derived.Test.YtnfhhdjgjonbaaaLL
namespace Go.Proofs.Ytnfhhdjgjonbaaa
open Go.RowKit
theorem ow_enc {q : Nat} {T : List UInt8} (hq : 1 ≤ q) (hq2 : q ≤ 100) (hT : T.length ≤ 100) : enE (q : Int) 1 T = 0 ∧ enB (q : Int) 1 T = encL q 1 T := by
  have h : enE (q : Int) 1 T = 0 := by
    unfold enE
    rw [if_neg (by omega), if_pos]
    unfold mB
    exact decide_eq_true ⟨by omega, by omega, by omega, by omega⟩
  exact ⟨h, by unfold enB; rw [if_pos h]; rfl⟩
theorem ow_read {q : Nat} {T : List UInt8} (hq : 1 ≤ q) (hq2 : q ≤ 100) (hT : T.length ≤ 100) : rcE (encL q 1 T) 0 = 0 ∧ rcR (encL q 1 T) 0 = ⟨q, 1, T⟩ := by
  obtain ⟨h1, h2, h3, h4, h5⟩ := rd_enc (s := q) (k := 1) (t := T) (by unfold may; omega) (by omega) []
  rw [List.append_nil] at h1 h2 h3 h4 h5
  have hE : rcE (encL q 1 T) 0 = 0 := by unfold rcE; rw [if_neg (by rw [encL_len]; omega)]; exact h1
  refine ⟨hE, ?_⟩
  rw [rcR, if_pos hE, rdR]
  show (⟨rdS (encL q 1 T), rdK (encL q 1 T), rdT (encL q 1 T)⟩ : Rec) = _
  rw [h2, h3, h5]
/-- what was gathered in one round -/
structure EO where
  p : Option Addr
  c : Nat
  u : Value
  l : List UInt8
  q : Nat
  t : List UInt8
def EO.v (e : EO) : Value := .slice e.p e.l.length e.c
def EO.rc (e : EO) : List Value := [.int .i64 (e.q : Int), .int .i64 1, .string ⟨e.t.toArray⟩]
def regV (e : EO) : Reg := ⟨5, 1, e.v, e.l.length, Lib.byteCells e.l⟩
def regU (e : EO) : Reg := ⟨5, 1, e.u, e.l.length, Lib.byteCells e.l⟩
variable {f : Nat × Nat → Reg} {va vw vr vs vm : Value} {K : List EO}
/-- all that was gathered -/
def GA (f : Nat × Nat → Reg) (va vw vr vs : Value) (K : List EO) : Prop := DO6 f va (K.map EO.v) vw (K.map EO.u) vr K.length (K.flatMap EO.rc) vs K.length (K.flatMap EO.rc) (K.map regV) (K.map regU)
def okK (K : List EO) : Prop := ∀ e ∈ K, 0 < e.l.length ∧ e.l.length ≤ 200
theorem okK.snoc {e : EO} (h : okK K) (h0 : 0 < e.l.length ∧ e.l.length ≤ 200) : okK (K ++ [e]) := fun x hx => by
  rcases List.mem_append.1 hx with hx | hx
  · exact h x hx
  · rw [List.mem_singleton.1 hx]; exact h0
theorem GA.of {e : EO} (h : DO6 f va (K.map EO.v ++ [e.v]) vw (K.map EO.u ++ [e.u]) vr (K.length + 1) (K.flatMap EO.rc ++ e.rc) vs (K.length + 1) (K.flatMap EO.rc ++ e.rc) (K.map regV ++ [regV e]) (K.map regU ++ [regU e])) : GA f va vw vr vs (K ++ [e]) := by
  unfold GA
  simp only [List.map_append, List.map_cons, List.map_nil, List.flatMap_append, List.flatMap_cons, List.flatMap_nil, List.append_nil, List.length_append, List.length_singleton]
  exact h
def mkV (j : Nat) : Value := .int .u8 ((1 + j : Nat) : Int)
def gkV (j : Nat) : Value := .int .u8 ((255 - j : Nat) : Int)
def CM (i k j : Nat) (e : EO) : List Value := if j < i then List.replicate e.l.length (mkV j) else if j = i then List.replicate k (mkV i) ++ (Lib.byteCells e.l).drop k else Lib.byteCells e.l
/-- while they are marked -/
structure DOC (f : Nat × Nat → Reg) (va vr vs : Value) (K : List EO) (i k : Nat) : Prop where
  a : f (0, 0) = ⟨30, 1, va, K.length, K.map EO.v⟩
  r : f (0, 2) = ⟨29, 3, vr, K.length, K.flatMap EO.rc⟩
  s : f (0, 3) = ⟨29, 3, vs, K.length, K.flatMap EO.rc⟩
  v : ∀ j e, K[j]? = some e → f (1, j) = ⟨5, 1, e.v, e.l.length, CM i k j e⟩
  g : ∀ j, f (3, j) = nilR 5 1
  m : f (0, 4) = nilR 30 1
theorem CM_start (j : Nat) (e : EO) : CM 0 0 j e = Lib.byteCells e.l := by
  unfold CM
  rw [if_neg (by omega)]
  split
  · simp
  · rfl
theorem GA.toC (h : GA f va vw vr vs K) : DOC f va vr vs K 0 0 :=
  ⟨by have := h.a; rw [List.length_map] at this; exact this, h.r, h.s, fun j e he => by
    rw [h.v j, CM_start, List.getD_eq_getElem?_getD, List.getElem?_map, he]; rfl, h.g, h.m⟩
theorem set_mid (xs : List Value) (a : Value) (k : Nat) (hk : k < xs.length) : (List.replicate k a ++ xs.drop k).set k a = List.replicate (k + 1) a ++ xs.drop (k + 1) := by
  rw [List.set_append_right _ _ (by simp), List.length_replicate, Nat.sub_self, List.drop_eq_getElem_cons hk, List.set_cons_zero, List.replicate_succ', List.append_assoc]
  rfl
theorem bc_len (l : List UInt8) : (Lib.byteCells l).length = l.length := by simp [Lib.byteCells]
theorem DOC.store {W : World} {B i k g : Nat} {e : EO} (hs : SEP W B f) (h : DOC f va vr vs K i k) (he : K[i]? = some e) (hk : k < e.l.length) (hp : e.p = some ⟨g, 0, none⟩) :
    ∃ f', SEP (W.setCell ⟨g, k, none⟩ (mkV i)) B f' ∧ DOC f' va vr vs K i (k + 1) ∧ B ≤ g := by
  have hv := h.v i e he
  unfold EO.v at hv
  rw [hp] at hv
  obtain ⟨s1, s2⟩ := hs.store (1, i) hv k (mkV i)
  refine ⟨_, s1, ⟨(updS_ne _ _ (by simp)).trans h.a, (updS_ne _ _ (by simp)).trans h.r, (updS_ne _ _ (by simp)).trans h.s, fun j x hx => ?_, fun j => (updS_ne _ _ (by simp)).trans (h.g j), (updS_ne _ _ (by simp)).trans h.m⟩, s2⟩
  by_cases hj : j = i
  · subst hj
    rw [he] at hx
    obtain rfl := Option.some.inj hx
    rw [updS_self]
    unfold EO.v CM
    rw [hp, if_neg (by omega), if_pos rfl, if_neg (by omega), if_pos rfl, set_mid _ _ _ (by rw [bc_len]; exact hk)]
  · rw [updS_ne _ _ (by simpa using hj), h.v j x hx]
    unfold CM
    rw [if_neg hj, if_neg hj]
theorem DOC.next {i : Nat} {e : EO} (h : DOC f va vr vs K i e.l.length) (he : K[i]? = some e) : DOC f va vr vs K (i + 1) 0 :=
  ⟨h.a, h.r, h.s, fun j x hx => by
    rw [h.v j x hx]
    congr 1
    unfold CM
    by_cases h1 : j < i
    · rw [if_pos h1, if_pos (by omega)]
    · by_cases h2 : j = i
      · subst h2
        rw [he] at hx
        obtain rfl := Option.some.inj hx
        rw [if_neg h1, if_pos rfl, if_pos (by omega), List.drop_of_length_le (by rw [bc_len]; exact Nat.le_refl _), List.append_nil]
      · rw [if_neg h1, if_neg h2, if_neg (by omega)]
        split
        · simp
        · rfl, h.g, h.m⟩
def MV (j : Nat) (e : EO) : List Value := List.replicate e.l.length (mkV j)
/-- while they are gone on from -/
structure DOD (f : Nat × Nat → Reg) (va vr vs vm : Value) (K : List EO) (Gs : List Value) : Prop where
  a : f (0, 0) = ⟨30, 1, va, K.length, K.map EO.v⟩
  r : f (0, 2) = ⟨29, 3, vr, K.length, K.flatMap EO.rc⟩
  s : f (0, 3) = ⟨29, 3, vs, K.length, K.flatMap EO.rc⟩
  m : f (0, 4) = ⟨30, 1, vm, Gs.length, Gs⟩
  lo : ∀ j e G, K[j]? = some e → Gs[j]? = some G → GST f (1, j) (3, j) 5 1 e.v e.l.length (MV j e) G 64 (List.replicate 64 (gkV j))
  hi : ∀ j e, K[j]? = some e → Gs.length ≤ j → f (1, j) = ⟨5, 1, e.v, e.l.length, MV j e⟩ ∧ f (3, j) = nilR 5 1
structure DOG (f : Nat × Nat → Reg) (va vr vs vm : Value) (K : List EO) (Gs : List Value) (e0 : EO) (G0 : Value) (m0 : Nat) : Prop where
  a : f (0, 0) = ⟨30, 1, va, K.length, K.map EO.v⟩
  r : f (0, 2) = ⟨29, 3, vr, K.length, K.flatMap EO.rc⟩
  s : f (0, 3) = ⟨29, 3, vs, K.length, K.flatMap EO.rc⟩
  m : f (0, 4) = ⟨30, 1, vm, Gs.length, Gs⟩
  lo : ∀ j e G, K[j]? = some e → Gs[j]? = some G → GST f (1, j) (3, j) 5 1 e.v e.l.length (MV j e) G 64 (List.replicate 64 (gkV j))
  at_ : GST f (1, Gs.length) (3, Gs.length) 5 1 e0.v e0.l.length (MV Gs.length e0) G0 m0 (List.replicate m0 (gkV Gs.length))
  hi : ∀ j e, K[j]? = some e → Gs.length < j → f (1, j) = ⟨5, 1, e.v, e.l.length, MV j e⟩ ∧ f (3, j) = nilR 5 1
theorem GST.congr {f f' : Nat × Nat → Reg} {k k3 : Nat × Nat} {T s n m : Nat} {v G : Value} {A S : List Value} (h : GST f k k3 T s v n A G m S) (h1 : f' k = f k) (h3 : f' k3 = f k3) : GST f' k k3 T s v n A G m S := by
  unfold GST at h ⊢
  rw [h1, h3]
  exact h
theorem DOC.toD (h : DOC f va vr vs K K.length 0) : DOD f va vr vs (.slice none 0 0) K [] :=
  ⟨h.a, h.r, h.s, h.m, fun j e G _ hG => by simp at hG, fun j e he _ => ⟨by
    rw [h.v j e he]
    unfold CM
    rw [if_pos (List.getElem?_eq_some_iff.1 he).1]
    rfl, h.g j⟩⟩
theorem DOD.toG {W : World} {B : Nat} {Gs : List Value} {e : EO} (hs : SEP W B f) (h : DOD f va vr vs vm K Gs) (he : K[Gs.length]? = some e) : DOG f va vr vs vm K Gs e e.v 0 :=
  ⟨h.a, h.r, h.s, h.m, h.lo, GST.start hs (h.hi _ e he (Nat.le_refl _)).1 (h.hi _ e he (Nat.le_refl _)).2, fun j x hx hj => h.hi j x hx (by omega)⟩
theorem DOG.grow {W : World} {B nb : Nat} {Gs : List Value} {e0 : EO} {G0 : Value} {m0 : Nat} (hs : SEP W B f) (h : DOG f va vr vs vm K Gs e0 G0 m0) (ty : TypeId) (hB : B ≤ W.heap.size) (hnb : W.heap[nb]? = some (.cells #[gkV Gs.length] 5 (0, 0))) (hl : e0.l.length ≤ 200) (hm : m0 ≤ 64) :
    ∃ G' W' f', (Builtin.append_ #[30, 30] ty #[G0, .slice (some ⟨nb, 0, none⟩) 1 1]).run Try.prog W = .ok G' W' ∧ SEP W' B f' ∧ DOG f' va vr vs vm K Gs e0 G' (m0 + 1) ∧ W.grownBy W' G0.ownBlock ∧ (∀ b, G0.ownBlock = some b → B ≤ b) := by
  obtain ⟨i0, hi, hz0, hz1, hz2⟩ := info_parts info_u8
  obtain ⟨G', W', f', hr, s1, g1, hf, hg, hb⟩ := GST.grow (TS := 30) (nb := nb) [gkV Gs.length] ty Try.underlying30 hi hz0 hz1 hz2 rfl (by decide) (by decide) rfl (fun u hu => by rw [List.mem_singleton.1 hu]; rfl) (by simp) hs h.at_ (by unfold MV; simp) hB (World.news_of_block hnb) (by omega)
  refine ⟨G', W', f', hr, s1, ⟨(hf _ (by simp) (by simp)).trans h.a, (hf _ (by simp) (by simp)).trans h.r, (hf _ (by simp) (by simp)).trans h.s, (hf _ (by simp) (by simp)).trans h.m, fun j e G he hG => ?_, ?_, fun j e he hj => ?_⟩, hg, hb⟩
  · have hj : j ≠ Gs.length := by have := (List.getElem?_eq_some_iff.1 hG).1; omega
    exact (h.lo j e G he hG).congr (hf _ (by simpa using hj) (by simp)) (hf _ (by simp) (by simpa using hj))
  · rw [List.replicate_succ']
    exact g1
  · have hj2 : j ≠ Gs.length := by omega
    rw [hf _ (by simpa using hj2) (by simp), hf _ (by simp) (by simpa using hj2)]
    exact h.hi j e he hj
theorem DOG.more {Gs : List Value} {e0 : EO} {G0 : Value} (h : DOG f va vr vs vm K Gs e0 G0 64) (he : K[Gs.length]? = some e0) (vm' : Value) : DOD (updS f (0, 4) ⟨30, 1, vm', Gs.length + 1, Gs ++ [G0]⟩) va vr vs vm' K (Gs ++ [G0]) :=
  ⟨(updS_ne _ _ (by simp)).trans h.a, (updS_ne _ _ (by simp)).trans h.r, (updS_ne _ _ (by simp)).trans h.s, by rw [updS_self, List.length_append]; rfl, fun j e G hj hG => by
    by_cases h1 : j < Gs.length
    · rw [List.getElem?_append_left h1] at hG
      exact (h.lo j e G hj hG).congr (updS_ne _ _ (by simp)) (updS_ne _ _ (by simp))
    · have h2 : j = Gs.length := by
        have := (List.getElem?_eq_some_iff.1 hG).1
        rw [List.length_append, List.length_singleton] at this
        omega
      subst h2
      rw [List.getElem?_append_right (Nat.le_refl _), Nat.sub_self] at hG
      obtain rfl : G0 = G := Option.some.inj hG
      rw [he] at hj
      obtain rfl := Option.some.inj hj
      exact h.at_.congr (updS_ne _ _ (by simp)) (updS_ne _ _ (by simp)), fun j e hj hl => by
    rw [List.length_append, List.length_singleton] at hl
    rw [updS_ne _ _ (by simp), updS_ne _ _ (by simp)]
    exact h.hi j e hj (by omega)⟩
end Go.Proofs.Ytnfhhdjgjonbaaa
