import Derived.Test.YtkmnonkabekclaaDoorSC
import Derived.Test.YtkmnonkabekclaaDoorPQ
import Derived.Test.YtkmnonkabekclaaDoorLS
import Derived.Test.YtkmnonkabekclaaDoorLK
namespace Go.Proofs.YtkmnonkabekclaaDoor
open Go.RowKit Go.Shelf
theorem whL_len : ∀ (m k : Nat) (d : List UInt8), d.length ≤ m → (whL k d).length * 20 ≤ d.length
  | m, k, d, hm => by
    by_cases h : onB k d
    · have h3 := (rdE_ok h.1).2.2.1
      rw [whL_on h, List.length_cons]
      have hl : (nxt d).length = d.length - (rdN d + 20) := by unfold nxt; rw [List.length_drop]
      match m with
      | 0 => omega
      | m + 1 =>
        have := whL_len m (k + 1) (nxt d) (by omega)
        omega
    · rw [whL_off h]
      simp
def unM (tx : List UInt8) : List (List UInt8) := if 16384 < tx.length then [] else (unW tx).getD []
theorem unM_len (tx : List UInt8) : (unM tx).length ≤ 16384 := by
  unfold unM
  split
  · simp
  · cases h : unW tx with
    | none => simp
    | some L =>
      have := unW_len tx.length tx L (Nat.le_refl _) h
      simp only [Option.getD_some]
      omega
theorem UNQ.os {tx : List UInt8} {w w' : World} {e : Ending} (h : UNQ tx w e w') : ∃ v E, e = .returned (.tuple #[v, .int .i64 E]) ∧ OS w' w.heap.size v (unM tx) ∧ Below w.heap.size w w' := by
  obtain ⟨⟨v, E, he, hc⟩, hb⟩ := h
  refine ⟨v, E, he, ?_, hb⟩
  unfold unM
  rcases hc with ⟨h1, _, rfl⟩ | ⟨h1, ⟨h2, _, rfl⟩ | ⟨L, h2, _, ho⟩⟩
  · rw [if_pos h1]; exact OS_nil _ _
  · rw [if_neg (by omega), h2]; exact OS_nil _ _
  · rw [if_neg (by omega), h2]; exact ho
variable {W : World} {B : Nat} {f : Nat × Nat → Reg} {va vb vw vl : Value} {R : List Rec} {M : List (List UInt8)} {K : List EL}
def EL.k0 (e : EL) : Option Addr × Nat := (e.p, e.c)
def EL.k1 (e : EL) : Option Addr × Nat := (e.q, e.d)
theorem SL.split (h : SL W B va vb vw vl R M K) : ∃ f, SEP W B f ∧ HC f 0 35 40 3 va vw R.length (rcs R) (K.map EL.k0) (CR (rcs R) R.length 0 0) ∧ HC f 1 9 22 1 vb vl M.length (stZ M) (K.map EL.k1) (CT (stZ M) M.length 0 0) := by
  obtain ⟨⟨f, h1, h2⟩, -⟩ := h
  refine ⟨f, h1, ⟨?_, h2.w, fun j e he => ?_, h2.g, h2.m⟩, ⟨?_, h2.l, fun j e he => ?_, h2.h, h2.n⟩⟩
  · have := h2.a
    rw [List.length_map] at this
    rw [List.length_map, List.map_map]
    exact this
  · rw [List.getElem?_map] at he
    obtain ⟨x, hx, rfl⟩ := Option.map_eq_some_iff.1 he
    rw [← CR_start]
    have := h2.v j
    rw [List.getD_eq_getElem?_getD, List.getElem?_map, hx] at this
    exact this
  · have := h2.b
    rw [List.length_map] at this
    rw [List.length_map, List.map_map]
    exact this
  · rw [List.getElem?_map] at he
    obtain ⟨x, hx, rfl⟩ := Option.map_eq_some_iff.1 he
    rw [← CT_start]
    have := h2.u j
    rw [List.getD_eq_getElem?_getD, List.getElem?_map, hx] at this
    exact this
/-- what is read of an entry when all is gathered -/
theorem SL.at {pa pb pw pl : Option Addr} {ln ca cb nw cw nl cl i : Nat} {e : EL} (h : SL W B (.slice pa ln ca) (.slice pb ln cb) (.slice pw nw cw) (.slice pl nl cl) R M K) (he : K[i]? = some e) :
    ∃ ga gb, pa = some ⟨ga, 0, none⟩ ∧ pb = some ⟨gb, 0, none⟩ ∧ ∀ U, Below W.heap.size W U → (U.cell? ⟨ga, i, none⟩ = some (.slice e.p R.length e.c) ∧ U.cell? ⟨gb, i, none⟩ = some (.slice e.q M.length e.d) ∧ RR U e.p R ∧ TR U e.q M ∧ RR U pw R ∧ TR U pl M) := by
  obtain ⟨⟨f, hs, h2⟩, -⟩ := h
  have hl : K.length ≠ 0 := by have := (List.getElem?_eq_some_iff.1 he).1; omega
  obtain ⟨ga, rfl⟩ := row_someL hs h2.a (by rw [List.length_map]; exact hl)
  obtain ⟨gb, rfl⟩ := row_someL hs h2.b (by rw [List.length_map]; exact hl)
  refine ⟨ga, gb, rfl, rfl, fun U hU => ?_⟩
  have hsU := hs.below hU
  have e1 := h2.v i
  have e2 := h2.u i
  rw [List.getD_eq_getElem?_getD, List.getElem?_map, he] at e1 e2
  have o1 := hsU.own (1, i)
  have o2 := hsU.own (2, i)
  have o3 := hsU.own (0, 2)
  have o4 := hsU.own (0, 3)
  rw [e1] at o1
  rw [e2] at o2
  rw [h2.w] at o3
  rw [h2.l] at o4
  exact ⟨row_atL hsU h2.a (by rw [List.getElem?_map, he]; rfl), row_atL hsU h2.b (by rw [List.getElem?_map, he]; rfl), OR.rr (n := R.length) (c := e.c) o1, OS.tr (n := M.length) (c := e.d) o2, OR.rr (B := B) o3, OS.tr (B := B) o4⟩
theorem HD.rd {z T TE s : Nat} {vr vm : Value} {n : Nat} {X : List Value} {KK : List (Option Addr × Nat)} {mk : Nat → List Value} {gk : Nat → Nat → List Value} {Gs : List Value} (hs : SEP W B f) (h : HD f z T TE s va vr vm n X KK mk gk Gs) : W.ownsRow B T s vr n X := by
  have o := hs.own (0, 2 + z)
  rw [h.r] at o
  exact o
end Go.Proofs.YtkmnonkabekclaaDoor
