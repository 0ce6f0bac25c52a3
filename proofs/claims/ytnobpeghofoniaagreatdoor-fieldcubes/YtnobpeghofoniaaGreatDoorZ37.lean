import Derived.Test.YtnobpeghofoniaaGreatDoorZ36
import Derived.Test.YtnobpeghofoniaaGreatDoorZ19
namespace Go.Proofs.YtnobpeghofoniaaGreatDoor
open Go.RowKit Go.Shelf
/-- a row of numbers lies there, now and later -/
def IRV (w : World) (o : Option Addr) (V : List Int) : Prop := ∀ W : World, Below w.heap.size w W → ∀ (k : Nat) (v : Int), V[k]? = some v → ∃ g o0, o = some ⟨g, o0, none⟩ ∧ W.cell? ⟨g, o0 + k, none⟩ = some (.int .i64 v)
theorem IRV.later {w w' : World} {o : Option Addr} {V : List Int} (h : IRV w o V) (hb : Below w.heap.size w w') : IRV w' o V := fun W hW => h W (bel0 hb hW)
/-- the header of the values, behind what stands already -/
def pkF : List IFld → List Int → List UInt8 → List UInt8 × Int
  | f :: L, v :: V, acc => if 0 ≤ v ∧ v ≤ ((2 ^ f.2.toNat - 1 : Nat) : Int) then pkF L V (acc ++ digL f.2.toNat v.toNat 0) else ([], 42)
  | _, _, acc => (acc, 0)
/-- what Pack answers -/
def pkM (L : List IFld) (V : List Int) : List UInt8 × Int := if (chkM L).1 ≠ 0 then ([], (chkM L).1) else if V.length ≠ L.length then ([], 1) else pkF L V []
theorem pkF_step {L : List IFld} {V : List Int} {k : Nat} {f : IFld} {v : Int} (hf : L[k]? = some f) (hv : V[k]? = some v) (acc : List UInt8) : pkF (L.drop k) (V.drop k) acc = if 0 ≤ v ∧ v ≤ ((2 ^ f.2.toNat - 1 : Nat) : Int) then pkF (L.drop (k + 1)) (V.drop (k + 1)) (acc ++ digL f.2.toNat v.toNat 0) else ([], 42) := by
  obtain ⟨h1, e1⟩ := List.getElem?_eq_some_iff.1 hf
  obtain ⟨h2, e2⟩ := List.getElem?_eq_some_iff.1 hv
  rw [List.drop_eq_getElem_cons h1, List.drop_eq_getElem_cons h2, e1, e2, pkF]
theorem pkF_end {L : List IFld} {V : List Int} {k : Nat} (h : L.length ≤ k) (acc : List UInt8) : pkF (L.drop k) (V.drop k) acc = (acc, 0) := by
  rw [List.drop_eq_nil_of_le h]
  unfold pkF
  rfl
theorem chkL_ok : ∀ (rest seen : List IFld), (chkL seen rest).1 = 0 → (∀ f ∈ rest, 1 ≤ f.2 ∧ f.2 ≤ 32) ∧ (rest ≠ [] → sumB (seen ++ rest) ≤ 256)
  | [], seen, _ => ⟨fun f hf => (List.not_mem_nil hf).elim, fun h => absurd rfl h⟩
  | f :: r, seen, h => by
    rw [chkL] at h
    cases hb : badF seen f with
    | true => rw [hb, if_pos rfl] at h; cases h
    | false =>
      rw [hb, if_neg (by decide)] at h
      obtain ⟨h1, h2⟩ := chkL_ok r (seen ++ [f]) h
      unfold badF at hb
      simp only [Bool.or_eq_false_iff, Bool.not_eq_false'] at hb
      obtain ⟨b1, b2, b3, b4⟩ := hb
      have hs : 1 ≤ f.2 ∧ f.2 ≤ 32 := by unfold sizB at b1; simpa using b1
      have hw : sumB (seen ++ [f]) ≤ 256 := by
        have := of_decide_eq_false b4
        omega
      refine ⟨fun g hg => ?_, fun _ => ?_⟩
      · rcases List.mem_cons.1 hg with e | e
        · rw [e]; exact hs
        · exact h1 g e
      · cases r with
        | nil => exact hw
        | cons g r =>
          have := h2 (by simp)
          rw [List.append_assoc] at this
          exact this
theorem chk_ok {L : List IFld} (h : (chkM L).1 = 0) : 0 < L.length ∧ L.length ≤ 12 ∧ (∀ f ∈ L, 1 ≤ f.2 ∧ f.2 ≤ 32) ∧ sumB L ≤ 256 := by
  unfold chkM at h
  by_cases h1 : 12 < L.length
  · rw [if_pos h1] at h; cases h
  · rw [if_neg h1] at h
    by_cases h2 : L.length = 0
    · rw [if_pos h2] at h; cases h
    · rw [if_neg h2] at h
      obtain ⟨a, b⟩ := chkL_ok L [] h
      exact ⟨by omega, by omega, a, b (fun e => h2 (by rw [e]; rfl))⟩
theorem sumB_take_le {L : List IFld} (h : ∀ f ∈ L, 0 ≤ f.2 ∧ f.2 ≤ 32) (j : Nat) : sumB (L.take j) ≤ sumB L := by
  have e : sumB L = sumB (L.take j) + sumB (L.drop j) := by rw [← sumB_app, List.take_append_drop]
  have := (sumB_bound (L.drop j) (fun f hf => h f (List.mem_of_mem_drop hf))).1
  omega
theorem put_next {acc D : List UInt8} {n : Nat} (h : acc.length + D.length ≤ n) : putL (acc ++ List.replicate (n - acc.length) 120) acc.length D = (acc ++ D) ++ List.replicate (n - (acc ++ D).length) 120 := by
  have e : List.replicate (n - acc.length) (120 : UInt8) = List.replicate D.length 120 ++ List.replicate (n - (acc ++ D).length) 120 := by
    rw [List.replicate_append_replicate]
    congr 1
    rw [List.length_append]
    omega
  rw [e, putL_mid D acc _ _ (by simp), List.append_assoc]
end Go.Proofs.YtnobpeghofoniaaGreatDoor
