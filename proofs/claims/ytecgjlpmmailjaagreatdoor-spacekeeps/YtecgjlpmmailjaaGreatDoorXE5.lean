import Derived.Test.YtecgjlpmmailjaaGreatDoorXE4
import Derived.Test.YtecgjlpmmailjaaGreatDoorXAY
import Derived.Test.YtecgjlpmmailjaaGreatDoorXAW
import Derived.Test.YtecgjlpmmailjaaGreatDoorXAZ
namespace Go.Proofs.YtecgjlpmmailjaaGreatDoor
open Go.RowKit Go.Shelf
theorem exE_okK {lim : Nat} : ∀ (Ts : List (List UInt8 × List (List UInt8))) (out R : List (List UInt8)), gdS Ts → (∀ x ∈ out, good x = true) → out.length ≤ lim → exE splT lim out Ts = some R → (∀ x ∈ R, good x = true) ∧ R.length ≤ lim
  | [], out, R, _, g, h, e => by
    injection e with e
    subst e
    exact ⟨g, h⟩
  | t :: r, out, R, gt, g, h, e => by
    have ht := gt t (List.mem_cons_self ..)
    unfold exE at e
    split at e
    · rename_i ho
      refine exE_okK r _ R (fun x hx => gt x (List.mem_cons_of_mem _ hx)) (fun x hx => ?_) ?_ e
      · rcases List.mem_append.1 hx with hx | hx
        · exact g x hx
        · exact (gdW_exT t.2 [t.1] (fun y hy => by rw [List.mem_singleton] at hy; subst hy; exact ⟨ht.1, rfl⟩) ht.2 x hx).1
      · rw [List.length_append]
        exact exO_len splT ho
    · cases e
theorem xpL_okK {b : Int} {Ts : List (List UInt8 × List (List UInt8))} (h : gdS Ts) : (xpL b 2048 Ts).length ≤ 2048 ∧ (∀ x ∈ xpL b 2048 Ts, good x = true) ∧ (xpL b 2048 Ts ≠ [] → xpE b 2048 Ts = 0) := by
  unfold xpL xpE
  by_cases hb : b = 0
  · rw [if_pos hb, if_pos hb]
    exact ⟨Nat.zero_le _, (fun x hx => by cases hx), fun h => absurd rfl h⟩
  · rw [if_neg hb, if_neg hb, if_neg (by omega), if_neg (by omega)]
    have e : (2048 : Int).toNat = 2048 := rfl
    rw [e]
    cases hx : exE splT 2048 [] Ts with
    | none => exact ⟨Nat.zero_le _, (fun x hx => by cases hx), fun h => absurd rfl h⟩
    | some R =>
      obtain ⟨h3, h4⟩ := exE_okK Ts [] R h (fun x hx => by cases hx) (Nat.zero_le _) hx
      exact ⟨h4, h3, fun _ => by rw [if_neg (fun e => by cases e)]⟩
theorem SPL.keptK {W X : World} {B A : Nat} {V v : Value} {Ts : List (List UInt8 × List (List UInt8))} {T : TypeId} {s n : Nat} {xs : List Value} (h : SPL W B V Ts) (ho : W.ownsRow A T s v n xs) (hT : T = 28 ∨ T = 9) (hg : W.grownBy X v.ownBlock) : SPL X B V Ts := by
  obtain ⟨Z, h1, h2, h3⟩ := h
  exact ⟨Z, h1, h2.kept hg (own_neK h2 ho (by rcases hT with rfl | rfl <;> decide)), fun z hz => (h3 z hz).kept hg (own_neK (h3 z hz) ho (by rcases hT with rfl | rfl <;> decide))⟩
theorem keeps_walk (b : Int) (q : Option Addr) (len cap : Nat) (SL : List ByteArray) (qa : Option Addr) (na ca : Nat) (w : World) (hlen : SL.length = len) (hcell : ∀ i, i < len → ∃ ad, q = some ad ∧ w.cell? (ad.add i) = some (.string (SL.getD i ByteArray.empty))) (hsz : ∀ s ∈ SL, s.size ≤ maxLen)
    (hint : ∀ i, i < na → ∃ ad z, qa = some ad ∧ w.cell? (ad.add i) = some (.int .i64 z) ∧ -9223372036854775808 ≤ z ∧ z ≤ 9223372036854775807) :
    Calls Tryz.prog 3 #[.int .i64 b, .slice q len cap, .slice qa na ca] w fun e w' => e = .returned (.bool true) ∧ Below w.heap.size w w' := by
  refine keeps_core b (fun x => xpL b 2048 (prT b x)) (fun x => xpE b 2048 (prT b x)) (fun W X => SPL W 0 (.slice X.p X.n X.c) (prT b X.x)) q qa len cap na ca (SL.map (fun s => s.data.toList)) w (fun W W' X h hb => h.below hb) (fun W W' X B T s v n xs h ho hT hg => h.keptK ho hT hg) awake_any (fun W x hx => ?_) (fun W X h => ?_) (fun x => xpL_okK (gdS_pr b x)) ⟨by rw [List.length_map]; exact hlen, fun W hW i x hx => ?_⟩ (fun W hW i hi => ?_)
  · obtain ⟨s, hs, rfl⟩ := List.mem_map.1 hx
    have hl : s.data.toList.length ≤ maxLen := by rw [Array.length_toList]; exact hsz s hs
    refine (sParse_any b s.data.toList W hl).mono ?_
    rintro e w' ⟨V, rfl, sv, hb⟩
    obtain ⟨p, c, rfl⟩ := sv.shape
    refine ⟨_, p, _, c, _, rfl, fun h0 => ⟨?_, sv.base (Nat.zero_le _)⟩, hb⟩
    unfold prB
    rw [if_pos h0]
  · refine (sExpand_any b 2048 (prT b X.x) 0 _ W h (prT_ok b X.x).2 (gdS_pr b X.x)).mono ?_
    rintro e w' ⟨v, rfl, ho, hb⟩
    obtain ⟨pv, cv, rfl⟩ := shapeQ1 ho
    exact ⟨pv, cv, rfl, ho, hb⟩
  · rw [List.getElem?_map] at hx
    obtain ⟨hi, he⟩ : ∃ hi : i < SL.length, SL[i].data.toList = x := by
      by_cases hi : i < SL.length
      · rw [List.getElem?_eq_getElem hi] at hx
        exact ⟨hi, Option.some.inj hx⟩
      · rw [List.getElem?_eq_none (by omega)] at hx
        cases hx
    obtain ⟨ad, e1, e2⟩ := hcell i (by omega)
    rw [List.getD_eq_getElem?_getD, List.getElem?_eq_getElem hi, Option.getD_some] at e2
    refine ⟨ad, e1, ?_⟩
    rw [← he]
    exact (hW.cell (World.block_lt_of_cell? w _ e2)).trans e2
  · obtain ⟨ad, z, e1, e2, e3⟩ := hint i hi
    exact ⟨ad, z, e1, (hW.cell (World.block_lt_of_cell? w _ e2)).trans e2, e3⟩
end Go.Proofs.YtecgjlpmmailjaaGreatDoor
