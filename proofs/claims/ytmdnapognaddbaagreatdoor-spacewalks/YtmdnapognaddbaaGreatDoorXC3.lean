import Derived.Test.YtmdnapognaddbaaGreatDoorXC2
import Derived.Test.YtmdnapognaddbaaGreatDoorXBK
import Derived.Test.YtmdnapognaddbaaGreatDoorXBB
namespace Go.Proofs.YtmdnapognaddbaaGreatDoor
open Go.RowKit Go.Shelf
theorem exE_lenK {lim : Nat} : ∀ (Ts : List (List UInt8 × List (List UInt8))) (out R : List (List UInt8)), out.length ≤ lim → exE splT lim out Ts = some R → R.length ≤ lim
  | [], out, R, h, e => by
    injection e with e
    subst e
    exact h
  | t :: r, out, R, h, e => by
    unfold exE at e
    split at e
    · rename_i ho
      refine exE_lenK r _ R ?_ e
      rw [List.length_append]
      exact exO_len splT ho
    · cases e
theorem xpL_lenK {b : Int} {Ts : List (List UInt8 × List (List UInt8))} : (xpL b 2048 Ts).length ≤ 2048 := by
  unfold xpL
  split
  · exact Nat.zero_le _
  · split
    · exact Nat.zero_le _
    · cases hx : exE splT (2048 : Int).toNat [] Ts with
      | none => exact Nat.zero_le _
      | some R => exact exE_lenK Ts [] R (Nat.zero_le _) hx
theorem xpL_okK {b : Int} {Ts : List (List UInt8 × List (List UInt8))} (hb : ¬ b = 0) (h : xpE b 2048 Ts = 0) : exE splT 2048 [] Ts = some (xpL b 2048 Ts) := by
  unfold xpE at h
  unfold xpL
  rw [if_neg hb, if_neg (by omega)] at h ⊢
  have e : (2048 : Int).toNat = 2048 := rfl
  rw [e] at h ⊢
  cases hx : exE splT 2048 [] Ts with
  | none => rw [hx] at h; simp at h
  | some R => rfl
theorem walks_walk (b : Int) (l : List UInt8) (up ag : Int) (w : World) (hl0 : l.length ≤ 281474976710656) : Calls Tryz.prog 3 #[.int .i64 b, .string ⟨l.toArray⟩, .int .i64 up, .int .i64 ag] w fun e w' => e = .returned (.bool true) ∧ Below w.heap.size w w' := by
  have hla : l.length ≤ maxLen := by unfold maxLen; omega
  have ok1 := prT_ok b l
  have gt1 := gdS_pr b l
  have hsz := szC_len (prT b l)
  refine walks_core inForm_any b (prB b l) up ag (xpE (prB b l) 2048 (prT b l)) l (prT b l) (xpL (prB b l) 2048 (prT b l)) _ (prT b l).length w (by omega) xpL_lenK rfl (fun t ht => ⟨(gt1 t ht).1, (gt1 t ht).2, Nat.le_trans (szC_mem t ht) ok1.2⟩) (fun h => ?_) (fun h => ?_) ?_
  · have hT : prT b l = [] := by
      by_cases h0 : prE b l = 0
      · obtain ⟨h1, -, -⟩ := prE_zero h0
        unfold prB at h
        rw [if_pos h0] at h
        omega
      · unfold prT
        rw [if_neg h0]
    have hx : xpL (prB b l) 2048 (prT b l) = [] := by unfold xpL; rw [if_pos h]
    rw [hx, hT]
    exact ⟨rfl, rfl⟩
  · have h0 : prE b l = 0 := by
      by_cases h0 : prE b l = 0
      · exact h0
      · unfold prB at h
        rw [if_neg h0] at h
        exact absurd rfl h
    obtain ⟨h1, -, -⟩ := prE_zero h0
    refine ⟨by unfold prB; rw [if_pos h0]; omega, fun h2 => xpL_okK h h2⟩
  · intro W
    refine (read_any b l W hla).mono ?_
    rintro e w' ⟨V, V2, rfl, sv, rv, hb⟩
    obtain ⟨p, c, rfl⟩ := sv.shape
    obtain ⟨q, d, rfl⟩ := rv.shape
    obtain ⟨Z, hZ, hrow, hzl⟩ := sv
    have hn : Z.length = (prT b l).length := by rw [← hZ, List.length_map]
    rw [hn] at hrow
    refine ⟨p, c, q, d, Z, rfl, hZ, hn, TRC_spl hrow hn hzl, hb, fun W' hW' => ?_⟩
    refine (dExpand_any (prB b l) 2048 _ (prT b l) W' (rv.later hW') gt1 ok1.2).mono ?_
    rintro e2 w2 ⟨v, E, L, rfl, ⟨rfl, rfl⟩, h1, h2⟩
    obtain ⟨pm, cm, rfl⟩ := shapeQ1 h1
    exact ⟨pm, cm, rfl, fun i x hx => (IRSt_own h1 rfl) w2 (Below.refl _ _) i x hx, h2⟩
end Go.Proofs.YtmdnapognaddbaaGreatDoor
