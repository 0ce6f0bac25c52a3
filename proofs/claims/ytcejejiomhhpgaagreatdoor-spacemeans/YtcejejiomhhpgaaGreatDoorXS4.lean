import Derived.Test.YtcejejiomhhpgaaGreatDoorXS3
import Derived.Test.YtcejejiomhhpgaaGreatDoorXBY
import Derived.Test.YtcejejiomhhpgaaGreatDoorXBM
import Derived.Test.YtcejejiomhhpgaaGreatDoorXBR
import Derived.Test.YtcejejiomhhpgaaGreatDoorXBW
namespace Go.Proofs.YtcejejiomhhpgaaGreatDoor
open Go.RowKit Go.Shelf
theorem pr_fa (b : Int) (l : List UInt8) : FO (prT b l) := by
  have hA : FA (prT b l) := fun t ht => by
    obtain ⟨h0, h1, h2, -, -⟩ := prT_ft b l t ht
    refine ⟨h0, fun e => ?_⟩
    rw [e] at h1
    simp at h1
    omega
  refine ⟨hA, ?_⟩
  have h := prT_fix b l
  rw [stl_id _ (fun t ht => (hA t ht).1)] at h
  exact h
theorem pr_wf (b : Int) (l : List UInt8) : WFS (prB b l) (prT b l) := by
  refine ⟨prT_fix b l, fun t ht => ?_⟩
  obtain ⟨-, h1, h2, h3, h4⟩ := prT_ft b l t ht
  have e : prB b l = b := by unfold prB; rw [if_pos h4]
  rw [e]
  exact ⟨h1, h2, h3, ((prT_ok b l).1 t ht).1⟩
theorem pr_sd2 (b : Int) (l : List UInt8) : ∀ t ∈ prT b l, Sd t := fun t ht => by
  have h := (pr_fa b l).1 t ht
  exact ⟨by rw [sof_self h.1]; exact h.1, h.2⟩
theorem pr_ord2 (b : Int) (l : List UInt8) : ordT (prT b l) = prT b l := by
  have h := prT_fix b l
  rw [← h, ordT_id]
theorem tkA_ok2 : ∀ (C A R : List (List UInt8 × List (List UInt8))), gdC A → gdC C → szC A ≤ 128 → tkA A C = some R → gdC R ∧ szC R ≤ 128
  | [], A, R, h1, _, h3, h => by
    obtain rfl : A = R := Option.some.inj h
    exact ⟨h1, h3⟩
  | u :: r, A, R, h1, h2, h3, h => by
    unfold tkA at h
    split at h
    · have hu := h2 u List.mem_cons_self
      have hk := tk_ok (c := u.1) (L := u.2) h1 hu.1 hu.2
      exact tkA_ok2 r _ R hk.1 (fun t ht => h2 t (List.mem_cons_of_mem _ ht)) hk.2 h
    · cases h
/-- what the three answers are, for spaces of one width -/
theorem ans3 {b : Int} {A C : List (List UInt8 × List (List UInt8))} (hb : 1 ≤ b) (hA : FO A) (hC : FO C) (sA : szC A ≤ 128) :
    ((jnE b b A C = 0 ∨ jnE b b A C = 3) ∧ (mnE b b A C = 0 ∨ mnE b b A C = 3) ∧ (mzE b b A C = 0 ∨ mzE b b A C = 3)) ∧
    ((gdC (jnT b b A C) ∧ szC (jnT b b A C) ≤ 128) ∧ (gdC (mnT b b A C) ∧ szC (mnT b b A C) ≤ 128) ∧ (gdC (mzT b b A C) ∧ szC (mzT b b A C) ≤ 128)) ∧
    ∀ h, (jnE b b A C = 0 → Dn h (jnT b b A C) = (Dn h A || Dn h C)) ∧ (mnE b b A C = 0 → Dn h (mnT b b A C) = (Dn h A && Dn h C)) ∧ (mzE b b A C = 0 → Dn h (mzT b b A C) = (Dn h A && !Dn h C)) := by
  have hf : ¬ (!(b == 0) && (b == b)) = false := by
    have : (b == 0) = false := by rw [beq_eq_false_iff_ne]; omega
    rw [this]
    simp
  have gA := FA_gdC hA.1
  have gC := FA_gdC hC.1
  refine ⟨⟨?_, ?_, ?_⟩, ⟨?_, ?_, ?_⟩, fun h => ⟨fun e => ?_, fun e => ?_, fun e => ?_⟩⟩
  · unfold jnE
    rw [if_neg hf]
    split
    · exact .inl rfl
    · exact .inr rfl
  · unfold mnE
    rw [if_neg hf]
    split
    · exact .inr rfl
    · split
      · exact .inl rfl
      · exact .inr rfl
  · unfold mzE
    rw [if_neg hf]
    split
    · exact .inl rfl
    · exact .inr rfl
  · unfold jnT
    split
    · rename_i h0
      have h2 : szC (topC (A ++ C)) ≤ 128 := by
        unfold jnE at h0
        rw [if_neg hf] at h0
        split at h0
        · assumption
        · cases h0
      exact ⟨FA_gdC (FA_form (FA_app hA.1 hC.1)), by rw [szC_ord]; exact h2⟩
    · exact ⟨(fun t h => by cases h), Nat.zero_le _⟩
  · unfold mnT
    split
    · rename_i h0
      have h2 : szC (topC (stl (cmN A C))) ≤ 128 := by
        unfold mnE at h0
        rw [if_neg hf] at h0
        split at h0
        · cases h0
        · split at h0
          · assumption
          · cases h0
      exact ⟨gdC_ord (gdC_top (gdC_stl (gdC_cm gA gC))), by rw [szC_ord]; exact h2⟩
    · exact ⟨(fun t h => by cases h), Nat.zero_le _⟩
  · unfold mzT
    split
    · cases ht : tkA A C with
      | none => exact ⟨(fun t h => by cases h), Nat.zero_le _⟩
      | some R => exact tkA_ok2 C A R gA gC sA ht
    · exact ⟨(fun t h => by cases h), Nat.zero_le _⟩
  · unfold jnT
    rw [if_pos e, Dn_ord, Dn_top (fun x hx => ⟨((FA_app hA.1 hC.1) x hx).1.gd, ((FA_app hA.1 hC.1) x hx).2⟩), Dn_app]
  · unfold mnT
    rw [if_pos e, Dn_form (gdC_cm gA gC) cm_ne, Dn_cm gA gC]
  · unfold mzT
    rw [if_pos e]
    unfold mzE at e
    rw [if_neg hf] at e
    cases ht : tkA A C with
    | none => rw [ht] at e; cases e
    | some R => exact Dn_tk h C A R gA gC (fun x hx => (hA.1 x hx).2) ht
set_option maxRecDepth 100000 in
set_option maxHeartbeats 16000000 in
theorem means_walk (b : Int) (l l' : List UInt8) (q : Option Addr) (len cap : Nat) (SL : List ByteArray) (w : World) (hl0 : l.length ≤ 281474976710656) (hl1 : l'.length ≤ 281474976710656) (hlen : SL.length = len) (hcell0 : ∀ i, i < len → ∃ ad, q = some ad ∧ w.cell? (ad.add i) = some (.string (SL.getD i ByteArray.empty))) (hsz0 : ∀ s ∈ SL, s.size ≤ maxLen) (hcap : len ≤ cap) : Calls Tryz.prog 4 #[.int .i64 b, .string ⟨l.toArray⟩, .string ⟨l'.toArray⟩, .slice q len cap] w fun e w' => e = .returned (.bool true) ∧ Below w.heap.size w w' := by
  have hla : l.length ≤ maxLen := by unfold maxLen; omega
  have hlb : l'.length ≤ maxLen := by unfold maxLen; omega
  have ok1 := prT_ok b l
  have ok2 := prT_ok b l'
  have fo1 := pr_fa b l
  have fo2 := pr_fa b l'
  have wf1 := pr_wf b l
  have wf2 := pr_wf b l'
  have sd1 := pr_sd2 b l
  have or1 := pr_ord2 b l
  have hpz := @prE_zero b l
  have hs1 : prE b l = 0 → ∀ h, sdB l h = Dn h (prT b l) := fun h0 h => sd_pr h h0
  have hs2 : prE b l' = 0 → ∀ h, sdB l' h = Dn h (prT b l') := fun h0 h => sd_pr h h0
  have hB1 : prB b l = if prE b l = 0 then b else 0 := rfl
  have hB2 : prB b l' = if prE b l' = 0 then b else 0 := rfl
  have hT1 : ¬ prE b l = 0 → prT b l = [] := fun h => by unfold prT; rw [if_neg h]
  have hT2 : ¬ prE b l' = 0 → prT b l' = [] := fun h => by unfold prT; rw [if_neg h]
  obtain ⟨B1, eB1⟩ : ∃ B, prB b l = B := ⟨_, rfl⟩
  obtain ⟨E1, eE1⟩ : ∃ B, prE b l = B := ⟨_, rfl⟩
  obtain ⟨X1, eX1⟩ : ∃ X, prT b l = X := ⟨_, rfl⟩
  obtain ⟨B2, eB2⟩ : ∃ B, prB b l' = B := ⟨_, rfl⟩
  obtain ⟨E2, eE2⟩ : ∃ B, prE b l' = B := ⟨_, rfl⟩
  obtain ⟨X2, eX2⟩ : ∃ X, prT b l' = X := ⟨_, rfl⟩
  have HP1 : Hid (∀ W, Calls Tryz.prog 7 #[.int .i64 b, .string ⟨l.toArray⟩] W fun e w' => ∃ V, e = .returned (.tuple #[.agg #[.int .i64 B1, V, .bool false], .int .i64 E1]) ∧ SPL w' W.heap.size V X1 ∧ Below W.heap.size W w') := fun W => by
    have h := sParse_any b l W hla
    unfold PRS at h
    rw [eB1, eE1, eX1] at h
    exact h
  have HP2 : Hid (∀ W, Calls Tryz.prog 7 #[.int .i64 b, .string ⟨l'.toArray⟩] W fun e w' => ∃ V, e = .returned (.tuple #[.agg #[.int .i64 B2, V, .bool false], .int .i64 E2]) ∧ SPL w' W.heap.size V X2 ∧ Below W.heap.size W w') := fun W => by
    have h := sParse_any b l' W hlb
    unfold PRS at h
    rw [eB2, eE2, eX2] at h
    exact h
  rw [eX1] at ok1 fo1 wf1 sd1 or1 hs1 hT1
  rw [eX2] at ok2 fo2 wf2 hs2 hT2
  rw [eE1] at hpz hs1 hB1 hT1
  rw [eE2] at hs2 hB2 hT2
  rw [eB1] at wf1 hB1
  rw [eB2] at wf2 hB2
  have HR : Hid (RST w q len) := rst_of hlen hcell0 hsz0
  have HBB : Hid (B1 = (if E1 = 0 then b else 0) ∧ B2 = (if E2 = 0 then b else 0)) := ⟨hB1, hB2⟩
  clear hlen hcell0 hsz0 eB1 eE1 eX1 eB2 eE2 eX2 SL hla hlb hB1 hB2
  obtain ⟨n1, hn1⟩ : ∃ n, X1.length = n := ⟨_, rfl⟩
  obtain ⟨n2, hn2⟩ : ∃ n, X2.length = n := ⟨_, rfl⟩
  go_enter Tryz.func4, Tryz.ntmps4
  go_wp2_with fail
  refine (awake_any _).mono ?_
  rintro e w1 ⟨rfl, hb1⟩
  go_wp2_with fail
  refine (HP1.out _).mono ?_
  rintro e w2 ⟨V, rfl, sv1, hb2⟩
  obtain ⟨p1, c1, rfl⟩ := sv1.shape
  rw [hn1] at sv1 ⊢
  have HW2 : Hid (SPL w2 0 (.slice p1 n1 c1) X1 ∧ Below w.heap.size w w2) := ⟨sv1.base (Nat.zero_le _), bel0 hb1 hb2⟩
  clear sv1 hb1 hb2 HP1
  go_wp2_with fail
  refine (HP2.out _).mono ?_
  rintro e w3 ⟨V, rfl, sv2, hb3⟩
  obtain ⟨p2, c2, rfl⟩ := sv2.shape
  rw [hn2] at sv2 ⊢
  have HF : Hid (∀ W, Below (w3.alloc (.cells #[.int .i64 B2, .slice p2 n2 c2, .bool false] 26 (0, 0))).heap.size (w3.alloc (.cells #[.int .i64 B2, .slice p2 n2 c2, .bool false] 26 (0, 0))) W → ((∀ j, W.cell? ⟨w2.heap.size, j, none⟩ = (#[.int .i64 B1, .slice p1 n1 c1, .bool false] : Array Value)[j]?) ∧ (∀ j, W.cell? ⟨w3.heap.size, j, none⟩ = (#[.int .i64 B2, .slice p2 n2 c2, .bool false] : Array Value)[j]?) ∧ SPL W 0 (.slice p1 n1 c1) X1 ∧ SPL W 0 (.slice p2 n2 c2) X2 ∧ RST W q len ∧ Below w.heap.size w W)) := fun W hW => by
    have h3 : Below w3.heap.size w3 W := bel0 (belA (Below.refl _ _) _) hW
    have h2 : Below (w2.alloc (.cells #[.int .i64 B1, .slice p1 n1 c1, .bool false] 26 (0, 0))).heap.size (w2.alloc (.cells #[.int .i64 B1, .slice p1 n1 c1, .bool false] 26 (0, 0))) W := bel0 hb3 h3
    have h1 : Below w2.heap.size w2 W := bel0 (belA (Below.refl _ _) _) h2
    exact ⟨(cells_block (keepblk3 h2 (alloc_get _ _))).1, (cells_block (keepblk3 hW (alloc_get _ _))).1, HW2.out.1.below h1, (sv2.below h3).base (Nat.zero_le _), HR.out.later (bel0 HW2.out.2 h1), bel0 HW2.out.2 h1⟩
  obtain ⟨f1, f2, -⟩ := HF.out (w3.alloc (.cells #[.int .i64 B2, .slice p2 n2 c2, .bool false] 26 (0, 0))) (Below.refl _ _)
  clear sv2 hb3 HP2 HW2 HR hn1 hn2
  by_cases hE : E1 = 0 ∧ E2 = 0
  · obtain ⟨rfl, rfl⟩ := hE
    obtain ⟨hB1, hB2⟩ := HBB.out
    clear HBB
    obtain rfl : B1 = b := hB1
    obtain rfl : B1 = B2 := hB2.symm
    clear hB2
    obtain ⟨h1b, h2b, -⟩ := hpz rfl
    obtain ⟨⟨a1, a2, a3⟩, ⟨g3, g4, g5⟩, hD⟩ := ans3 h1b fo1 fo2 ok1.2
    have HJ0 : Hid (∀ W, Below (w3.alloc (.cells #[.int .i64 B1, .slice p2 n2 c2, .bool false] 26 (0, 0))).heap.size (w3.alloc (.cells #[.int .i64 B1, .slice p2 n2 c2, .bool false] 26 (0, 0))) W → Calls Tryz.prog 15 #[.agg #[.int .i64 B1, .slice p1 n1 c1, .bool false], .agg #[.int .i64 B1, .slice p2 n2 c2, .bool false]] W fun e w' => ∃ V, e = .returned (.tuple #[.agg #[.int .i64 (jnB B1 B1 X1 X2), V, .bool false], .int .i64 (jnE B1 B1 X1 X2)]) ∧ SPL w' 0 V (jnT B1 B1 X1 X2) ∧ Below W.heap.size W w') := fun W hW => by
      have h := sJoin_any B1 B1 X1 X2 0 0 _ _ W (HF.out W hW).2.2.1 (HF.out W hW).2.2.2.1 ok1.2 ok2.2 ok1.1 ok2.1
      refine h.mono ?_
      rintro e w' ⟨V, e1, e2, e3⟩
      exact ⟨V, e1, e2.base (Nat.zero_le _), e3⟩
    have HM0 : Hid (∀ W, Below (w3.alloc (.cells #[.int .i64 B1, .slice p2 n2 c2, .bool false] 26 (0, 0))).heap.size (w3.alloc (.cells #[.int .i64 B1, .slice p2 n2 c2, .bool false] 26 (0, 0))) W → Calls Tryz.prog 16 #[.agg #[.int .i64 B1, .slice p1 n1 c1, .bool false], .agg #[.int .i64 B1, .slice p2 n2 c2, .bool false]] W fun e w' => ∃ V, e = .returned (.tuple #[.agg #[.int .i64 (mnB B1 B1 X1 X2), V, .bool false], .int .i64 (mnE B1 B1 X1 X2)]) ∧ SPL w' 0 V (mnT B1 B1 X1 X2) ∧ Below W.heap.size W w') := fun W hW => sMeet_any B1 B1 X1 X2 0 0 _ _ W (HF.out W hW).2.2.1 (HF.out W hW).2.2.2.1 ok1.2 ok2.2 ok1.1 ok2.1 wf1 wf2
    have HT0 : Hid (∀ W, Below (w3.alloc (.cells #[.int .i64 B1, .slice p2 n2 c2, .bool false] 26 (0, 0))).heap.size (w3.alloc (.cells #[.int .i64 B1, .slice p2 n2 c2, .bool false] 26 (0, 0))) W → Calls Tryz.prog 17 #[.agg #[.int .i64 B1, .slice p1 n1 c1, .bool false], .agg #[.int .i64 B1, .slice p2 n2 c2, .bool false]] W fun e w' => ∃ V, e = .returned (.tuple #[.agg #[.int .i64 (mzB B1 B1 X1 X2), V, .bool false], .int .i64 (mzE B1 B1 X1 X2)]) ∧ SPL w' 0 V (mzT B1 B1 X1 X2) ∧ Below W.heap.size W w') := fun W hW => sMinus_any B1 B1 X1 X2 0 0 _ _ W (HF.out W hW).2.2.1 (HF.out W hW).2.2.2.1 ok1.2 ok2.2 ok1.1 ok2.1 or1 sd1
    obtain ⟨B3, eB3⟩ : ∃ B, jnB B1 B1 X1 X2 = B := ⟨_, rfl⟩
    obtain ⟨E3, eE3⟩ : ∃ B, jnE B1 B1 X1 X2 = B := ⟨_, rfl⟩
    obtain ⟨X3, eX3⟩ : ∃ B, jnT B1 B1 X1 X2 = B := ⟨_, rfl⟩
    obtain ⟨B4, eB4⟩ : ∃ B, mnB B1 B1 X1 X2 = B := ⟨_, rfl⟩
    obtain ⟨E4, eE4⟩ : ∃ B, mnE B1 B1 X1 X2 = B := ⟨_, rfl⟩
    obtain ⟨X4, eX4⟩ : ∃ B, mnT B1 B1 X1 X2 = B := ⟨_, rfl⟩
    obtain ⟨B5, eB5⟩ : ∃ B, mzB B1 B1 X1 X2 = B := ⟨_, rfl⟩
    obtain ⟨E5, eE5⟩ : ∃ B, mzE B1 B1 X1 X2 = B := ⟨_, rfl⟩
    obtain ⟨X5, eX5⟩ : ∃ B, mzT B1 B1 X1 X2 = B := ⟨_, rfl⟩
    rw [eB3, eE3, eX3] at HJ0
    rw [eB4, eE4, eX4] at HM0
    rw [eB5, eE5, eX5] at HT0
    rw [eE3] at a1
    rw [eE4] at a2
    rw [eE5] at a3
    rw [eX3] at g3
    rw [eX4] at g4
    rw [eX5] at g5
    have HD : Hid (∀ h, (E3 = 0 → Dn h X3 = (Dn h X1 || Dn h X2)) ∧ (E4 = 0 → Dn h X4 = (Dn h X1 && Dn h X2)) ∧ (E5 = 0 → Dn h X5 = (Dn h X1 && !Dn h X2))) := fun h => by
      have h9 := hD h
      rw [eE3, eE4, eE5, eX3, eX4, eX5] at h9
      exact h9
    have HSD : Hid (∀ h, sdB l h = Dn h X1 ∧ sdB l' h = Dn h X2) := fun h => ⟨hs1 rfl h, hs2 rfl h⟩
    have HEE : Hid ((E3 = 0 ∨ E3 = 3) ∧ (E4 = 0 ∨ E4 = 3) ∧ (E5 = 0 ∨ E5 = 3)) := ⟨a1, a2, a3⟩
    have HGG : Hid ((gdC X3 ∧ szC X3 ≤ 128) ∧ (gdC X4 ∧ szC X4 ≤ 128) ∧ (gdC X5 ∧ szC X5 ≤ 128)) := ⟨g3, g4, g5⟩
    have HLL : Hid (l.length ≤ 281474976710656 ∧ l'.length ≤ 281474976710656) := ⟨hl0, hl1⟩
    clear ok1 ok2 fo1 fo2 wf1 wf2 sd1 or1 hpz hs1 hs2 hT1 hT2 h1b h2b a1 a2 a3 g3 g4 g5 hD eB3 eE3 eX3 eB4 eE4 eX4 eB5 eE5 eX5 hl0 hl1
    obtain ⟨n3, hn3⟩ : ∃ n, X3.length = n := ⟨_, rfl⟩
    obtain ⟨n4, hn4⟩ : ∃ n, X4.length = n := ⟨_, rfl⟩
    obtain ⟨n5, hn5⟩ : ∃ n, X5.length = n := ⟨_, rfl⟩
    go_wp2_with fail
    refine (HJ0.out _ (Below.refl _ _)).mono ?_
    rintro e w5 ⟨V, rfl, sv3, hb5⟩
    obtain ⟨p3, c3, rfl⟩ := sv3.shape
    rw [hn3] at sv3 ⊢
    skip
    have HW5 : Hid (SPL w5 0 (.slice p3 n3 c3) X3 ∧ Below (w3.alloc (.cells #[.int .i64 B1, .slice p2 n2 c2, .bool false] 26 (0, 0))).heap.size (w3.alloc (.cells #[.int .i64 B1, .slice p2 n2 c2, .bool false] 26 (0, 0))) w5) := ⟨sv3, hb5⟩
    have hb5' : Below (w3.alloc (.cells #[.int .i64 B1, .slice p2 n2 c2, .bool false] 26 (0, 0))).heap.size (w3.alloc (.cells #[.int .i64 B1, .slice p2 n2 c2, .bool false] 26 (0, 0))) (w5.alloc (.cells #[.int .i64 B3, .slice p3 n3 c3, .bool false] 26 (0, 0))) := belA hb5 _
    obtain ⟨f3, f4, -⟩ := HF.out _ hb5'
    clear sv3 hb5 f1 f2 HJ0
    go_wp2_with fail
    refine (HM0.out _ hb5').mono ?_
    rintro e w6 ⟨V, rfl, sv4, hb6⟩
    obtain ⟨p4, c4, rfl⟩ := sv4.shape
    rw [hn4] at sv4 ⊢
    have HW6 : Hid (SPL w6 0 (.slice p4 n4 c4) X4 ∧ Below (w5.alloc (.cells #[.int .i64 B3, .slice p3 n3 c3, .bool false] 26 (0, 0))).heap.size (w5.alloc (.cells #[.int .i64 B3, .slice p3 n3 c3, .bool false] 26 (0, 0))) w6) := ⟨sv4, hb6⟩
    have hb6' : Below (w3.alloc (.cells #[.int .i64 B1, .slice p2 n2 c2, .bool false] 26 (0, 0))).heap.size (w3.alloc (.cells #[.int .i64 B1, .slice p2 n2 c2, .bool false] 26 (0, 0))) (w6.alloc (.cells #[.int .i64 B4, .slice p4 n4 c4, .bool false] 26 (0, 0))) := belA (bel0 hb5' hb6) _
    obtain ⟨f5, f6, -⟩ := HF.out _ hb6'
    clear sv4 hb6 hb5' f3 f4 HM0
    go_wp2_with fail
    refine (HT0.out _ hb6').mono ?_
    rintro e w7 ⟨V, rfl, sv5, hb7⟩
    obtain ⟨p5, c5, rfl⟩ := sv5.shape
    rw [hn5] at sv5 ⊢
    have HG : Hid (∀ W, Below (w7.alloc (.cells #[.int .i64 B5, .slice p5 n5 c5, .bool false] 26 (0, 0))).heap.size (w7.alloc (.cells #[.int .i64 B5, .slice p5 n5 c5, .bool false] 26 (0, 0))) W → ((∀ j, W.cell? ⟨w5.heap.size, j, none⟩ = (#[.int .i64 B3, .slice p3 n3 c3, .bool false] : Array Value)[j]?) ∧ (∀ j, W.cell? ⟨w6.heap.size, j, none⟩ = (#[.int .i64 B4, .slice p4 n4 c4, .bool false] : Array Value)[j]?) ∧ (∀ j, W.cell? ⟨w7.heap.size, j, none⟩ = (#[.int .i64 B5, .slice p5 n5 c5, .bool false] : Array Value)[j]?) ∧ SPL W 0 (.slice p3 n3 c3) X3 ∧ SPL W 0 (.slice p4 n4 c4) X4 ∧ SPL W 0 (.slice p5 n5 c5) X5 ∧ Below w.heap.size w W)) := fun W hW => by
      have h7 : Below w7.heap.size w7 W := bel0 (belA (Below.refl _ _) _) hW
      have h6 : Below (w6.alloc (.cells #[.int .i64 B4, .slice p4 n4 c4, .bool false] 26 (0, 0))).heap.size (w6.alloc (.cells #[.int .i64 B4, .slice p4 n4 c4, .bool false] 26 (0, 0))) W := bel0 hb7 h7
      have h6' : Below w6.heap.size w6 W := bel0 (belA (Below.refl _ _) _) h6
      have h5 : Below (w5.alloc (.cells #[.int .i64 B3, .slice p3 n3 c3, .bool false] 26 (0, 0))).heap.size (w5.alloc (.cells #[.int .i64 B3, .slice p3 n3 c3, .bool false] 26 (0, 0))) W := bel0 HW6.out.2 h6'
      have h5' : Below w5.heap.size w5 W := bel0 (belA (Below.refl _ _) _) h5
      exact ⟨(cells_block (keepblk3 h5 (alloc_get _ _))).1, (cells_block (keepblk3 h6 (alloc_get _ _))).1, (cells_block (keepblk3 hW (alloc_get _ _))).1, HW5.out.1.below h5', HW6.out.1.below h6', sv5.below h7, (HF.out W (bel0 HW5.out.2 h5')).2.2.2.2.2⟩
    have HRw : Hid (RST (w7.alloc (.cells #[.int .i64 B5, .slice p5 n5 c5, .bool false] 26 (0, 0))) q len) := by
      have h9 : Below (w3.alloc (.cells #[.int .i64 B1, .slice p2 n2 c2, .bool false] 26 (0, 0))).heap.size (w3.alloc (.cells #[.int .i64 B1, .slice p2 n2 c2, .bool false] 26 (0, 0))) (w7.alloc (.cells #[.int .i64 B5, .slice p5 n5 c5, .bool false] 26 (0, 0))) := belA (bel0 hb6' hb7) _
      exact (HF.out (w7.alloc (.cells #[.int .i64 B5, .slice p5 n5 c5, .bool false] 26 (0, 0))) h9).2.2.2.2.1
    have h5l := szC_len X3
    have h5m := szC_len X4
    have h5n := szC_len X5
    have mk : ∀ (k : Int) (V : Value) (X : List (List UInt8 × List (List UInt8))) (W : World) (x : List UInt8) (z : Bool), SPL W 0 V X → gdC X → szC X ≤ 128 → x.length ≤ maxLen → hsB X x = z → Calls Tryz.prog 12 #[.agg #[.int .i64 k, V, .bool false], .string ⟨x.toArray⟩] W fun e w' => e = .returned (.bool z) ∧ Below W.heap.size W w' := fun k V X W x z hS hg hs hx hz => by
      have hlX := szC_len X
      have h := sHas_any k V X 0 ⟨x.toArray⟩ W hS hg (by omega) (fun t ht => by have := szC_mem t ht; omega) (by simpa [ByteArray.size] using hx)
      have e : (⟨x.toArray⟩ : ByteArray).data.toList = x := rfl
      rw [e, hz] at h
      exact h
    have HH3 : Hid (∀ (W : World) (x : List UInt8) (z : Bool), Below (w7.alloc (.cells #[.int .i64 B5, .slice p5 n5 c5, .bool false] 26 (0, 0))).heap.size (w7.alloc (.cells #[.int .i64 B5, .slice p5 n5 c5, .bool false] 26 (0, 0))) W → x.length ≤ maxLen → hsB X3 x = z → Calls Tryz.prog 12 #[.agg #[.int .i64 B3, .slice p3 n3 c3, .bool false], .string ⟨x.toArray⟩] W fun e w' => e = .returned (.bool z) ∧ Below W.heap.size W w') := fun W x z hW hx hz => mk B3 _ X3 W x z (HG.out W hW).2.2.2.1 HGG.out.1.1 HGG.out.1.2 hx hz
    have HH4 : Hid (∀ (W : World) (x : List UInt8) (z : Bool), Below (w7.alloc (.cells #[.int .i64 B5, .slice p5 n5 c5, .bool false] 26 (0, 0))).heap.size (w7.alloc (.cells #[.int .i64 B5, .slice p5 n5 c5, .bool false] 26 (0, 0))) W → x.length ≤ maxLen → hsB X4 x = z → Calls Tryz.prog 12 #[.agg #[.int .i64 B4, .slice p4 n4 c4, .bool false], .string ⟨x.toArray⟩] W fun e w' => e = .returned (.bool z) ∧ Below W.heap.size W w') := fun W x z hW hx hz => mk B4 _ X4 W x z (HG.out W hW).2.2.2.2.1 HGG.out.2.1.1 HGG.out.2.1.2 hx hz
    have HH5 : Hid (∀ (W : World) (x : List UInt8) (z : Bool), Below (w7.alloc (.cells #[.int .i64 B5, .slice p5 n5 c5, .bool false] 26 (0, 0))).heap.size (w7.alloc (.cells #[.int .i64 B5, .slice p5 n5 c5, .bool false] 26 (0, 0))) W → x.length ≤ maxLen → hsB X5 x = z → Calls Tryz.prog 12 #[.agg #[.int .i64 B5, .slice p5 n5 c5, .bool false], .string ⟨x.toArray⟩] W fun e w' => e = .returned (.bool z) ∧ Below W.heap.size W w') := fun W x z hW hx hz => mk B5 _ X5 W x z (HG.out W hW).2.2.2.2.2.1 HGG.out.2.2.1 HGG.out.2.2.2 hx hz
    clear sv5 hb7 hb6' HW5 HW6 HT0 f5 f6 h5l h5m h5n mk HGG hn3 hn4 hn5
    go_wp2_with fail
    refine (headers_any B1 q len cap _ hcap HRw.out).mono ?_
    rintro e w8 ⟨q4, m4, cc4, rfl, hm4, hr4, hb8⟩
    have HB8 : Hid (Below (w7.alloc (.cells #[.int .i64 B5, .slice p5 n5 c5, .bool false] 26 (0, 0))).heap.size (w7.alloc (.cells #[.int .i64 B5, .slice p5 n5 c5, .bool false] 26 (0, 0))) w8) := hb8
    have HR4 : Hid (RST w8 q4 m4) := hr4
    clear hr4 hb8 hcap HRw HF
    go_wp2_with fail
    go_loopw [20] (fun v20 wr => ∃ i : Nat, v20 = .int .i64 (i : Int) ∧ i ≤ m4 ∧ Hid (Below w8.heap.size w8 wr)) (fun v20 _ => m4 - (intOf v20).toNat)
    case atStart => exact ⟨0, rfl, Nat.zero_le _, Below.refl _ _⟩
    case round =>
      obtain ⟨i, rfl, hi, hBr⟩ := hrel
      by_cases hlt : i < m4
      · have j1 : (i : Int) < (m4 : Int) := by omega
        have j0 : (0 : Int) ≤ (i : Int) := by omega
        obtain ⟨ad, x, rfl, hcx, hxl⟩ := HR4.out wr hBr.out i hlt
        have HIH := isHeader_any B1 ⟨x.toArray⟩ wr (by simpa [ByteArray.size] using hxl)
        have ex : (⟨x.toArray⟩ : ByteArray).data.toList = x := rfl
        rw [ex] at HIH
        obtain ⟨z, hz⟩ : ∃ z, ihB B1 x = z := ⟨_, rfl⟩
        rw [hz] at HIH
        have HI : Hid (Calls Tryz.prog 11 #[.int .i64 B1, .string ⟨x.toArray⟩] wr fun e w' => e = .returned (.bool z) ∧ Below wr.heap.size wr w') := HIH
        have HXL : Hid (x.length ≤ maxLen ∧ ihB B1 x = z) := ⟨hxl, hz⟩
        have HBW : Hid (Below (w7.alloc (.cells #[.int .i64 B5, .slice p5 n5 c5, .bool false] 26 (0, 0))).heap.size (w7.alloc (.cells #[.int .i64 B5, .slice p5 n5 c5, .bool false] 26 (0, 0))) wr) := bel0 HB8.out hBr.out
        clear HIH hz ex hxl
        go_wp2_with fail
        refine HI.out.mono ?_
        rintro e y1 ⟨rfl, hc1'⟩
        clear hcx HI
        cases z with
        | false =>
          have HX : Hid (Below w8.heap.size w8 y1) := bel0 hBr.out hc1'
          clear hc1'
          go_wp2_with fail
          go_roundw
          case rel => exact ⟨i + 1, by go_num, by omega, HX⟩
          case measure => simp [intOf]; omega
        | true =>
          have hdg : x.all digB = true := by
            have h := HXL.out.2
            unfold ihB at h
            exact (Bool.and_eq_true_iff.1 h).2
          obtain ⟨dp, hdp⟩ : ∃ y, Dn x X1 = y := ⟨_, rfl⟩
          obtain ⟨dq, hdq⟩ : ∃ y, Dn x X2 = y := ⟨_, rfl⟩
          have HS1 : Hid (∀ W, Calls Tryz.prog 13 #[.string ⟨l.toArray⟩, .string ⟨x.toArray⟩] W fun e w' => e = .returned (.bool dp) ∧ Below W.heap.size W w') := fun W => by
            have h := said_any l x W HLL.out.1 HXL.out.1
            rw [(HSD.out x).1, hdp] at h
            exact h
          have HS2 : Hid (∀ W, Calls Tryz.prog 13 #[.string ⟨l'.toArray⟩, .string ⟨x.toArray⟩] W fun e w' => e = .returned (.bool dq) ∧ Below W.heap.size W w') := fun W => by
            have h := said_any l' x W HLL.out.2 HXL.out.1
            rw [(HSD.out x).2, hdq] at h
            exact h
          have HQ : Hid ((E3 = 0 → hsB X3 x = (dp || dq)) ∧ (E4 = 0 → hsB X4 x = (dp && dq)) ∧ (E5 = 0 → hsB X5 x = (dp && !dq))) := by
            have h := HD.out x
            rw [hdp, hdq] at h
            exact ⟨fun e => by rw [hs_dn hdg]; exact h.1 e, fun e => by rw [hs_dn hdg]; exact h.2.1 e, fun e => by rw [hs_dn hdg]; exact h.2.2 e⟩
          clear hdg hdp hdq
          go_wp2_with fail
          refine (HS1.out _).mono ?_
          rintro e y2 ⟨rfl, hc2'⟩
          go_wp2_with fail
          refine (HS2.out _).mono ?_
          rintro e y3 ⟨rfl, hc3'⟩
          have HB3 : Hid (Below wr.heap.size wr y3) := bel0 hc1' (bel0 hc2' hc3')
          have HK : Hid (∀ W, Below y3.heap.size y3 W → (∀ j, W.cell? ⟨w5.heap.size, j, none⟩ = (#[.int .i64 B3, .slice p3 n3 c3, .bool false] : Array Value)[j]?) ∧ (∀ j, W.cell? ⟨w6.heap.size, j, none⟩ = (#[.int .i64 B4, .slice p4 n4 c4, .bool false] : Array Value)[j]?) ∧ (∀ j, W.cell? ⟨w7.heap.size, j, none⟩ = (#[.int .i64 B5, .slice p5 n5 c5, .bool false] : Array Value)[j]?) ∧ Below (w7.alloc (.cells #[.int .i64 B5, .slice p5 n5 c5, .bool false] 26 (0, 0))).heap.size (w7.alloc (.cells #[.int .i64 B5, .slice p5 n5 c5, .bool false] 26 (0, 0))) W) := fun W hW => by
            have h := bel0 HBW.out (bel0 HB3.out hW)
            obtain ⟨k1, k2, k3, -⟩ := HG.out W h
            exact ⟨k1, k2, k3, h⟩
          clear hc1' hc2' hc3' HS1 HS2
          have fin : ∀ W, Below y3.heap.size y3 W → Below w8.heap.size w8 W := fun W hW => bel0 hBr.out (bel0 HB3.out hW)
          have HFIN : Hid (∀ W, Below y3.heap.size y3 W → Below w8.heap.size w8 W) := fin
          clear fin
          obtain ⟨k1, k2, k3, -⟩ := HK.out y3 (Below.refl _ _)
          obtain ⟨e3, e4, e5⟩ := HEE.out
          have xb0 := Below.refl y3.heap.size y3
          cases dp <;> cases dq
          all_goals
            rcases e3 with rfl | rfl
            · go_wp2_with fail
              refine (HH3.out _ x _ (HK.out _ (xb0)).2.2.2 HXL.out.1 (HQ.out.1 (by trivial))).mono ?_
              rintro e y4 ⟨rfl, hd3⟩
              have xb3 := bel0 (xb0) hd3
              clear k1 k2 k3 hd3
              obtain ⟨k1, k2, k3, -⟩ := HK.out _ xb3
              rcases e4 with rfl | rfl
              · go_wp2_with fail
                refine (HH4.out _ x _ (HK.out _ (xb3)).2.2.2 HXL.out.1 (HQ.out.2.1 (by trivial))).mono ?_
                rintro e y5 ⟨rfl, hd4⟩
                have xb4 := bel0 (xb3) hd4
                clear k1 k2 k3 hd4
                obtain ⟨k1, k2, k3, -⟩ := HK.out _ xb4
                rcases e5 with rfl | rfl
                · go_wp2_with fail
                  refine (HH5.out _ x _ (HK.out _ (xb4)).2.2.2 HXL.out.1 (HQ.out.2.2 (by trivial))).mono ?_
                  rintro e y6 ⟨rfl, hd5⟩
                  have xb5 := bel0 (xb4) hd5
                  clear k1 k2 k3 hd5
                  obtain ⟨k1, k2, k3, -⟩ := HK.out _ xb5
                  have HX : Hid (Below w8.heap.size w8 _) := HFIN.out _ xb5
                  clear k1 k2 k3
                  go_wp2_with fail
                  go_roundw
                  case rel => exact ⟨i + 1, by go_num, by omega, HX⟩
                  case measure => simp [intOf]; omega
                · skip
                  have HX : Hid (Below w8.heap.size w8 _) := HFIN.out _ xb4
                  clear k1 k2 k3
                  go_wp2_with fail
                  go_roundw
                  case rel => exact ⟨i + 1, by go_num, by omega, HX⟩
                  case measure => simp [intOf]; omega
              · skip
                rcases e5 with rfl | rfl
                · go_wp2_with fail
                  refine (HH5.out _ x _ (HK.out _ (xb3)).2.2.2 HXL.out.1 (HQ.out.2.2 (by trivial))).mono ?_
                  rintro e y6 ⟨rfl, hd5⟩
                  have xb5 := bel0 (xb3) hd5
                  clear k1 k2 k3 hd5
                  obtain ⟨k1, k2, k3, -⟩ := HK.out _ xb5
                  have HX : Hid (Below w8.heap.size w8 _) := HFIN.out _ xb5
                  clear k1 k2 k3
                  go_wp2_with fail
                  go_roundw
                  case rel => exact ⟨i + 1, by go_num, by omega, HX⟩
                  case measure => simp [intOf]; omega
                · skip
                  have HX : Hid (Below w8.heap.size w8 _) := HFIN.out _ xb3
                  clear k1 k2 k3
                  go_wp2_with fail
                  go_roundw
                  case rel => exact ⟨i + 1, by go_num, by omega, HX⟩
                  case measure => simp [intOf]; omega
            · skip
              rcases e4 with rfl | rfl
              · go_wp2_with fail
                refine (HH4.out _ x _ (HK.out _ (xb0)).2.2.2 HXL.out.1 (HQ.out.2.1 (by trivial))).mono ?_
                rintro e y5 ⟨rfl, hd4⟩
                have xb4 := bel0 (xb0) hd4
                clear k1 k2 k3 hd4
                obtain ⟨k1, k2, k3, -⟩ := HK.out _ xb4
                rcases e5 with rfl | rfl
                · go_wp2_with fail
                  refine (HH5.out _ x _ (HK.out _ (xb4)).2.2.2 HXL.out.1 (HQ.out.2.2 (by trivial))).mono ?_
                  rintro e y6 ⟨rfl, hd5⟩
                  have xb5 := bel0 (xb4) hd5
                  clear k1 k2 k3 hd5
                  obtain ⟨k1, k2, k3, -⟩ := HK.out _ xb5
                  have HX : Hid (Below w8.heap.size w8 _) := HFIN.out _ xb5
                  clear k1 k2 k3
                  go_wp2_with fail
                  go_roundw
                  case rel => exact ⟨i + 1, by go_num, by omega, HX⟩
                  case measure => simp [intOf]; omega
                · skip
                  have HX : Hid (Below w8.heap.size w8 _) := HFIN.out _ xb4
                  clear k1 k2 k3
                  go_wp2_with fail
                  go_roundw
                  case rel => exact ⟨i + 1, by go_num, by omega, HX⟩
                  case measure => simp [intOf]; omega
              · skip
                rcases e5 with rfl | rfl
                · go_wp2_with fail
                  refine (HH5.out _ x _ (HK.out _ (xb0)).2.2.2 HXL.out.1 (HQ.out.2.2 (by trivial))).mono ?_
                  rintro e y6 ⟨rfl, hd5⟩
                  have xb5 := bel0 (xb0) hd5
                  clear k1 k2 k3 hd5
                  obtain ⟨k1, k2, k3, -⟩ := HK.out _ xb5
                  have HX : Hid (Below w8.heap.size w8 _) := HFIN.out _ xb5
                  clear k1 k2 k3
                  go_wp2_with fail
                  go_roundw
                  case rel => exact ⟨i + 1, by go_num, by omega, HX⟩
                  case measure => simp [intOf]; omega
                · skip
                  have HX : Hid (Below w8.heap.size w8 _) := HFIN.out _ xb0
                  clear k1 k2 k3
                  go_wp2_with fail
                  go_roundw
                  case rel => exact ⟨i + 1, by go_num, by omega, HX⟩
                  case measure => simp [intOf]; omega
      · have j1 : ¬ (i : Int) < (m4 : Int) := by omega
        have HW : Hid (Below w.heap.size w wr) := (HG.out wr (bel0 HB8.out hBr.out)).2.2.2.2.2.2
        obtain ⟨e3, e4, e5⟩ := HEE.out
        clear hBr
        rcases e3 with rfl | rfl <;> rcases e4 with rfl | rfl <;> rcases e5 with rfl | rfl
        all_goals
          go_wp2_with fail
          go_ret
          exact ⟨rfl, HW.out⟩
  · have HZ1 : Hid (∀ W, Below (w3.alloc (.cells #[.int .i64 B2, .slice p2 n2 c2, .bool false] 26 (0, 0))).heap.size (w3.alloc (.cells #[.int .i64 B2, .slice p2 n2 c2, .bool false] 26 (0, 0))) W → Calls Tryz.prog 14 #[.agg #[.int .i64 B1, .slice p1 n1 c1, .bool false]] W fun e w' => e = .returned (.int .i64 (szC X1 : Int)) ∧ Below W.heap.size W w') := fun W hW => spSize_any B1 _ X1 0 W (HF.out W hW).2.2.1 ok1.2
    have HZ2 : Hid (∀ W, Below (w3.alloc (.cells #[.int .i64 B2, .slice p2 n2 c2, .bool false] 26 (0, 0))).heap.size (w3.alloc (.cells #[.int .i64 B2, .slice p2 n2 c2, .bool false] 26 (0, 0))) W → Calls Tryz.prog 14 #[.agg #[.int .i64 B2, .slice p2 n2 c2, .bool false]] W fun e w' => e = .returned (.int .i64 (szC X2 : Int)) ∧ Below W.heap.size W w') := fun W hW => spSize_any B2 _ X2 0 W (HF.out W hW).2.2.2.1 ok2.2
    by_cases h : E1 = 0
    · have h2 : ¬ E2 = 0 := fun e => hE ⟨h, e⟩
      subst h
      have e2 : (E2 != 0) = true := by simpa using h2
      have t2 := hT2 h2
      rw [t2] at HZ2
      have z2 : (szC [] : Nat) = 0 := rfl
      rw [z2] at HZ2
      obtain ⟨z, hz⟩ : ∃ z, ((szC X1 : Int) == 0) = z := ⟨_, rfl⟩
      obtain ⟨sz, hsz⟩ : ∃ s : Int, (szC X1 : Int) = s := ⟨_, rfl⟩
      rw [hsz] at HZ1 hz
      clear ok1 ok2 fo1 fo2 wf1 wf2 sd1 or1 hpz hs1 hs2 HBB hT1 hT2 hE h2 t2 z2 hsz
      go_wp2_with fail
      refine (HZ1.out _ (Below.refl _ _)).mono ?_
      rintro e w5 ⟨rfl, hb5⟩
      skip
      obtain ⟨f3, f4, -⟩ := HF.out w5 hb5
      clear f1 f2
      cases z
      · go_wp2_with fail
        refine (HZ2.out _ hb5).mono ?_
        rintro e w6 ⟨rfl, hb6⟩
        go_wp2_with fail
        go_ret
        exact ⟨rfl, (HF.out w6 (bel0 hb5 hb6)).2.2.2.2.2⟩
      · go_wp2_with fail
        go_ret
        exact ⟨rfl, (HF.out w5 hb5).2.2.2.2.2⟩
    · have e1 : (E1 != 0) = true := by simpa using h
      have t1 := hT1 h
      rw [t1] at HZ1
      have z2 : (szC [] : Nat) = 0 := rfl
      rw [z2] at HZ1
      clear ok1 ok2 fo1 fo2 wf1 wf2 sd1 or1 hpz hs1 hs2 HBB hT1 hT2 hE t1 z2 h HZ2
      go_wp2_with fail
      refine (HZ1.out _ (Below.refl _ _)).mono ?_
      rintro e w5 ⟨rfl, hb5⟩
      skip
      go_wp2_with fail
      go_ret
      exact ⟨rfl, (HF.out w5 hb5).2.2.2.2.2⟩
end Go.Proofs.YtcejejiomhhpgaaGreatDoor
