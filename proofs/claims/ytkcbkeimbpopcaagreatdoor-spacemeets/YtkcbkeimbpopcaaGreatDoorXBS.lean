import Derived.Test.YtkcbkeimbpopcaaGreatDoorXBK
import Derived.Test.YtkcbkeimbpopcaaGreatDoorXBR
import Derived.Test.YtkcbkeimbpopcaaGreatDoorXBQ
import Derived.Test.YtkcbkeimbpopcaaGreatDoorXBM
namespace Go.Proofs.YtkcbkeimbpopcaaGreatDoor
open Go.RowKit Go.Shelf
/-- every term of what is read has its form, and its width -/
theorem prT_ft (b : Int) (l : List UInt8) : ∀ t ∈ prT b l, FTm t ∧ (t.1.length : Int) = b ∧ 1 ≤ b ∧ b ≤ 256 ∧ prE b l = 0 := fun t ht => by
  unfold prT at ht
  split at ht
  · rename_i h0
    obtain ⟨h1, h2, h3⟩ := prE_zero h0
    split at ht
    · cases ht
    · rename_i hn
      rcases h3 with h3 | h3
      · exact absurd h3 hn
      · obtain ⟨hf, y, hy, he⟩ := FTm_form (gdC_tcon h3) t ht
        refine ⟨hf, ?_, h1, h2, h0⟩
        obtain ⟨p, hp, rfl⟩ := List.mem_map.1 hy
        have h4 := List.all_eq_true.1 h3 p hp
        have hne := prts_ne 45 p
        have : (tcon p).1.length = b.toNat := by
          unfold tcon
          unfold okT at h4
          cases hc : prts 45 p with
          | nil => rw [hc] at hne; exact absurd hne (by simp)
          | cons c r =>
            rw [hc] at h4
            have h5 := List.all_eq_true.1 h4 c List.mem_cons_self
            unfold okP at h5
            simpa using (Bool.and_eq_true_iff.1 h5).2
        rw [← he, this]
        omega
  · cases ht
theorem okH_at {t h : List UInt8} {k : Nat} (hk : k < t.length) (hk2 : k < h.length) : okH t h k = ((h[k] == 48 || h[k] == 49) && (t[k] == 120 || t[k] == h[k])) := by
  unfold okH
  rw [List.getElem?_eq_getElem hk, List.getElem?_eq_getElem hk2]
theorem has_wi {t h : List UInt8} (hl : t.length = h.length) (hd : h.all digB = true) : hasB t h = wiB h t := by
  have hd' := List.all_eq_true.1 hd
  unfold hasB wiB fitB
  have e1 : t.isEmpty = h.isEmpty := by
    cases t <;> cases h <;> first | rfl | (simp at hl)
  rw [e1, hl, Bool.eq_iff_iff]
  simp only [Bool.and_eq_true, allTo_iff]
  refine and_congr (by simp) (forall_congr' fun k => forall_congr' fun hk => ?_)
  rw [okH_at (by omega) hk, List.getElem?_eq_getElem hk, List.getElem?_eq_getElem (show k < t.length by omega)]
  have h1 := hd' _ (List.getElem_mem hk)
  unfold digB at h1
  rw [h1, Bool.true_and]
  simp only [Bool.or_eq_true, beq_iff_eq]
  exact ⟨fun h => h.imp id Eq.symm, fun h => h.imp id Eq.symm⟩
theorem has_hd {b : Int} {t h : List UInt8} (hb : (t.length : Int) = b) (h1 : 1 ≤ b) (hh : hdB b h = false) : hasB t h = false := by
  cases hc : hasB t h with
  | false => rfl
  | true =>
    unfold hasB at hc
    obtain ⟨h2, h3⟩ := Bool.and_eq_true_iff.1 hc
    have h4 : t.length = h.length := by simpa using (Bool.and_eq_true_iff.1 h2).2
    have h5 := (allTo_iff _ _).1 h3
    have : hdB b h = true := by
      unfold hdB
      rw [← h4, show ((t.length : Int) == b) = true by simpa using hb, show (b == 0) = false by simp; omega]
      simp only [Bool.not_false, Bool.and_true, Bool.true_and]
      refine List.all_eq_true.2 (fun x hx => ?_)
      obtain ⟨k, hk, rfl⟩ := List.getElem_of_mem hx
      have h6 := h5 k (by omega)
      rw [okH_at (by omega) hk] at h6
      exact (Bool.and_eq_true_iff.1 h6).1
    rw [this] at hh
    cases hh
theorem any_congrB {α : Type} {L : List α} {p q : α → Bool} (h : ∀ t ∈ L, p t = q t) : L.any p = L.any q := by
  induction L with
  | nil => rfl
  | cons x l ih => rw [List.any_cons, List.any_cons, h x List.mem_cons_self, ih (fun t ht => h t (List.mem_cons_of_mem _ ht))]
theorem all_congrB {α : Type} {L : List α} {p q : α → Bool} (h : ∀ t ∈ L, p t = q t) : L.all p = L.all q := by
  induction L with
  | nil => rfl
  | cons x l ih => rw [List.all_cons, List.all_cons, h x List.mem_cons_self, ih (fun t ht => h t (List.mem_cons_of_mem _ ht))]
/-- the program's Has is the document's -/
theorem hs_eq (b : Int) (l h : List UInt8) : hsB (prT b l) h = (hdB (prB b l) h && (prT b l).any (fun t => tdB t.1 t.2 h)) := by
  have hF := prT_ft b l
  unfold hsB
  by_cases hX : prT b l = []
  · rw [hX]; simp
  · obtain ⟨t0, ht0⟩ : ∃ t, t ∈ prT b l := by
      cases hx : prT b l with
      | nil => exact absurd hx hX
      | cons t r => exact ⟨t, List.mem_cons_self⟩
    have e0 : prB b l = b := by unfold prB; rw [if_pos (hF t0 ht0).2.2.2.2]
    rw [e0]
    cases hh : hdB b h with
    | false =>
      rw [Bool.false_and, List.any_eq_false]
      intro t ht
      obtain ⟨hf, hl, h1, h2, -⟩ := hF t ht
      unfold thB
      rw [has_hd hl h1 hh]
      simp
    | true =>
      rw [Bool.true_and]
      refine any_congrB (fun t ht => ?_)
      obtain ⟨hf, hl, h1, h2, -⟩ := hF t ht
      have hd : h.all digB = true := (Bool.and_eq_true_iff.1 hh).2
      have hln : (h.length : Int) = b := by simpa using (Bool.and_eq_true_iff.1 (Bool.and_eq_true_iff.1 hh).1).1
      unfold thB tdB
      rw [has_wi (by omega) hd]
      congr 1
      refine all_congrB (fun m hm => ?_)
      have h3 := hf.wi m hm
      unfold wiB at h3
      have h4 := fitB_len (Bool.and_eq_true_iff.1 h3).1
      rw [has_wi (by omega) hd]
end Go.Proofs.YtkcbkeimbpopcaaGreatDoor
namespace Go.Proofs.YtkcbkeimbpopcaaGreatDoor
open Go.RowKit Go.Shelf
theorem jn_ok (b b2 : Int) (A C : List (List UInt8 × List (List UInt8))) (hg1 : gdC A) (hg2 : gdC C) : gdC (jnT b b2 A C) ∧ szC (jnT b b2 A C) ≤ 128 := by
  unfold jnT
  split
  · rename_i h
    have h2 : szC (topC (A ++ C)) ≤ 128 := by
      unfold jnE at h
      split at h
      · exact absurd h (by decide)
      · split at h
        · assumption
        · exact absurd h (by decide)
    refine ⟨gdC_ord (gdC_top (fun t ht => ?_)), by rw [szC_ord]; exact h2⟩
    rcases List.mem_append.1 ht with ht | ht
    · exact hg1 t ht
    · exact hg2 t ht
  · exact ⟨(fun t h => by cases h), Nat.zero_le _⟩
theorem prB_ge (b : Int) (l : List UInt8) : 0 ≤ prB b l := by
  unfold prB
  split
  · rename_i h
    have := (prE_zero h).1
    omega
  · exact Int.le_refl _
set_option maxRecDepth 100000 in
set_option maxHeartbeats 4000000 in
theorem joins_walk (b : Int) (l : List UInt8) (b' : Int) (l' : List UInt8) (w : World) (hl0 : l.length ≤ 281474976710656) (hl1 : l'.length ≤ 281474976710656) : Calls Tryz.prog 5 #[.int .i64 b, .string ⟨l.toArray⟩, .int .i64 b', .string ⟨l'.toArray⟩] w fun e w' => e = .returned (.bool true) ∧ Below w.heap.size w w' := by
  have hla : l.length ≤ maxLen := by unfold maxLen; omega
  have hlb : l'.length ≤ maxLen := by unfold maxLen; omega
  have ok1 := prT_ok b l
  have ok2 := prT_ok b' l'
  have hge := prB_ge b l
  have hsrt : ∀ t ∈ prT b l ++ prT b' l', t.2.Pairwise (fun a b => leB a b = true) := fun t ht => by
    rcases List.mem_append.1 ht with ht | ht
    · exact (prT_ft b l t ht).1.so
    · exact (prT_ft b' l' t ht).1.so
  obtain ⟨B1, hB1⟩ : ∃ B, prB b l = B := ⟨_, rfl⟩
  obtain ⟨X1, hX1⟩ : ∃ X, prT b l = X := ⟨_, rfl⟩
  obtain ⟨B2, hB2⟩ : ∃ B, prB b' l' = B := ⟨_, rfl⟩
  obtain ⟨X2, hX2⟩ : ∃ X, prT b' l' = X := ⟨_, rfl⟩
  have HR1 : Hid (∀ W, Calls Tryz.prog 9 #[.int .i64 b, .string ⟨l.toArray⟩] W fun e w' => ∃ V V2, e = .returned (.tuple #[.agg #[.int .i64 B1, V, .bool false], .agg #[.int .i64 B1, V2], .bool true]) ∧ SPL w' W.heap.size V X1 ∧ RSR w' V2 X1 ∧ Below W.heap.size W w') := fun W => by
    rw [← hB1, ← hX1]
    exact read_any b l W hla
  have HR2 : Hid (∀ W, Calls Tryz.prog 9 #[.int .i64 b', .string ⟨l'.toArray⟩] W fun e w' => ∃ V V2, e = .returned (.tuple #[.agg #[.int .i64 B2, V, .bool false], .agg #[.int .i64 B2, V2], .bool true]) ∧ SPL w' W.heap.size V X2 ∧ RSR w' V2 X2 ∧ Below W.heap.size W w') := fun W => by
    rw [← hB2, ← hX2]
    exact read_any b' l' W hlb
  rw [hX1] at ok1 hsrt
  rw [hX2] at ok2 hsrt
  rw [hB1] at hge
  have HOK : Hid (gdC X1 ∧ szC X1 ≤ 128 ∧ gdC X2 ∧ szC X2 ≤ 128 ∧ 0 ≤ B1 ∧ ∀ t ∈ X1 ++ X2, t.2.Pairwise (fun a b => leB a b = true)) := ⟨ok1.1, ok1.2, ok2.1, ok2.2, hge, hsrt⟩
  have HJO := jn_ok B1 B2 X1 X2 ok1.1 ok2.1
  have HJ1 : Hid (∀ (W : World) (V V2 : Value), SPL W 0 V X1 → SPL W 0 V2 X2 → Calls Tryz.prog 19 #[.agg #[.int .i64 B1, V, .bool false], .agg #[.int .i64 B2, V2, .bool false]] W fun e w' => ∃ V, e = .returned (.tuple #[.agg #[.int .i64 (jnB B1 B2 X1 X2), V, .bool false], .int .i64 (jnE B1 B2 X1 X2)]) ∧ SPL w' W.heap.size V (jnT B1 B2 X1 X2) ∧ Below W.heap.size W w') := fun W V V2 h1 h2 => sJoin_any B1 B2 X1 X2 0 0 V V2 W h1 h2 ok1.2 ok2.2 ok1.1 ok2.1
  have HJ2 : Hid (∀ (W : World) (V V2 : Value), RSR W V X1 → RSR W V2 X2 → Calls Tryz.prog 20 #[.agg #[.int .i64 B1, V], .agg #[.int .i64 B2, V2]] W fun e w' => ∃ V, e = .returned (.tuple #[.agg #[.int .i64 (jnB B1 B2 X1 X2), V], .int .i64 (jnE B1 B2 X1 X2)]) ∧ RSR w' V (jnT B1 B2 X1 X2) ∧ Below W.heap.size W w') := fun W V V2 h1 h2 => dJoin_any B1 B2 X1 X2 V V2 W h1 h2 ok1.2 ok2.2 ok1.1 ok2.1 hge hsrt
  obtain ⟨B3, hB3⟩ : ∃ B, jnB B1 B2 X1 X2 = B := ⟨_, rfl⟩
  obtain ⟨E3, hE3⟩ : ∃ B, jnE B1 B2 X1 X2 = B := ⟨_, rfl⟩
  obtain ⟨X3, hX3⟩ : ∃ B, jnT B1 B2 X1 X2 = B := ⟨_, rfl⟩
  rw [hB3, hE3, hX3] at HJ1 HJ2
  rw [hX3] at HJO
  have HJK : Hid (gdC X3 ∧ szC X3 ≤ 128) := HJO
  clear hB1 hX1 hB2 hX2 ok1 ok2 hsrt hge hB3 hE3 hX3 HJO HOK
  obtain ⟨n1, hn1⟩ : ∃ n, X1.length = n := ⟨_, rfl⟩
  obtain ⟨n2, hn2⟩ : ∃ n, X2.length = n := ⟨_, rfl⟩
  obtain ⟨n3, hn3⟩ : ∃ n, X3.length = n := ⟨_, rfl⟩
  go_enter Tryz.func5, Tryz.ntmps5
  go_wp2_with fail
  refine (HR1.out _).mono ?_
  rintro e w1 ⟨V, V2, rfl, sv1, rv1, hb1⟩
  obtain ⟨p1, c1, rfl⟩ := sv1.shape
  obtain ⟨q1, d1, rfl⟩ := rv1.shape
  rw [hn1] at sv1 rv1 ⊢
  have HW1 : Hid (SPL w1 0 (.slice p1 n1 c1) X1 ∧ RSR w1 (.slice q1 n1 d1) X1 ∧ Below w.heap.size w w1) := ⟨sv1.base (Nat.zero_le _), rv1, hb1⟩
  clear sv1 rv1 hb1 HR1
  go_wp2_with fail
  refine (HR2.out _).mono ?_
  rintro e w2 ⟨V, V2, rfl, sv2, rv2, hb2⟩
  obtain ⟨p2, c2, rfl⟩ := sv2.shape
  obtain ⟨q2, d2, rfl⟩ := rv2.shape
  rw [hn2] at sv2 rv2 ⊢
  have HF : Hid (∀ W, Below ((w2.alloc (.cells #[.int .i64 B2, .slice p2 n2 c2, .bool false] 24 (0, 0))).alloc (.cells #[.int .i64 B2, .slice q2 n2 d2] 27 (0, 0))).heap.size ((w2.alloc (.cells #[.int .i64 B2, .slice p2 n2 c2, .bool false] 24 (0, 0))).alloc (.cells #[.int .i64 B2, .slice q2 n2 d2] 27 (0, 0))) W → ((∀ j, W.cell? ⟨w1.heap.size, j, none⟩ = (#[.int .i64 B1, .slice p1 n1 c1, .bool false] : Array Value)[j]?) ∧ (∀ j, W.cell? ⟨w1.heap.size + 1, j, none⟩ = (#[.int .i64 B1, .slice q1 n1 d1] : Array Value)[j]?) ∧ (∀ j, W.cell? ⟨w2.heap.size, j, none⟩ = (#[.int .i64 B2, .slice p2 n2 c2, .bool false] : Array Value)[j]?) ∧ (∀ j, W.cell? ⟨w2.heap.size + 1, j, none⟩ = (#[.int .i64 B2, .slice q2 n2 d2] : Array Value)[j]?) ∧ SPL W 0 (.slice p1 n1 c1) X1 ∧ RSR W (.slice q1 n1 d1) X1 ∧ SPL W 0 (.slice p2 n2 c2) X2 ∧ RSR W (.slice q2 n2 d2) X2 ∧ Below w.heap.size w W)) := fun W hW => by
    have h2 : Below w2.heap.size w2 W := bel0 (belA (belA (Below.refl _ _) _) _) hW
    have hA : Below ((w1.alloc (.cells #[.int .i64 B1, .slice p1 n1 c1, .bool false] 24 (0, 0))).alloc (.cells #[.int .i64 B1, .slice q1 n1 d1] 27 (0, 0))).heap.size ((w1.alloc (.cells #[.int .i64 B1, .slice p1 n1 c1, .bool false] 24 (0, 0))).alloc (.cells #[.int .i64 B1, .slice q1 n1 d1] 27 (0, 0))) W := bel0 hb2 h2
    have h1 : Below w1.heap.size w1 W := bel0 (belA (belA (Below.refl _ _) _) _) hA
    exact ⟨(cells_block (keepblk3 hA (alw_0 _ _ _))).1, (cells_block (keepblk3 hA (alw_1 _ _ _))).1, (cells_block (keepblk3 hW (alw_0 _ _ _))).1, (cells_block (keepblk3 hW (alw_1 _ _ _))).1, HW1.out.1.below h1, HW1.out.2.1.later h1, (sv2.below h2).base (Nat.zero_le _), rv2.later h2, bel0 HW1.out.2.2 h1⟩
  clear sv2 rv2 hb2 HR2 HW1
  obtain ⟨f1, f2, f3, f4, f5, f6, f7, f8, f9⟩ := HF.out _ (Below.refl _ _)
  have HS1 : Hid (SPL ((w2.alloc (.cells #[.int .i64 B2, .slice p2 n2 c2, .bool false] 24 (0, 0))).alloc (.cells #[.int .i64 B2, .slice q2 n2 d2] 27 (0, 0))) 0 (.slice p1 n1 c1) X1 ∧ SPL ((w2.alloc (.cells #[.int .i64 B2, .slice p2 n2 c2, .bool false] 24 (0, 0))).alloc (.cells #[.int .i64 B2, .slice q2 n2 d2] 27 (0, 0))) 0 (.slice p2 n2 c2) X2) := ⟨f5, f7⟩
  clear f2 f4 f5 f6 f7 f8 f9
  go_wp2_with fail
  refine (HJ1.out _ _ _ HS1.out.1 HS1.out.2).mono ?_
  rintro e w3 ⟨V, rfl, sv3, hb3⟩
  obtain ⟨p3, c3, rfl⟩ := sv3.shape
  rw [hn3] at sv3 ⊢
  have hal : Below w3.heap.size w3 (w3.alloc (.cells #[.int .i64 B3, .slice p3 n3 c3, .bool false] 24 (0, 0))) := belA (Below.refl _ _) _
  have hk4 : (w3.alloc (.cells #[.int .i64 B3, .slice p3 n3 c3, .bool false] 24 (0, 0))).heap[w3.heap.size]? = some (.cells #[.int .i64 B3, .slice p3 n3 c3, .bool false] 24 (0, 0)) := alloc_get _ _
  have hb4 : Below ((w2.alloc (.cells #[.int .i64 B2, .slice p2 n2 c2, .bool false] 24 (0, 0))).alloc (.cells #[.int .i64 B2, .slice q2 n2 d2] 27 (0, 0))).heap.size ((w2.alloc (.cells #[.int .i64 B2, .slice p2 n2 c2, .bool false] 24 (0, 0))).alloc (.cells #[.int .i64 B2, .slice q2 n2 d2] 27 (0, 0))) (w3.alloc (.cells #[.int .i64 B3, .slice p3 n3 c3, .bool false] 24 (0, 0))) := bel0 hb3 hal
  have HW4 : Hid (Below ((w2.alloc (.cells #[.int .i64 B2, .slice p2 n2 c2, .bool false] 24 (0, 0))).alloc (.cells #[.int .i64 B2, .slice q2 n2 d2] 27 (0, 0))).heap.size ((w2.alloc (.cells #[.int .i64 B2, .slice p2 n2 c2, .bool false] 24 (0, 0))).alloc (.cells #[.int .i64 B2, .slice q2 n2 d2] 27 (0, 0))) (w3.alloc (.cells #[.int .i64 B3, .slice p3 n3 c3, .bool false] 24 (0, 0))) ∧ SPL (w3.alloc (.cells #[.int .i64 B3, .slice p3 n3 c3, .bool false] 24 (0, 0))) 0 (.slice p3 n3 c3) X3 ∧ (w3.alloc (.cells #[.int .i64 B3, .slice p3 n3 c3, .bool false] 24 (0, 0))).heap[w3.heap.size]? = some (.cells #[.int .i64 B3, .slice p3 n3 c3, .bool false] 24 (0, 0))) := ⟨hb4, (sv3.below hal).base (Nat.zero_le _), hk4⟩
  obtain ⟨-, f2, -, f4, -, f6, -, f8, -⟩ := HF.out (w3.alloc (.cells #[.int .i64 B3, .slice p3 n3 c3, .bool false] 24 (0, 0))) hb4
  have HS2 : Hid (RSR (w3.alloc (.cells #[.int .i64 B3, .slice p3 n3 c3, .bool false] 24 (0, 0))) (.slice q1 n1 d1) X1 ∧ RSR (w3.alloc (.cells #[.int .i64 B3, .slice p3 n3 c3, .bool false] 24 (0, 0))) (.slice q2 n2 d2) X2) := ⟨f6, f8⟩
  clear f1 f3 f6 f8 sv3 hb3 hal hk4 hb4 HS1 HJ1
  go_wp2_with fail
  refine (HJ2.out _ _ _ HS2.out.1 HS2.out.2).mono ?_
  rintro e w5 ⟨V, rfl, rv3, hb5⟩
  obtain ⟨q3, d3, rfl⟩ := rv3.shape
  rw [hn3] at rv3 ⊢
  have HW5 : Hid (∀ W, Below (w5.alloc (.cells #[.int .i64 B3, .slice q3 n3 d3] 27 (0, 0))).heap.size (w5.alloc (.cells #[.int .i64 B3, .slice q3 n3 d3] 27 (0, 0))) W → (∀ j, W.cell? ⟨w3.heap.size, j, none⟩ = (#[.int .i64 B3, .slice p3 n3 c3, .bool false] : Array Value)[j]?) ∧ (∀ j, W.cell? ⟨w5.heap.size, j, none⟩ = (#[.int .i64 B3, .slice q3 n3 d3] : Array Value)[j]?) ∧ SPL W 0 (.slice p3 n3 c3) X3 ∧ RSR W (.slice q3 n3 d3) X3 ∧ Below w.heap.size w W) := fun W hW => by
    have h5 : Below w5.heap.size w5 W := bel0 (belA (Below.refl _ _) _) hW
    have h4 : Below (w3.alloc (.cells #[.int .i64 B3, .slice p3 n3 c3, .bool false] 24 (0, 0))).heap.size (w3.alloc (.cells #[.int .i64 B3, .slice p3 n3 c3, .bool false] 24 (0, 0))) W := bel0 hb5 h5
    exact ⟨(cells_block (keepblk3 h4 HW4.out.2.2)).1, (cells_block (keepblk3 hW (alloc_get _ _))).1, HW4.out.2.1.below h4, rv3.later h5, (HF.out W (bel0 HW4.out.1 h4)).2.2.2.2.2.2.2.2⟩
  obtain ⟨g1, g2, g3, g4, -⟩ := HW5.out _ (Below.refl _ _)
  have HSS : Hid (Calls Tryz.prog 21 #[.agg #[.int .i64 B3, .slice p3 n3 c3, .bool false], .int .i64 E3, .agg #[.int .i64 B3, .slice q3 n3 d3], .int .i64 E3] (w5.alloc (.cells #[.int .i64 B3, .slice q3 n3 d3] 27 (0, 0))) fun r w' => r = .returned (.bool true) ∧ Below (w5.alloc (.cells #[.int .i64 B3, .slice q3 n3 d3] 27 (0, 0))).heap.size (w5.alloc (.cells #[.int .i64 B3, .slice q3 n3 d3] 27 (0, 0))) w') := same_any B3 E3 _ _ X3 0 _ g3 g4 HJK.out.2 HJK.out.1
  clear g3 g4 rv3 hb5 HJ2 HS2 HW4 HF f2 f4
  go_wp2_with fail
  refine HSS.out.mono ?_
  rintro e w6 ⟨rfl, hb6⟩
  go_wp2_with fail
  go_ret
  exact ⟨rfl, (HW5.out w6 hb6).2.2.2.2⟩
end Go.Proofs.YtkcbkeimbpopcaaGreatDoor
namespace Go.Proofs.YtkcbkeimbpopcaaGreatDoor
open Go.RowKit Go.Shelf
set_option maxRecDepth 100000 in
set_option maxHeartbeats 4000000 in
theorem holds_walk (b : Int) (l : List UInt8) (q : Option Addr) (len cap : Nat) (SL : List ByteArray) (w : World) (hl0 : l.length ≤ 281474976710656) (hlen : SL.length = len) (hcell0 : ∀ i, i < len → ∃ ad, q = some ad ∧ w.cell? (ad.add i) = some (.string (SL.getD i ByteArray.empty))) (hsz0 : ∀ s ∈ SL, s.size ≤ maxLen) : Calls Tryz.prog 4 #[.int .i64 b, .string ⟨l.toArray⟩, .slice q len cap] w fun e w' => e = .returned (.bool true) ∧ Below w.heap.size w w' := by
  have hl : l.length ≤ maxLen := by unfold maxLen; omega
  have hok := prT_ok b l
  have heq := hs_eq b l
  obtain ⟨B, hB⟩ : ∃ B, prB b l = B := ⟨_, rfl⟩
  obtain ⟨X, hX⟩ : ∃ X, prT b l = X := ⟨_, rfl⟩
  have hBb : B ≤ 256 := by
    rw [← hB]
    unfold prB
    split
    · rename_i h0
      exact (prE_zero h0).2.1
    · decide
  have HRD : Hid (Calls Tryz.prog 9 #[.int .i64 b, .string ⟨l.toArray⟩] w fun e w' => ∃ V V2, e = .returned (.tuple #[.agg #[.int .i64 B, V, .bool false], .agg #[.int .i64 B, V2], .bool true]) ∧ SPL w' w.heap.size V X ∧ RSR w' V2 X ∧ Below w.heap.size w w') := by
    unfold Hid
    rw [← hB, ← hX]
    exact read_any b l w hl
  rw [hX] at hok
  rw [hB, hX] at heq
  have h5 := szC_len X
  have HOK : Hid (gdC X ∧ X.length ≤ 1000000 ∧ (∀ t ∈ X, t.2.length ≤ 1000000) ∧ B ≤ 256 ∧ ∀ h, hsB X h = (hdB B h && X.any (fun t => tdB t.1 t.2 h))) := ⟨hok.1, by omega, fun t ht => by have := szC_mem t ht; omega, hBb, heq⟩
  have HCE : Hid (∀ i, i < len → ∃ (ad : Addr) (x : List UInt8), q = some ad ∧ w.cell? (ad.add i) = some (.string ⟨x.toArray⟩) ∧ x.length ≤ maxLen) := fun i hi => by
    obtain ⟨ad, e1, e2⟩ := hcell0 i hi
    have hi' : i < SL.length := by omega
    rw [List.getD_eq_getElem?_getD, List.getElem?_eq_getElem hi', Option.getD_some] at e2
    exact ⟨ad, SL[i].data.toList, e1, e2, hsz0 _ (List.getElem_mem hi')⟩
  clear hB hX hok heq h5 hBb hcell0 hsz0 hlen SL
  obtain ⟨n, hn⟩ : ∃ n, X.length = n := ⟨_, rfl⟩
  go_enter Tryz.func4, Tryz.ntmps4
  go_wp2_with fail
  refine HRD.out.mono ?_
  rintro e w1 ⟨V, V2, rfl, sv, rv, hb1⟩
  obtain ⟨p, c, rfl⟩ := sv.shape
  obtain ⟨p2, c2, rfl⟩ := rv.shape
  rw [hn] at sv rv ⊢
  have HF : Hid (∀ W, Below ((w1.alloc (.cells #[.int .i64 B, .slice p n c, .bool false] 24 (0, 0))).alloc (.cells #[.int .i64 B, .slice p2 n c2] 27 (0, 0))).heap.size ((w1.alloc (.cells #[.int .i64 B, .slice p n c, .bool false] 24 (0, 0))).alloc (.cells #[.int .i64 B, .slice p2 n c2] 27 (0, 0))) W → ((∀ j, W.cell? ⟨w1.heap.size, j, none⟩ = (#[.int .i64 B, .slice p n c, .bool false] : Array Value)[j]?) ∧ (∀ j, W.cell? ⟨w1.heap.size + 1, j, none⟩ = (#[.int .i64 B, .slice p2 n c2] : Array Value)[j]?) ∧ SPL W w.heap.size (.slice p n c) X ∧ RSR W (.slice p2 n c2) X ∧ Below w.heap.size w W)) := fun W hW => by
    have h1 : Below w1.heap.size w1 W := bel0 (belA (belA (Below.refl _ _) _) _) hW
    exact ⟨(cells_block (keepblk3 hW (alw_0 _ _ _))).1, (cells_block (keepblk3 hW (alw_1 _ _ _))).1, sv.below h1, rv.later h1, bel0 hb1 h1⟩
  clear sv rv hb1 HRD
  go_wp2_with fail
  obtain ⟨wA, hwA⟩ : ∃ wA, ((w1.alloc (.cells #[.int .i64 B, .slice p n c, .bool false] 24 (0, 0))).alloc (.cells #[.int .i64 B, .slice p2 n c2] 27 (0, 0))) = wA := ⟨_, rfl⟩
  rw [hwA] at HF ⊢
  clear hwA
  go_loopw [10] (fun vi wr => ∃ k : Nat, vi = .int .i64 k ∧ k ≤ 64 ∧ Below wA.heap.size wA wr) (fun vi _ => 64 - (intOf vi).toNat)
  case atStart => exact ⟨0, rfl, by omega, Below.refl _ _⟩
  case round =>
    obtain ⟨k, rfl, hk, hBk⟩ := hrel
    by_cases hlt : k < len
    · have j1 : (k : Int) < (len : Int) := by omega
      have j0 : (0 : Int) ≤ (k : Int) := by omega
      by_cases h64 : k < 64
      · have j2 : (k : Int) < 64 := by omega
        obtain ⟨ad, x, rfl, hx, hxl⟩ := HCE.out k hlt
        have hbk := World.block_lt_of_cell? w _ hx
        have HS : Hid (∀ W, Below wA.heap.size wA W → (∀ j, W.cell? ⟨w1.heap.size, j, none⟩ = (#[.int .i64 B, .slice p n c, .bool false] : Array Value)[j]?) ∧ (∀ j, W.cell? ⟨w1.heap.size + 1, j, none⟩ = (#[.int .i64 B, .slice p2 n c2] : Array Value)[j]?) ∧ W.cell? (ad.add k) = some (.string ⟨x.toArray⟩)) := fun W hW => by
          have h := HF.out W hW
          exact ⟨h.1, h.2.1, (h.2.2.2.2.cell hbk).trans hx⟩
        have HH : Hid (∀ W, Below wA.heap.size wA W → Calls Tryz.prog 17 #[.agg #[.int .i64 B, .slice p n c, .bool false], .string ⟨x.toArray⟩] W fun e w' => e = .returned (.bool (hsB X x)) ∧ Below W.heap.size W w') := fun W hW => sHas_any B _ X w.heap.size ⟨x.toArray⟩ W (HF.out W hW).2.2.1 HOK.out.1 HOK.out.2.1 HOK.out.2.2.1 hxl
        have HD : Hid (∀ W, Below wA.heap.size wA W → Calls Tryz.prog 18 #[.agg #[.int .i64 B, .slice p2 n c2], .string ⟨x.toArray⟩] W fun e w' => e = .returned (.bool (hsB X x)) ∧ Below W.heap.size W w') := fun W hW => by
          rw [HOK.out.2.2.2.2 x]
          exact dHas_any B _ X x W (HF.out W hW).2.2.2.1 HOK.out.2.1 HOK.out.2.2.1 HOK.out.2.2.2.1 hxl
        obtain ⟨y, hy⟩ : ∃ y, hsB X x = y := ⟨_, rfl⟩
        rw [hy] at HH HD
        have hk0 := HS.out wr hBk
        have hk0d : (∀ j, wr.drew.cell? ⟨w1.heap.size, j, none⟩ = (#[.int .i64 B, .slice p n c, .bool false] : Array Value)[j]?) ∧ (∀ j, wr.drew.cell? ⟨w1.heap.size + 1, j, none⟩ = (#[.int .i64 B, .slice p2 n c2] : Array Value)[j]?) ∧ wr.drew.cell? (ad.add k) = some (.string ⟨x.toArray⟩) := hk0
        clear hx hbk hxl hy
        go_upto_region 7 with fail
        go_region_held3 (fun W => (∀ j, W.cell? ⟨w1.heap.size, j, none⟩ = (#[.int .i64 B, .slice p n c, .bool false] : Array Value)[j]?) ∧ (∀ j, W.cell? ⟨w1.heap.size + 1, j, none⟩ = (#[.int .i64 B, .slice p2 n c2] : Array Value)[j]?) ∧ W.cell? (ad.add k) = some (.string ⟨x.toArray⟩)) (first | with_reducible exact hk0 | with_reducible exact hk0d | with_reducible exact hk5 | with_reducible exact hk6) (first | (go_at_call 17; refine (HH.out _ (by first | exact hBk | exact hBk.drew)).mono ?_; rintro e w5 ⟨rfl, hb5⟩; have hb5' : Below wA.heap.size wA w5 := (by first | exact bel0 hBk hb5 | exact bel0 hBk (und hb5)); have hk5 := HS.out w5 hb5') | (go_at_call 18; refine (HD.out _ hb5').mono ?_; rintro e w6 ⟨rfl, hb6⟩; have hb6' : Below wA.heap.size wA w6 := bel0 hb5' hb6; have hk6 := HS.out w6 hb6'))
        have HB6 : Hid (Below wA.heap.size wA w6) := hb6'
        clear hk0 hk0d hk5 hk6 hb5 hb6 hb5' hb6' hBk
        have hyy : (y != y) = false := by cases y <;> rfl
        go_wp2_with fail
        go_roundw
        case rel => exact ⟨k + 1, by go_num, by omega, HB6.out⟩
        case measure => simp [intOf]; omega
      · have j2 : ¬ (k : Int) < 64 := by omega
        go_wp2_with fail
        go_ret
        exact ⟨rfl, (HF.out wr hBk).2.2.2.2⟩
    · have j1 : ¬ (k : Int) < (len : Int) := by omega
      go_wp2_with fail
      go_ret
      exact ⟨rfl, (HF.out wr hBk).2.2.2.2⟩
end Go.Proofs.YtkcbkeimbpopcaaGreatDoor
namespace Go.Proofs.YtkcbkeimbpopcaaGreatDoor
open Go.RowKit Go.Shelf
/-- what each two terms have in common, not yet in its form -/
def cmN (A C : List (List UInt8 × List (List UInt8))) : List (List UInt8 × List (List UInt8)) := A.flatMap (fun a => C.filterMap (fun c => if agB a.1 c.1 = true then some (mtT a.1 c.1, a.2 ++ c.2) else none))
theorem cmN_step {A C : List (List UInt8 × List (List UInt8))} {i : Nat} {a : List UInt8 × List (List UInt8)} (h : A[i]? = some a) : cmN (A.take (i + 1)) C = cmN (A.take i) C ++ cmN [a] C := by
  unfold cmN
  rw [List.take_add_one, h, List.flatMap_append]
  rfl
theorem cmN_sing (a : List UInt8 × List (List UInt8)) (C : List (List UInt8 × List (List UInt8))) : cmN [a] C = C.filterMap (fun c => if agB a.1 c.1 = true then some (mtT a.1 c.1, a.2 ++ c.2) else none) := by
  unfold cmN
  rw [List.flatMap_cons, List.flatMap_nil, List.append_nil]
theorem cmN_one {C : List (List UInt8 × List (List UInt8))} {j : Nat} {a c : List UInt8 × List (List UInt8)} (h : C[j]? = some c) : cmN [a] (C.take (j + 1)) = cmN [a] (C.take j) ++ (if agB a.1 c.1 = true then [(mtT a.1 c.1, a.2 ++ c.2)] else []) := by
  rw [cmN_sing, cmN_sing, List.take_add_one, h, List.filterMap_append]
  congr 1
  by_cases hq : agB a.1 c.1 = true
  · simp [hq]
  · simp [hq]
theorem prT_fix (b : Int) (l : List UInt8) : ordT (topC (stl (prT b l))) = prT b l := by
  by_cases hX : prT b l = []
  · rw [hX]; simp [ordT, srtLn, topC, stl]
  · have h0 : prE b l = 0 := by
      by_cases h : prE b l = 0
      · exact h
      · exact absurd (by unfold prT; rw [if_neg h]) hX
    have hn : ¬ l = [110, 111, 110, 101] := fun hc => hX (by unfold prT; rw [if_pos h0, if_pos hc])
    have hT : prT b l = ordT (topC (stl ((prts 43 l).map tcon))) := by unfold prT; rw [if_pos h0, if_neg hn]
    rw [hT]
    exact form_id (gdC_tcon ((prE_zero h0).2.2.resolve_left hn))
theorem rep_get (n k : Nat) (hk : k < n) : (List.replicate n (120 : UInt8))[k]? = some 120 := by rw [List.getElem?_replicate, if_pos hk]
theorem rep_good (n : Nat) (hn : n ≤ 256) : good (List.replicate n 120) = true := by
  unfold good
  rw [Bool.and_eq_true, List.all_eq_true]
  refine ⟨by simpa using hn, fun x hx => ?_⟩
  rw [(List.mem_replicate.1 hx).2]
  rfl
theorem wi_rep {c : List UInt8} (h : c ≠ []) : wiB c (List.replicate c.length 120) = true := by
  unfold wiB
  rw [Bool.and_eq_true, allTo_iff]
  refine ⟨fit_of h (by simp), fun k hk => ?_⟩
  rw [rep_get _ _ hk, List.getElem?_eq_getElem hk]
  rfl
/-- all headers leave a cube as it is -/
theorem mt_rep {c : List UInt8} (h : c ≠ []) (gc : good c = true) : agB c (List.replicate c.length 120) = true ∧ mtT c (List.replicate c.length 120) = c := by
  have h1 := wi_eq c (List.replicate c.length 120) gc (rep_good _ (good_le gc))
  rw [wi_rep h] at h1
  obtain ⟨h2, h3⟩ := Bool.and_eq_true_iff.1 h1
  exact ⟨h2, by simpa using h3⟩
theorem mt_rep2 {c : List UInt8} (h : c ≠ []) : agB (List.replicate c.length 120) c = true ∧ mtT (List.replicate c.length 120) c = c := by
  have hf : fitB (List.replicate c.length 120) c = true := fit_of (by intro e; apply h; have := congrArg List.length e; simpa using this) (by simp)
  have ha : agB (List.replicate c.length 120) c = true := agB_all _ _ hf (fun k hk => by
    unfold cfl fx
    rw [rep_get _ _ (by simpa using hk)]
    simp)
  refine ⟨ha, ?_⟩
  unfold mtT
  rw [if_pos ha]
  apply List.ext_getElem?
  intro k
  by_cases hk : k < c.length
  · rw [meetT_get _ _ (by simp) k (by simpa using hk), List.getElem?_eq_getElem hk]
    simp
  · rw [List.getElem?_eq_none (by rw [meetT_len _ _ (by simp)]; simp; omega), List.getElem?_eq_none (by omega)]
theorem cm_all1 {C : List (List UInt8 × List (List UInt8))} {n : Nat} (h : ∀ t ∈ C, t.1.length = n ∧ t.1 ≠ []) : cmN [(List.replicate n 120, [])] C = C := by
  rw [cmN_sing]
  induction C with
  | nil => rfl
  | cons c l ih =>
    have h1 := h c List.mem_cons_self
    have h2 := mt_rep2 h1.2
    rw [h1.1] at h2
    have ih' := ih (fun t ht => h t (List.mem_cons_of_mem _ ht))
    rw [List.filterMap_cons_some (b := c) (by rw [if_pos h2.1, h2.2]; rfl), ih']
theorem cm_all2 {A : List (List UInt8 × List (List UInt8))} {n : Nat} (h : ∀ t ∈ A, t.1.length = n ∧ t.1 ≠ [] ∧ good t.1 = true) : cmN A [(List.replicate n 120, [])] = A := by
  induction A with
  | nil => rfl
  | cons a l ih =>
    have h1 := h a List.mem_cons_self
    have h2 := mt_rep h1.2.1 h1.2.2
    rw [h1.1] at h2
    have ih' := ih (fun t ht => h t (List.mem_cons_of_mem _ ht))
    have e : cmN (a :: l) [(List.replicate n 120, [])] = cmN [a] [(List.replicate n 120, [])] ++ cmN l [(List.replicate n 120, [])] := by
      unfold cmN
      simp only [List.flatMap_cons, List.flatMap_nil, List.append_nil]
    rw [e, ih', cmN_sing, List.filterMap_cons_some (b := a) (by rw [if_pos h2.1, h2.2, List.append_nil])]
    rfl
theorem gdC_cm {A C : List (List UInt8 × List (List UInt8))} (h1 : gdC A) (h2 : gdC C) : gdC (cmN A C) := fun t ht => by
  unfold cmN at ht
  obtain ⟨a, ha, ht⟩ := List.mem_flatMap.1 ht
  obtain ⟨c, hc, he⟩ := List.mem_filterMap.1 ht
  split at he
  · obtain rfl := Option.some.inj he
    refine ⟨good_mtT _ _ (h1 a ha).1 (h2 c hc).1, fun x hx => ?_⟩
    rcases List.mem_append.1 hx with hx | hx
    · exact (h1 a ha).2 x hx
    · exact (h2 c hc).2 x hx
  · cases he
end Go.Proofs.YtkcbkeimbpopcaaGreatDoor
