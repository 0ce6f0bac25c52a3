import Derived.Test.YtnejbldociaapaaGreatDoorXBO
import Derived.Test.YtnejbldociaapaaGreatDoorXH5
import Derived.Test.YtnejbldociaapaaGreatDoorXBQ
namespace Go.Proofs.YtnejbldociaapaaGreatDoor
open Go.RowKit Go.Shelf
/-- every term of what is read has its form, and its width -/
theorem prT_ft (b : Int) (l : List UInt8) : ∀ t ∈ prT b l, FTm t ∧ (t.1.length : Int) = b ∧ 1 ≤ b ∧ b ≤ 256 ∧ prE b l = 0 := fun t ht => by
  unfold prT at ht
  split at ht
  · rename_i h0
    obtain ⟨h1, h2, h3⟩ := prE_zero h0
    split at ht
    · cases ht
    · rename_i hn
      rcases h3 with h3 | h3
      · exact absurd h3 hn
      · obtain ⟨hf, y, hy, he⟩ := FTm_form (gdC_tcon h3) t ht
        refine ⟨hf, ?_, h1, h2, h0⟩
        obtain ⟨p, hp, rfl⟩ := List.mem_map.1 hy
        have h4 := List.all_eq_true.1 h3 p hp
        have hne := prts_ne 45 p
        have : (tcon p).1.length = b.toNat := by
          unfold tcon
          unfold okT at h4
          cases hc : prts 45 p with
          | nil => rw [hc] at hne; exact absurd hne (by simp)
          | cons c r =>
            rw [hc] at h4
            have h5 := List.all_eq_true.1 h4 c List.mem_cons_self
            unfold okP at h5
            simpa using (Bool.and_eq_true_iff.1 h5).2
        rw [← he, this]
        omega
  · cases ht
theorem okH_at {t h : List UInt8} {k : Nat} (hk : k < t.length) (hk2 : k < h.length) : okH t h k = ((h[k] == 48 || h[k] == 49) && (t[k] == 120 || t[k] == h[k])) := by
  unfold okH
  rw [List.getElem?_eq_getElem hk, List.getElem?_eq_getElem hk2]
theorem has_wi {t h : List UInt8} (hl : t.length = h.length) (hd : h.all digB = true) : hasB t h = wiB h t := by
  have hd' := List.all_eq_true.1 hd
  unfold hasB wiB fitB
  have e1 : t.isEmpty = h.isEmpty := by
    cases t <;> cases h <;> first | rfl | (simp at hl)
  rw [e1, hl, Bool.eq_iff_iff]
  simp only [Bool.and_eq_true, allTo_iff]
  refine and_congr (by simp) (forall_congr' fun k => forall_congr' fun hk => ?_)
  rw [okH_at (by omega) hk, List.getElem?_eq_getElem hk, List.getElem?_eq_getElem (show k < t.length by omega)]
  have h1 := hd' _ (List.getElem_mem hk)
  unfold digB at h1
  rw [h1, Bool.true_and]
  simp only [Bool.or_eq_true, beq_iff_eq]
  exact ⟨fun h => h.imp id Eq.symm, fun h => h.imp id Eq.symm⟩
theorem has_hd {b : Int} {t h : List UInt8} (hb : (t.length : Int) = b) (h1 : 1 ≤ b) (hh : hdB b h = false) : hasB t h = false := by
  cases hc : hasB t h with
  | false => rfl
  | true =>
    unfold hasB at hc
    obtain ⟨h2, h3⟩ := Bool.and_eq_true_iff.1 hc
    have h4 : t.length = h.length := by simpa using (Bool.and_eq_true_iff.1 h2).2
    have h5 := (allTo_iff _ _).1 h3
    have : hdB b h = true := by
      unfold hdB
      rw [← h4, show ((t.length : Int) == b) = true by simpa using hb, show (b == 0) = false by simp; omega]
      simp only [Bool.not_false, Bool.and_true, Bool.true_and]
      refine List.all_eq_true.2 (fun x hx => ?_)
      obtain ⟨k, hk, rfl⟩ := List.getElem_of_mem hx
      have h6 := h5 k (by omega)
      rw [okH_at (by omega) hk] at h6
      exact (Bool.and_eq_true_iff.1 h6).1
    rw [this] at hh
    cases hh
theorem any_congrB {α : Type} {L : List α} {p q : α → Bool} (h : ∀ t ∈ L, p t = q t) : L.any p = L.any q := by
  induction L with
  | nil => rfl
  | cons x l ih => rw [List.any_cons, List.any_cons, h x List.mem_cons_self, ih (fun t ht => h t (List.mem_cons_of_mem _ ht))]
theorem all_congrB {α : Type} {L : List α} {p q : α → Bool} (h : ∀ t ∈ L, p t = q t) : L.all p = L.all q := by
  induction L with
  | nil => rfl
  | cons x l ih => rw [List.all_cons, List.all_cons, h x List.mem_cons_self, ih (fun t ht => h t (List.mem_cons_of_mem _ ht))]
/-- the program's Has is the document's -/
theorem hs_eq (b : Int) (l h : List UInt8) : hsB (prT b l) h = (hdB (prB b l) h && (prT b l).any (fun t => tdB t.1 t.2 h)) := by
  have hF := prT_ft b l
  unfold hsB
  by_cases hX : prT b l = []
  · rw [hX]; simp
  · obtain ⟨t0, ht0⟩ : ∃ t, t ∈ prT b l := by
      cases hx : prT b l with
      | nil => exact absurd hx hX
      | cons t r => exact ⟨t, List.mem_cons_self⟩
    have e0 : prB b l = b := by unfold prB; rw [if_pos (hF t0 ht0).2.2.2.2]
    rw [e0]
    cases hh : hdB b h with
    | false =>
      rw [Bool.false_and, List.any_eq_false]
      intro t ht
      obtain ⟨hf, hl, h1, h2, -⟩ := hF t ht
      unfold thB
      rw [has_hd hl h1 hh]
      simp
    | true =>
      rw [Bool.true_and]
      refine any_congrB (fun t ht => ?_)
      obtain ⟨hf, hl, h1, h2, -⟩ := hF t ht
      have hd : h.all digB = true := (Bool.and_eq_true_iff.1 hh).2
      have hln : (h.length : Int) = b := by simpa using (Bool.and_eq_true_iff.1 (Bool.and_eq_true_iff.1 hh).1).1
      unfold thB tdB
      rw [has_wi (by omega) hd]
      congr 1
      refine all_congrB (fun m hm => ?_)
      have h3 := hf.wi m hm
      unfold wiB at h3
      have h4 := fitB_len (Bool.and_eq_true_iff.1 h3).1
      rw [has_wi (by omega) hd]
end Go.Proofs.YtnejbldociaapaaGreatDoor
namespace Go.Proofs.YtnejbldociaapaaGreatDoor
open Go.RowKit Go.Shelf
set_option maxRecDepth 100000 in
set_option maxHeartbeats 4000000 in
theorem holds_walk (b : Int) (l : List UInt8) (q : Option Addr) (len cap : Nat) (SL : List ByteArray) (w : World) (hl0 : l.length ≤ 281474976710656) (hlen : SL.length = len) (hcell0 : ∀ i, i < len → ∃ ad, q = some ad ∧ w.cell? (ad.add i) = some (.string (SL.getD i ByteArray.empty))) (hsz0 : ∀ s ∈ SL, s.size ≤ maxLen) : Calls Tryz.prog 4 #[.int .i64 b, .string ⟨l.toArray⟩, .slice q len cap] w fun e w' => e = .returned (.bool true) ∧ Below w.heap.size w w' := by
  have hl : l.length ≤ maxLen := by unfold maxLen; omega
  have hok := prT_ok b l
  have heq := hs_eq b l
  obtain ⟨B, hB⟩ : ∃ B, prB b l = B := ⟨_, rfl⟩
  obtain ⟨X, hX⟩ : ∃ X, prT b l = X := ⟨_, rfl⟩
  have hBb : B ≤ 256 := by
    rw [← hB]
    unfold prB
    split
    · rename_i h0
      exact (prE_zero h0).2.1
    · decide
  have HRD : Hid (Calls Tryz.prog 6 #[.int .i64 b, .string ⟨l.toArray⟩] w fun e w' => ∃ V V2, e = .returned (.tuple #[.agg #[.int .i64 B, V, .bool false], .agg #[.int .i64 B, V2], .bool true]) ∧ SPL w' w.heap.size V X ∧ RSR w' V2 X ∧ Below w.heap.size w w') := by
    unfold Hid
    rw [← hB, ← hX]
    exact read_any b l w hl
  rw [hX] at hok
  rw [hB, hX] at heq
  have h5 := szC_len X
  have HOK : Hid (gdC X ∧ X.length ≤ 1000000 ∧ (∀ t ∈ X, t.2.length ≤ 1000000) ∧ B ≤ 256 ∧ ∀ h, hsB X h = (hdB B h && X.any (fun t => tdB t.1 t.2 h))) := ⟨hok.1, by omega, fun t ht => by have := szC_mem t ht; omega, hBb, heq⟩
  have HCE : Hid (∀ i, i < len → ∃ (ad : Addr) (x : List UInt8), q = some ad ∧ w.cell? (ad.add i) = some (.string ⟨x.toArray⟩) ∧ x.length ≤ maxLen) := fun i hi => by
    obtain ⟨ad, e1, e2⟩ := hcell0 i hi
    have hi' : i < SL.length := by omega
    rw [List.getD_eq_getElem?_getD, List.getElem?_eq_getElem hi', Option.getD_some] at e2
    exact ⟨ad, SL[i].data.toList, e1, e2, hsz0 _ (List.getElem_mem hi')⟩
  clear hB hX hok heq h5 hBb hcell0 hsz0 hlen SL
  obtain ⟨n, hn⟩ : ∃ n, X.length = n := ⟨_, rfl⟩
  go_enter Tryz.func4, Tryz.ntmps4
  go_wp2_with fail
  refine HRD.out.mono ?_
  rintro e w1 ⟨V, V2, rfl, sv, rv, hb1⟩
  obtain ⟨p, c, rfl⟩ := sv.shape
  obtain ⟨p2, c2, rfl⟩ := rv.shape
  rw [hn] at sv rv ⊢
  have HF : Hid (∀ W, Below ((w1.alloc (.cells #[.int .i64 B, .slice p n c, .bool false] 24 (0, 0))).alloc (.cells #[.int .i64 B, .slice p2 n c2] 27 (0, 0))).heap.size ((w1.alloc (.cells #[.int .i64 B, .slice p n c, .bool false] 24 (0, 0))).alloc (.cells #[.int .i64 B, .slice p2 n c2] 27 (0, 0))) W → ((∀ j, W.cell? ⟨w1.heap.size, j, none⟩ = (#[.int .i64 B, .slice p n c, .bool false] : Array Value)[j]?) ∧ (∀ j, W.cell? ⟨w1.heap.size + 1, j, none⟩ = (#[.int .i64 B, .slice p2 n c2] : Array Value)[j]?) ∧ SPL W w.heap.size (.slice p n c) X ∧ RSR W (.slice p2 n c2) X ∧ Below w.heap.size w W)) := fun W hW => by
    have h1 : Below w1.heap.size w1 W := bel0 (belA (belA (Below.refl _ _) _) _) hW
    exact ⟨(cells_block (keepblk3 hW (alw_0 _ _ _))).1, (cells_block (keepblk3 hW (alw_1 _ _ _))).1, sv.below h1, rv.later h1, bel0 hb1 h1⟩
  clear sv rv hb1 HRD
  go_wp2_with fail
  obtain ⟨wA, hwA⟩ : ∃ wA, ((w1.alloc (.cells #[.int .i64 B, .slice p n c, .bool false] 24 (0, 0))).alloc (.cells #[.int .i64 B, .slice p2 n c2] 27 (0, 0))) = wA := ⟨_, rfl⟩
  rw [hwA] at HF ⊢
  clear hwA
  go_loopw [10] (fun vi wr => ∃ k : Nat, vi = .int .i64 k ∧ k ≤ 64 ∧ Below wA.heap.size wA wr) (fun vi _ => 64 - (intOf vi).toNat)
  case atStart => exact ⟨0, rfl, by omega, Below.refl _ _⟩
  case round =>
    obtain ⟨k, rfl, hk, hBk⟩ := hrel
    by_cases hlt : k < len
    · have j1 : (k : Int) < (len : Int) := by omega
      have j0 : (0 : Int) ≤ (k : Int) := by omega
      by_cases h64 : k < 64
      · have j2 : (k : Int) < 64 := by omega
        obtain ⟨ad, x, rfl, hx, hxl⟩ := HCE.out k hlt
        have hbk := World.block_lt_of_cell? w _ hx
        have HS : Hid (∀ W, Below wA.heap.size wA W → (∀ j, W.cell? ⟨w1.heap.size, j, none⟩ = (#[.int .i64 B, .slice p n c, .bool false] : Array Value)[j]?) ∧ (∀ j, W.cell? ⟨w1.heap.size + 1, j, none⟩ = (#[.int .i64 B, .slice p2 n c2] : Array Value)[j]?) ∧ W.cell? (ad.add k) = some (.string ⟨x.toArray⟩)) := fun W hW => by
          have h := HF.out W hW
          exact ⟨h.1, h.2.1, (h.2.2.2.2.cell hbk).trans hx⟩
        have HH : Hid (∀ W, Below wA.heap.size wA W → Calls Tryz.prog 14 #[.agg #[.int .i64 B, .slice p n c, .bool false], .string ⟨x.toArray⟩] W fun e w' => e = .returned (.bool (hsB X x)) ∧ Below W.heap.size W w') := fun W hW => sHas_any B _ X w.heap.size ⟨x.toArray⟩ W (HF.out W hW).2.2.1 HOK.out.1 HOK.out.2.1 HOK.out.2.2.1 hxl
        have HD : Hid (∀ W, Below wA.heap.size wA W → Calls Tryz.prog 15 #[.agg #[.int .i64 B, .slice p2 n c2], .string ⟨x.toArray⟩] W fun e w' => e = .returned (.bool (hsB X x)) ∧ Below W.heap.size W w') := fun W hW => by
          rw [HOK.out.2.2.2.2 x]
          exact dHas_any B _ X x W (HF.out W hW).2.2.2.1 HOK.out.2.1 HOK.out.2.2.1 HOK.out.2.2.2.1 hxl
        obtain ⟨y, hy⟩ : ∃ y, hsB X x = y := ⟨_, rfl⟩
        rw [hy] at HH HD
        have hk0 := HS.out wr hBk
        have hk0d : (∀ j, wr.drew.cell? ⟨w1.heap.size, j, none⟩ = (#[.int .i64 B, .slice p n c, .bool false] : Array Value)[j]?) ∧ (∀ j, wr.drew.cell? ⟨w1.heap.size + 1, j, none⟩ = (#[.int .i64 B, .slice p2 n c2] : Array Value)[j]?) ∧ wr.drew.cell? (ad.add k) = some (.string ⟨x.toArray⟩) := hk0
        clear hx hbk hxl hy
        go_upto_region 7 with fail
        go_region_held3 (fun W => (∀ j, W.cell? ⟨w1.heap.size, j, none⟩ = (#[.int .i64 B, .slice p n c, .bool false] : Array Value)[j]?) ∧ (∀ j, W.cell? ⟨w1.heap.size + 1, j, none⟩ = (#[.int .i64 B, .slice p2 n c2] : Array Value)[j]?) ∧ W.cell? (ad.add k) = some (.string ⟨x.toArray⟩)) (first | with_reducible exact hk0 | with_reducible exact hk0d | with_reducible exact hk5 | with_reducible exact hk6) (first | (go_at_call 14; refine (HH.out _ (by first | exact hBk | exact hBk.drew)).mono ?_; rintro e w5 ⟨rfl, hb5⟩; have hb5' : Below wA.heap.size wA w5 := (by first | exact bel0 hBk hb5 | exact bel0 hBk (und hb5)); have hk5 := HS.out w5 hb5') | (go_at_call 15; refine (HD.out _ hb5').mono ?_; rintro e w6 ⟨rfl, hb6⟩; have hb6' : Below wA.heap.size wA w6 := bel0 hb5' hb6; have hk6 := HS.out w6 hb6'))
        have HB6 : Hid (Below wA.heap.size wA w6) := hb6'
        clear hk0 hk0d hk5 hk6 hb5 hb6 hb5' hb6' hBk
        have hyy : (y != y) = false := by cases y <;> rfl
        go_wp2_with fail
        go_roundw
        case rel => exact ⟨k + 1, by go_num, by omega, HB6.out⟩
        case measure => simp [intOf]; omega
      · have j2 : ¬ (k : Int) < 64 := by omega
        go_wp2_with fail
        go_ret
        exact ⟨rfl, (HF.out wr hBk).2.2.2.2⟩
    · have j1 : ¬ (k : Int) < (len : Int) := by omega
      go_wp2_with fail
      go_ret
      exact ⟨rfl, (HF.out wr hBk).2.2.2.2⟩
end Go.Proofs.YtnejbldociaapaaGreatDoor
