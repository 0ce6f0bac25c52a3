import Derived.Test.YtepokgainceidaaGreatDoorYAT
namespace Go.Proofs.YtepokgainceidaaGreatDoor
open Go.RowKit Go.Shelf
theorem nameB_bad {x : List UInt8} {j : Nat} (hj : j < x.length) (h : letX (bt x j) = false ∧ (digX (bt x j) = false ∨ j = 0)) : nameB x = false := by
  cases hb : nameB x with
  | false => rfl
  | true =>
    unfold nameB at hb
    simp only [Bool.and_eq_true, decide_eq_true_eq] at hb
    obtain ⟨h0, h24, hl, ha⟩ := hb
    have := List.all_eq_true.1 ha x[j] (List.getElem_mem hj)
    rw [← bt_of (List.getElem?_eq_getElem hj), h.1, Bool.false_or] at this
    rcases h.2 with e | e
    · rw [e] at this; cases this
    · subst e
      rw [h.1] at hl
      cases hl
theorem nameB_ok {x : List UInt8} (h0 : 0 < x.length) (h24 : x.length ≤ 24) (h : ∀ j, j < x.length → ¬ (letX (bt x j) = false ∧ (digX (bt x j) = false ∨ j = 0))) : nameB x = true := by
  unfold nameB
  have hl : letX (bt x 0) = true := by
    cases hh : letX (bt x 0) with
    | true => rfl
    | false => exact absurd ⟨hh, .inr rfl⟩ (h 0 h0)
  have ha : x.all (fun c => letX c.toNat || digX c.toNat) = true := by
    rw [List.all_eq_true]
    intro c hc
    obtain ⟨k, hk, rfl⟩ := List.getElem_of_mem hc
    have := h k hk
    rw [bt_of (List.getElem?_eq_getElem hk)] at this
    cases h1 : letX x[k].toNat with
    | true => rfl
    | false =>
      cases h2 : digX x[k].toNat with
      | true => rfl
      | false => exact absurd ⟨h1, .inl h2⟩ this
  rw [hl, ha, decide_eq_true h0, decide_eq_true h24]
  rfl
set_option maxRecDepth 100000 in
set_option maxHeartbeats 4000000 in
theorem refName_any (x : List UInt8) (w : World) (hx : x.length ≤ 281474976710656) : Calls Tryz.prog 67 #[.string ⟨x.toArray⟩] w fun e w' => e = .returned (.bool (nameB x)) ∧ w' = w := by
  by_cases h0 : x = []
  · have hr : Hid (nameB x = false) := by unfold Hid nameB; simp [h0]
    have y1 : (x == []) = true := beq_iff_eq.2 h0
    subst h0
    go_enter Tryz.func67, Tryz.ntmps67
    go_wp2_with fail
    go_ret
    exact ⟨by rw [hr.out]; rfl, rfl⟩
  have y1 : (x == []) = false := beq_eq_false_iff_ne.2 h0
  have h0' : 0 < x.length := List.length_pos_iff.2 h0
  by_cases h24 : 24 < x.length
  · have hr : Hid (nameB x = false) := by
      unfold Hid nameB
      rw [decide_eq_false (show ¬ x.length ≤ 24 by omega)]
      simp
    have i1 : (24 : Int) < (x.length : Int) := by omega
    go_enter Tryz.func67, Tryz.ntmps67
    go_wp2_with fail
    go_ret
    exact ⟨by rw [hr.out]; rfl, rfl⟩
  have i1 : ¬ (24 : Int) < (x.length : Int) := by omega
  obtain ⟨q, hq⟩ : ∃ q, nameB x = q := ⟨_, rfl⟩
  have HBAD : Hid (∀ j, j < x.length → letX (bt x j) = false ∧ (digX (bt x j) = false ∨ j = 0) → q = false) := fun j hj h => by rw [← hq]; exact nameB_bad hj h
  have HOK : Hid ((∀ j, j < x.length → ¬ (letX (bt x j) = false ∧ (digX (bt x j) = false ∨ j = 0))) → q = true) := fun h => by rw [← hq]; exact nameB_ok h0' (by omega) h
  rw [hq]
  clear hq
  go_enter Tryz.func67, Tryz.ntmps67
  go_wp2_with fail
  go_loopw [3] (fun vj wr => ∃ j : Nat, vj = .int .i64 j ∧ j ≤ x.length ∧ Hid (∀ i, i < j → ¬ (letX (bt x i) = false ∧ (digX (bt x i) = false ∨ i = 0))) ∧ wr = w) (fun vj _ => x.length - (intOf vj).toNat)
  case atStart => exact ⟨0, rfl, Nat.zero_le _, fun i hi => by omega, rfl⟩
  case round =>
    obtain ⟨j, rfl, hj, hno, rfl⟩ := hrel
    by_cases hlt : j < x.length
    · have j0 : (0 : Int) ≤ (j : Int) := by omega
      have j1 : (j : Int) < (x.length : Int) := by omega
      obtain ⟨d, hd, hld⟩ := byte_get x j hlt
      have hbt := bt_of hld
      have hd256 := d.toNat_lt
      have HNX : Hid (¬ (letX (bt x j) = false ∧ (digX (bt x j) = false ∨ j = 0)) → ∀ i, i < j + 1 → ¬ (letX (bt x i) = false ∧ (digX (bt x i) = false ∨ i = 0))) := fun h i hi => by
        rcases Nat.lt_or_ge i j with h1 | h1
        · exact hno.out i h1
        · obtain rfl : i = j := by omega
          exact h
      have HBJ : Hid (letX (bt x j) = false ∧ (digX (bt x j) = false ∨ j = 0) → q = false) := HBAD.out j hlt
      rw [hbt] at HNX HBJ
      clear hld hno hbt
      rcases (show d.toNat ≤ 47 ∨ (48 ≤ d.toNat ∧ d.toNat ≤ 57) ∨ (58 ≤ d.toNat ∧ d.toNat ≤ 64) ∨ (65 ≤ d.toNat ∧ d.toNat ≤ 90) ∨ (91 ≤ d.toNat ∧ d.toNat ≤ 94) ∨ d.toNat = 95 ∨ d.toNat = 96 ∨ (97 ≤ d.toNat ∧ d.toNat ≤ 122) ∨ 123 ≤ d.toNat by omega) with hr | hr | hr | hr | hr | hr | hr | hr | hr
      · have a97 : ¬ (97 : Int) ≤ (d.toNat : Int) := by omega
        have a122 : (d.toNat : Int) ≤ 122 := by omega
        have a65 : ¬ (65 : Int) ≤ (d.toNat : Int) := by omega
        have a90 : (d.toNat : Int) ≤ 90 := by omega
        have a48 : ¬ (48 : Int) ≤ (d.toNat : Int) := by omega
        have a57 : (d.toNat : Int) ≤ 57 := by omega
        have a95 : ((d.toNat : Int) == 95) = false := beq_eq_false_iff_ne.2 (by omega)
        have hl : letX d.toNat = false := by unfold letX; simp; omega
        have hdg : digX d.toNat = false := by unfold digX; simp; omega
        obtain rfl : q = false := HBJ.out ⟨hl, .inl hdg⟩
        clear hl hdg
        clear HNX HBJ
        go_wp2_with fail
        go_ret
        exact ⟨rfl, rfl⟩
      · have a97 : ¬ (97 : Int) ≤ (d.toNat : Int) := by omega
        have a122 : (d.toNat : Int) ≤ 122 := by omega
        have a65 : ¬ (65 : Int) ≤ (d.toNat : Int) := by omega
        have a90 : (d.toNat : Int) ≤ 90 := by omega
        have a48 : (48 : Int) ≤ (d.toNat : Int) := by omega
        have a57 : (d.toNat : Int) ≤ 57 := by omega
        have a95 : ((d.toNat : Int) == 95) = false := beq_eq_false_iff_ne.2 (by omega)
        have hl : letX d.toNat = false := by unfold letX; simp; omega
        have hdg : digX d.toNat = true := by unfold digX; simp; omega
        by_cases hz : j = 0
        · have z0 : ((j : Int) == 0) = true := beq_iff_eq.2 (by omega)
          obtain rfl : q = false := HBJ.out ⟨hl, .inr hz⟩
          clear hl hdg hz
          clear HNX HBJ
          go_wp2_with fail
          go_ret
          exact ⟨rfl, rfl⟩
        · have z0 : ((j : Int) == 0) = false := beq_eq_false_iff_ne.2 (by omega)
          have HN2 : Hid (∀ i, i < j + 1 → ¬ (letX (bt x i) = false ∧ (digX (bt x i) = false ∨ i = 0))) := HNX.out (fun h => by
            rw [hdg] at h
            rcases h.2 with e | e
            · cases e
            · exact hz e)
          clear hl hdg hz
          clear HBJ HNX
          go_wp2_with fail
          go_roundw
          case rel => exact ⟨j + 1, by go_num, by omega, HN2, by first | rfl | trivial⟩
          case measure => simp [intOf]; omega
      · have a97 : ¬ (97 : Int) ≤ (d.toNat : Int) := by omega
        have a122 : (d.toNat : Int) ≤ 122 := by omega
        have a65 : ¬ (65 : Int) ≤ (d.toNat : Int) := by omega
        have a90 : (d.toNat : Int) ≤ 90 := by omega
        have a48 : (48 : Int) ≤ (d.toNat : Int) := by omega
        have a57 : ¬ (d.toNat : Int) ≤ 57 := by omega
        have a95 : ((d.toNat : Int) == 95) = false := beq_eq_false_iff_ne.2 (by omega)
        have hl : letX d.toNat = false := by unfold letX; simp; omega
        have hdg : digX d.toNat = false := by unfold digX; simp; omega
        obtain rfl : q = false := HBJ.out ⟨hl, .inl hdg⟩
        clear hl hdg
        clear HNX HBJ
        go_wp2_with fail
        go_ret
        exact ⟨rfl, rfl⟩
      · have a97 : ¬ (97 : Int) ≤ (d.toNat : Int) := by omega
        have a122 : (d.toNat : Int) ≤ 122 := by omega
        have a65 : (65 : Int) ≤ (d.toNat : Int) := by omega
        have a90 : (d.toNat : Int) ≤ 90 := by omega
        have a48 : (48 : Int) ≤ (d.toNat : Int) := by omega
        have a57 : ¬ (d.toNat : Int) ≤ 57 := by omega
        have a95 : ((d.toNat : Int) == 95) = false := beq_eq_false_iff_ne.2 (by omega)
        have hl : letX d.toNat = true := by unfold letX; simp; omega
        have hdg : digX d.toNat = false := by unfold digX; simp; omega
        have HN2 : Hid (∀ i, i < j + 1 → ¬ (letX (bt x i) = false ∧ (digX (bt x i) = false ∨ i = 0))) := HNX.out (fun h => by rw [hl] at h; cases h.1)
        clear hl hdg
        clear HBJ HNX
        go_wp2_with fail
        go_roundw
        case rel => exact ⟨j + 1, by go_num, by omega, HN2, by first | rfl | trivial⟩
        case measure => simp [intOf]; omega
      · have a97 : ¬ (97 : Int) ≤ (d.toNat : Int) := by omega
        have a122 : (d.toNat : Int) ≤ 122 := by omega
        have a65 : (65 : Int) ≤ (d.toNat : Int) := by omega
        have a90 : ¬ (d.toNat : Int) ≤ 90 := by omega
        have a48 : (48 : Int) ≤ (d.toNat : Int) := by omega
        have a57 : ¬ (d.toNat : Int) ≤ 57 := by omega
        have a95 : ((d.toNat : Int) == 95) = false := beq_eq_false_iff_ne.2 (by omega)
        have hl : letX d.toNat = false := by unfold letX; simp; omega
        have hdg : digX d.toNat = false := by unfold digX; simp; omega
        obtain rfl : q = false := HBJ.out ⟨hl, .inl hdg⟩
        clear hl hdg
        clear HNX HBJ
        go_wp2_with fail
        go_ret
        exact ⟨rfl, rfl⟩
      · have a97 : ¬ (97 : Int) ≤ (d.toNat : Int) := by omega
        have a122 : (d.toNat : Int) ≤ 122 := by omega
        have a65 : (65 : Int) ≤ (d.toNat : Int) := by omega
        have a90 : ¬ (d.toNat : Int) ≤ 90 := by omega
        have a48 : (48 : Int) ≤ (d.toNat : Int) := by omega
        have a57 : ¬ (d.toNat : Int) ≤ 57 := by omega
        have a95 : ((d.toNat : Int) == 95) = true := beq_iff_eq.2 (by omega)
        have hl : letX d.toNat = true := by unfold letX; simp; omega
        have hdg : digX d.toNat = false := by unfold digX; simp; omega
        have HN2 : Hid (∀ i, i < j + 1 → ¬ (letX (bt x i) = false ∧ (digX (bt x i) = false ∨ i = 0))) := HNX.out (fun h => by rw [hl] at h; cases h.1)
        clear hl hdg
        clear HBJ HNX
        go_wp2_with fail
        go_roundw
        case rel => exact ⟨j + 1, by go_num, by omega, HN2, by first | rfl | trivial⟩
        case measure => simp [intOf]; omega
      · have a97 : ¬ (97 : Int) ≤ (d.toNat : Int) := by omega
        have a122 : (d.toNat : Int) ≤ 122 := by omega
        have a65 : (65 : Int) ≤ (d.toNat : Int) := by omega
        have a90 : ¬ (d.toNat : Int) ≤ 90 := by omega
        have a48 : (48 : Int) ≤ (d.toNat : Int) := by omega
        have a57 : ¬ (d.toNat : Int) ≤ 57 := by omega
        have a95 : ((d.toNat : Int) == 95) = false := beq_eq_false_iff_ne.2 (by omega)
        have hl : letX d.toNat = false := by unfold letX; simp; omega
        have hdg : digX d.toNat = false := by unfold digX; simp; omega
        obtain rfl : q = false := HBJ.out ⟨hl, .inl hdg⟩
        clear hl hdg
        clear HNX HBJ
        go_wp2_with fail
        go_ret
        exact ⟨rfl, rfl⟩
      · have a97 : (97 : Int) ≤ (d.toNat : Int) := by omega
        have a122 : (d.toNat : Int) ≤ 122 := by omega
        have a65 : (65 : Int) ≤ (d.toNat : Int) := by omega
        have a90 : ¬ (d.toNat : Int) ≤ 90 := by omega
        have a48 : (48 : Int) ≤ (d.toNat : Int) := by omega
        have a57 : ¬ (d.toNat : Int) ≤ 57 := by omega
        have a95 : ((d.toNat : Int) == 95) = false := beq_eq_false_iff_ne.2 (by omega)
        have hl : letX d.toNat = true := by unfold letX; simp; omega
        have hdg : digX d.toNat = false := by unfold digX; simp; omega
        have HN2 : Hid (∀ i, i < j + 1 → ¬ (letX (bt x i) = false ∧ (digX (bt x i) = false ∨ i = 0))) := HNX.out (fun h => by rw [hl] at h; cases h.1)
        clear hl hdg
        clear HBJ HNX
        go_wp2_with fail
        go_roundw
        case rel => exact ⟨j + 1, by go_num, by omega, HN2, by first | rfl | trivial⟩
        case measure => simp [intOf]; omega
      · have a97 : (97 : Int) ≤ (d.toNat : Int) := by omega
        have a122 : ¬ (d.toNat : Int) ≤ 122 := by omega
        have a65 : (65 : Int) ≤ (d.toNat : Int) := by omega
        have a90 : ¬ (d.toNat : Int) ≤ 90 := by omega
        have a48 : (48 : Int) ≤ (d.toNat : Int) := by omega
        have a57 : ¬ (d.toNat : Int) ≤ 57 := by omega
        have a95 : ((d.toNat : Int) == 95) = false := beq_eq_false_iff_ne.2 (by omega)
        have hl : letX d.toNat = false := by unfold letX; simp; omega
        have hdg : digX d.toNat = false := by unfold digX; simp; omega
        obtain rfl : q = false := HBJ.out ⟨hl, .inl hdg⟩
        clear hl hdg
        clear HNX HBJ
        go_wp2_with fail
        go_ret
        exact ⟨rfl, rfl⟩
    · have j1 : ¬ (j : Int) < (x.length : Int) := by omega
      obtain rfl : j = x.length := by omega
      obtain rfl : q = true := HOK.out hno.out
      go_wp2_with fail
      go_ret
      exact ⟨rfl, rfl⟩
theorem results_rc (tmps : Array Value) (W : World) (a b : Value) (h : tmps.getD 2 undef = a ∧ tmps.getD 3 undef = b) : (results Tryz.f32 tmps).run Tryz.prog W = .ok (.tuple #[a, b]) W := by
  obtain ⟨h1, h2⟩ := h
  have h1' : tmps[2]?.getD undef = a := by simpa using h1
  have h2' : tmps[3]?.getD undef = b := by simpa using h2
  simp [results, h1', h2', go_sem]
set_option maxRecDepth 100000 in
set_option maxHeartbeats 8000000 in
theorem refCheck_any (L : List IFld) (o : Option Addr) (c : Nat) (w : World) (hL : L.length ≤ 281474976710656) (hx : ∀ f ∈ L, f.1.length ≤ 281474976710656) (hr : IRF w o L) :
    Calls Tryz.prog 32 #[.slice o L.length c] w fun e w' => e = .returned (.tuple #[.int .i64 (chkM L).1, .int .i64 (chkM L).2]) ∧ Below w.heap.size w w' := by
  by_cases hbig : 12 < L.length
  · have i1 : (12 : Int) < (L.length : Int) := by omega
    have hres : Hid (chkM L = (2, 0)) := by unfold Hid chkM; rw [if_pos hbig]
    clear hx hr
    go_enter Tryz.func32, Tryz.ntmps32
    go_wp2_with fail
    refine bodyPost_ret (results_rc _ _ _ _ ⟨rfl, rfl⟩) rfl ?_
    exact ⟨by rw [hres.out]; rfl, Below.refl _ _⟩
  have i1 : ¬ (12 : Int) < (L.length : Int) := by omega
  by_cases hz : L.length = 0
  · have i2 : (L.length : Int) = 0 := by omega
    have hres : Hid (chkM L = (40, 0)) := by unfold Hid chkM; rw [if_neg hbig, if_pos hz]
    clear hx hr hbig
    go_enter Tryz.func32, Tryz.ntmps32
    go_wp2_with fail
    refine bodyPost_ret (results_rc _ _ _ _ ⟨rfl, rfl⟩) rfl ?_
    exact ⟨by rw [hres.out]; rfl, Below.refl _ _⟩
  have i2 : ((L.length : Int) == 0) = false := beq_eq_false_iff_ne.2 (by omega)
  obtain ⟨q, hq⟩ : ∃ q, chkL [] L = q := ⟨_, rfl⟩
  have HQM : Hid (chkM L = q) := by unfold Hid chkM; rw [if_neg hbig, if_neg hz, hq]
  have HQ : Hid (chkL (L.take 0) (L.drop 0) = q) := hq
  have HR : Hid (IRF w o L) := hr
  have HX : Hid (∀ f ∈ L, f.1.length ≤ 281474976710656) := hx
  clear hx hr hq
  go_enter Tryz.func32, Tryz.ntmps32
  go_wp2_with fail
  go_loopw [4, 5] (fun vs vk wr => ∃ (k : Nat) (s : Int), vk = .int .i64 k ∧ k ≤ L.length ∧ vs = .int .i64 s ∧ Hid (sumB (L.take k) = s) ∧ 0 ≤ s ∧ s ≤ 256 ∧ Hid (chkL (L.take k) (L.drop k) = q) ∧ Below w.heap.size w wr) (fun _ vk _ => L.length - (intOf vk).toNat)
  case atStart => exact ⟨0, 0, rfl, Nat.zero_le _, rfl, rfl, by omega, by omega, HQ, Below.refl _ _⟩
  case round =>
    clear HQ
    obtain ⟨k, s, rfl, hk, rfl, hsum, hs0, hs1, hrun, hB⟩ := hrel
    by_cases hlt : k < L.length
    · have j1 : (k : Int) < (L.length : Int) := by omega
      have j0 : (0 : Int) ≤ (k : Int) := by omega
      obtain ⟨f, hf⟩ : ∃ f, L[k]? = some f := ⟨_, List.getElem?_eq_getElem hlt⟩
      obtain ⟨g, o0, rfl, p0, p1⟩ := HR.out wr hB k f hf
      have hstep := hrun.out
      rw [chkL_step hf] at hstep
      have hxl := HX.out f (List.mem_of_getElem? hf)
      have hsn := take_snoc hf
      have hst := sumB_take hf
      rw [hsum.out] at hst
      have hBs := hB.size
      have hB2 : Below w.heap.size w (wr.alloc (Obj.cells #[.string ⟨f.1.toArray⟩, .int .i64 f.2] 51)) := hB.alloc hBs _
      have hbx : (wr.alloc (Obj.cells #[.string ⟨f.1.toArray⟩, .int .i64 f.2] 51)).heap[wr.heap.size]? = some (.cells #[.string ⟨f.1.toArray⟩, .int .i64 f.2] 51) := alloc_get _ _
      have hbad : badF (L.take k) f = (!sizB f || (!nmB f.1 || (decide (0 ≤ idxF (L.take k) f.1) || decide (256 < s + f.2)))) := by unfold badF; rw [hsn, hst]
      have HIX : Hid (0 ≤ idxF (L.take k) f.1 ↔ ∃ i h, i < k ∧ L[i]? = some h ∧ h.1 = f.1) := by
        unfold Hid
        rw [idxF_ge]
        constructor
        · rintro ⟨h, hm, he⟩
          obtain ⟨i, hi⟩ := List.getElem?_of_mem hm
          rw [List.getElem?_take] at hi
          split at hi
          · rename_i hik; exact ⟨i, h, hik, hi, he⟩
          · cases hi
        · rintro ⟨i, h, hik, hi, he⟩
          refine ⟨h, List.mem_of_getElem? (i := i) ?_, he⟩
          rw [List.getElem?_take, if_pos hik]
          exact hi
      obtain ⟨x, b⟩ := f
      simp only at p0 p1 HIX hbad hB2 hbx hst hxl
      have HN : ∀ W : World, Calls Tryz.prog 67 #[.string ⟨x.toArray⟩] W fun e w' => e = .returned (.bool (nameB x)) ∧ w' = W := fun W => refName_any x W hxl
      have HST : Hid (sumB (L.take (k + 1)) = s + b) := hst
      clear hrun hf hsn hxl hsum hst
      obtain ⟨V, hV⟩ : ∃ V, wr.alloc (Obj.cells #[.string ⟨x.toArray⟩, .int .i64 b] 51) = V := ⟨_, rfl⟩
      obtain ⟨S0, hS0⟩ : ∃ S, wr.heap.size = S := ⟨_, rfl⟩
      rw [hV] at hB2 hbx
      rw [hS0] at hbx
      have n0 : V.cell? ⟨S0, 0, none⟩ = some (.string ⟨x.toArray⟩) := cell_of_row _ _ 0 _ _ _ hbx
      have n1 : V.cell? ⟨S0, 1, none⟩ = some (.int .i64 b) := cell_of_row _ _ 1 _ _ _ hbx
      have HBX : Hid (V.heap[S0]? = some (.cells #[.string ⟨x.toArray⟩, .int .i64 b] 51)) := hbx
      have HFAIL : Hid (badF (L.take k) (x, b) = true → q = (40, (k : Int))) := fun h => by rw [h, if_pos rfl] at hstep; exact hstep.symm
      have HGO : Hid (badF (L.take k) (x, b) = false → chkL (L.take (k + 1)) (L.drop (k + 1)) = q) := fun h => by rw [h, if_neg (by decide)] at hstep; exact hstep
      have HBD : Hid (badF (L.take k) (x, b) = (!sizB (x, b) || (!nmB x || (decide (0 ≤ idxF (L.take k) x) || decide (256 < s + b))))) := hbad
      clear hbx hstep hbad
      cases hnm : nameB x with
      | false =>
        rw [hnm] at HN
        have HRES : Hid (q = (40, (k : Int))) := HFAIL.out (by rw [HBD.out]; simp [nmB, hnm])
        clear HFAIL HGO HBD HIX
        go_wp2_with fail
        refine (HN _).mono ?_
        rintro e W1 ⟨rfl, rfl⟩
        go_wp2_with fail
        refine bodyPost_ret (results_rc _ _ _ _ ⟨rfl, rfl⟩) rfl ?_
        exact ⟨by rw [HQM.out, HRES.out]; rfl, hB2⟩
      | true =>
        rw [hnm] at HN
        by_cases ea : x = [97, 110, 121]
        · have z1 : (x == [97, 110, 121]) = true := beq_iff_eq.2 ea
          have HRES : Hid (q = (40, (k : Int))) := HFAIL.out (by rw [HBD.out]; simp [nmB, ea])
          clear ea
          clear HFAIL HGO HBD HIX
          go_wp2_with fail
          refine (HN _).mono ?_
          rintro e W1 ⟨rfl, rfl⟩
          go_wp2_with fail
          refine bodyPost_ret (results_rc _ _ _ _ ⟨rfl, rfl⟩) rfl ?_
          exact ⟨by rw [HQM.out, HRES.out]; rfl, hB2⟩
        have z1 : (x == [97, 110, 121]) = false := beq_eq_false_iff_ne.2 ea
        by_cases en : x = [110, 111, 110, 101]
        · have z3 : (x == [110, 111, 110, 101]) = true := beq_iff_eq.2 en
          have HRES : Hid (q = (40, (k : Int))) := HFAIL.out (by rw [HBD.out]; simp [nmB, en])
          clear en
          clear HFAIL HGO HBD HIX
          go_wp2_with fail
          refine (HN _).mono ?_
          rintro e W1 ⟨rfl, rfl⟩
          go_wp2_with fail
          refine bodyPost_ret (results_rc _ _ _ _ ⟨rfl, rfl⟩) rfl ?_
          exact ⟨by rw [HQM.out, HRES.out]; rfl, hB2⟩
        have z3 : (x == [110, 111, 110, 101]) = false := beq_eq_false_iff_ne.2 en
        by_cases h1 : b < 1
        · have hns : ¬ 1 ≤ b := by omega
          have HRES : Hid (q = (40, (k : Int))) := HFAIL.out (by rw [HBD.out]; simp [sizB, hns])
          clear HFAIL HGO HBD HIX
          go_wp2_with fail
          refine (HN _).mono ?_
          rintro e W1 ⟨rfl, rfl⟩
          go_wp2_with fail
          refine bodyPost_ret (results_rc _ _ _ _ ⟨rfl, rfl⟩) rfl ?_
          exact ⟨by rw [HQM.out, HRES.out]; rfl, hB2⟩
        by_cases h2 : 32 < b
        · have hns : ¬ b ≤ 32 := by omega
          have HRES : Hid (q = (40, (k : Int))) := HFAIL.out (by rw [HBD.out]; simp [sizB, hns])
          clear HFAIL HGO HBD HIX
          go_wp2_with fail
          refine (HN _).mono ?_
          rintro e W1 ⟨rfl, rfl⟩
          go_wp2_with fail
          refine bodyPost_ret (results_rc _ _ _ _ ⟨rfl, rfl⟩) rfl ?_
          exact ⟨by rw [HQM.out, HRES.out]; rfl, hB2⟩
        have HB5 : Hid (badF (L.take k) (x, b) = (decide (0 ≤ idxF (L.take k) x) || decide (256 < s + b))) := by
          unfold Hid
          rw [HBD.out]
          have s1 : sizB (x, b) = true := by unfold sizB; simp; omega
          have s2 : nmB x = true := by unfold nmB; rw [hnm, z1, z3]; rfl
          rw [s1, s2]
          rfl
        clear HBD ea en
        go_wp2_with fail
        refine (HN _).mono ?_
        rintro e W1 ⟨rfl, rfl⟩
        go_wp2_with fail
        go_loopw [8] (fun vj wi => ∃ j : Nat, vj = .int .i64 j ∧ j ≤ k ∧ Hid (∀ i h, i < j → L[i]? = some h → h.1 ≠ x) ∧ Below W1.heap.size W1 wi) (fun vj _ => k - (intOf vj).toNat)
        case atStart => exact ⟨0, rfl, Nat.zero_le _, fun i h hi => by omega, Below.refl _ _⟩
        case round =>
          obtain ⟨j, rfl, hj, hno, hBi⟩ := hrel
          have hBw := bel0 hB2 hBi
          by_cases hjk : j < k
          · have q1 : (j : Int) < (k : Int) := by omega
            have q0 : (0 : Int) ≤ (j : Int) := by omega
            have q2 : (j : Int) < (L.length : Int) := by omega
            obtain ⟨h, hh⟩ : ∃ h, L[j]? = some h := ⟨_, List.getElem?_eq_getElem (by omega)⟩
            have XH : Hid (∀ W : World, Below W1.heap.size W1 W → W.cell? ⟨g, o0 + j * 2, none⟩ = some (.string ⟨h.1.toArray⟩)) := fun W hW => by
              obtain ⟨g2, q2, e1, e2, -⟩ := HR.out W (bel0 hB2 hW) j h hh
              injection e1 with e1
              injection e1 with e1 e3
              subst e1 e3
              exact e2
            have XX : Hid (∀ W : World, Below W1.heap.size W1 W → W.cell? ⟨S0, 0, none⟩ = some (.string ⟨x.toArray⟩)) := fun W hW => cell_of_row _ _ 0 _ _ _ (keepblk hW HBX.out)
            have HEQ : Hid (h.1 = x → q = (40, (k : Int))) := fun e => HFAIL.out (by rw [HB5.out, decide_eq_true (HIX.out.2 ⟨j, h, hjk, hh, e⟩)]; rfl)
            have HNX : Hid (h.1 ≠ x → ∀ i h, i < j + 1 → L[i]? = some h → h.1 ≠ x) := fun hne i h' hi hh' => by
              rcases Nat.lt_or_ge i j with h1 | h1
              · exact hno.out i h' h1 hh'
              · obtain rfl : i = j := by omega
                rw [hh] at hh'
                rw [← Option.some.inj hh']
                exact hne
            obtain ⟨y, bb⟩ := h
            simp only at XH HEQ HNX
            clear hh hno
            obtain ⟨e0, he0⟩ : ∃ e, (y == x) = e := ⟨_, rfl⟩
            go_wp2_with fail
            refine quiet_lit3 (C := fun W => Below W1.heap.size W1 W) (by kernel_rfl) (by kernel_rfl) (show Below _ _ _ from hBi.drew) ?_
            go_big_quiet_want
            go_big_quiet_op
            go_big_quiet_on
            go_big_quiet_want
            go_big_quiet_op
            go_big_quiet_on
            go_big_quiet_want
            refine ⟨.pointer (some ⟨g, o0 + j * 2, none⟩), fun W hW => ?_, ?_⟩
            · go_simp
            go_big_quiet_on
            simp only [Act.put, List.setIfInBounds_toArray, List.set_cons_zero, List.set_cons_succ]
            go_big_quiet_want
            refine ⟨.pointer (some ⟨g, o0 + j * 2, none⟩), fun W hW => ?_, ?_⟩
            · go_simp
            go_big_quiet_on
            simp only [Act.put, List.setIfInBounds_toArray, List.set_cons_zero, List.set_cons_succ]
            go_big_quiet_want
            refine ⟨.string ⟨y.toArray⟩, fun W hW => ?_, ?_⟩
            · have z0 := XH.out W hW
              go_simp
            go_big_quiet_on
            simp only [Act.put, List.setIfInBounds_toArray, List.set_cons_zero, List.set_cons_succ]
            go_big_quiet_want
            refine ⟨.pointer (some ⟨S0, 0, none⟩), fun W hW => ?_, ?_⟩
            · go_simp
            go_big_quiet_on
            simp only [Act.put, List.setIfInBounds_toArray, List.set_cons_zero, List.set_cons_succ]
            go_big_quiet_want
            refine ⟨.string ⟨x.toArray⟩, fun W hW => ?_, ?_⟩
            · have z0 := XX.out W hW
              go_simp
            go_big_quiet_on
            simp only [Act.put, List.setIfInBounds_toArray, List.set_cons_zero, List.set_cons_succ]
            go_big_quiet_want
            refine ⟨.bool e0, fun W hW => ?_, ?_⟩
            · go_simp
            go_big_quiet_on
            simp only [Act.put, List.setIfInBounds_toArray, List.set_cons_zero, List.set_cons_succ]
            refine wpQuiet_nil ?_
            intro W hW
            have hBW := bel0 hB2 hW
            cases e0 with
            | true =>
              have HRES : Hid (q = (40, (k : Int))) := HEQ.out (beq_iff_eq.1 he0)
              clear HEQ HNX he0
              go_wp2_with fail
              refine bodyPost_ret (results_rc _ _ _ _ ⟨rfl, rfl⟩) rfl ?_
              exact ⟨by rw [HQM.out, HRES.out]; rfl, hBW⟩
            | false =>
              have HN2 : Hid (∀ i h, i < j + 1 → L[i]? = some h → h.1 ≠ x) := HNX.out (beq_eq_false_iff_ne.1 he0)
              clear HEQ HNX he0
              go_wp2_with fail
              go_roundw
              case rel => exact ⟨j + 1, by go_num, by omega, HN2, hW⟩
              case measure => simp [intOf]; omega
          · have q1 : ¬ (j : Int) < (k : Int) := by omega
            obtain rfl : j = k := by omega
            have hix : decide (0 ≤ idxF (L.take j) x) = false := by
              rw [decide_eq_false_iff_not, HIX.out]
              rintro ⟨i, h, hi, hh, he⟩
              exact hno.out i h hi hh he
            have c1 : wr.cell? ⟨S0, 1, none⟩ = some (.int .i64 b) := cell_of_row _ _ 1 _ _ _ (keepblk hBi HBX.out)
            have hBw2 := bel0 hB2 hBi
            have e1 : IntKind.i64.wrap (s + b) = s + b := by rw [IntKind.wrap_i64]; omega
            by_cases h256 : 256 < s + b
            · have HRES : Hid (q = (40, (j : Int))) := HFAIL.out (by rw [HB5.out, hix, decide_eq_true h256]; rfl)
              clear hix hno HB5
              go_wp2_with fail
              refine bodyPost_ret (results_rc _ _ _ _ ⟨rfl, rfl⟩) rfl ?_
              exact ⟨by rw [HQM.out, HRES.out]; rfl, hBw2⟩
            · have HG2 : Hid (chkL (L.take (j + 1)) (L.drop (j + 1)) = q) := HGO.out (by rw [HB5.out, hix, decide_eq_false h256]; rfl)
              clear hix hno HB5
              go_wp2_with fail
              go_roundw
              case rel => exact ⟨j + 1, s + b, by go_num, by omega, rfl, HST, by omega, by omega, HG2, hBw2⟩
              case measure => simp [intOf]; omega
    · have j1 : ¬ (k : Int) < (L.length : Int) := by omega
      have HRES : Hid (q = (0, 0)) := by
        unfold Hid
        rw [← hrun.out, List.drop_eq_nil_of_le (by omega)]
        rfl
      clear hrun
      go_wp2_with fail
      refine bodyPost_ret (results_rc _ _ _ _ ⟨rfl, rfl⟩) rfl ?_
      exact ⟨by rw [HQM.out, HRES.out]; rfl, hB⟩
theorem info_fld : (Tryz.prog.info? 51).map (fun i => (i.zero, i.size, i.bytes)) = some (some (.agg #[.string ⟨#[]⟩, .int .i64 0]), 2, 24) := by kernel_rfl
def fels (L : List IFld) : List Value := L.flatMap fcel
theorem fels_snoc (L : List IFld) (f : IFld) : fels (L ++ [f]) = fels L ++ fcel f := by simp [fels]
theorem fels_at (L : List IFld) : ∀ (k : Nat) (f : IFld), L[k]? = some f → (fels L)[k * 2]? = some (.string ⟨f.1.toArray⟩) ∧ (fels L)[k * 2 + 1]? = some (.int .i64 f.2) := by
  induction L with
  | nil => intro k t h; simp at h
  | cons y L ih =>
    intro k t h
    cases k with
    | zero =>
      simp at h
      subst h
      exact ⟨rfl, rfl⟩
    | succ k =>
      have := ih k t (by simpa using h)
      rw [show (k + 1) * 2 = k * 2 + 2 by omega]
      exact this
theorem IRF_own {W : World} {B n : Nat} {o : Option Addr} {c : Nat} {L : List IFld} (h : W.ownsRow B 51 2 (.slice o n c) n (fels L)) (hn : L.length = n) : IRF W o L := fun W' hW k f hf => by
  have hk := (List.getElem?_eq_some_iff.1 hf).1
  obtain ⟨g, rfl⟩ := own_at h (by omega)
  obtain ⟨a0, a1⟩ := fels_at L k f hf
  have h2 := owns_below h hW
  exact ⟨g, 0, rfl, by rw [Nat.zero_add]; exact (h2.cellAt _ (by omega)).trans a0, by rw [Nat.zero_add]; exact (h2.cellAt _ (by omega)).trans a1⟩
set_option maxRecDepth 100000 in
theorem num_any (n : Int) (w : World) : Calls Tryz.prog 11 #[.int .i64 n] w fun e w' => e = .returned (.int .i64 n) ∧ w' = w := by
  go_enter Tryz.func11, Tryz.ntmps11
  go_wp2_with fail
  go_ret
  exact ⟨rfl, rfl⟩
set_option maxRecDepth 100000 in
set_option maxHeartbeats 2000000 in
theorem copyFields_any (L : List IFld) (o : Option Addr) (c : Nat) (w : World) (hL : L.length * 24 ≤ 140737488355328) (hr : IRF w o L) :
    Calls Tryz.prog 9 #[.slice o L.length c] w fun e w' => ∃ v, e = .returned v ∧ w'.ownsRow w.heap.size 51 2 v L.length (fels L) ∧ Below w.heap.size w w' := by
  obtain ⟨i0, hi, hz0, hz1, hz2⟩ := info_parts info_fld
  have HR : Hid (IRF w o L) := hr
  clear hr
  go_enter Tryz.func9, Tryz.ntmps9
  go_wp2_with fail
  go_loopw [3, 4] (fun v vk wr => ∃ k : Nat, vk = .int .i64 k ∧ k ≤ L.length ∧ wr.ownsRow w.heap.size 51 2 v k (fels (L.take k)) ∧ Below w.heap.size w wr) (fun _ vk _ => L.length - (intOf vk).toNat)
  case atStart => exact ⟨0, rfl, Nat.zero_le _, World.ownsRow_nil _ _ _ _, Below.refl _ _⟩
  case round =>
    obtain ⟨k, rfl, hk, hown, hB⟩ := hrel
    by_cases hlt : k < L.length
    · have j1 : (k : Int) < (L.length : Int) := by omega
      have j0 : (0 : Int) ≤ (k : Int) := by omega
      obtain ⟨f, hf⟩ : ∃ f, L[k]? = some f := ⟨_, List.getElem?_eq_getElem hlt⟩
      obtain ⟨g, o0, rfl, p0, p1⟩ := HR.out wr hB k f hf
      have HTK : Hid (fels (L.take (k + 1)) = fels (L.take k) ++ fcel f) := by unfold Hid; rw [← fels_snoc, take_snoc hf]
      obtain ⟨x, b⟩ := f
      simp only at p0 p1
      have hBs := hB.size
      obtain ⟨pv, cv, rfl⟩ := shapeP hown
      clear hf
      go_wp2_with (at_builtin; refine wpList_append_own _ rfl _ _ 22 rfl w.heap.size 51 i0 _ 2 24 Tryz.underlying22 hi hz0 hz1 hz2 rfl (by decide) _ _ _ rfl (hown.alloc _) ⟨wr.heap.size, 0, none⟩ 1 1 [.string ⟨x.toArray⟩, .int .i64 b] rfl rfl (World.news_of_block (cs := #[.string ⟨x.toArray⟩, .int .i64 b]) (t := 51) (fr := (0, 0)) (alloc_get _ _)) (by simp [Value.oneCell']) (by unfold maxLen; omega) (by omega) (by simp; omega) ?_; intro v5 w5 oB hg5 _)
      go_roundw
      case rel => exact ⟨k + 1, by go_num, by omega, by rw [HTK.out]; exact oB, (hB.alloc hBs _).grown hg5 (by simp; omega) (fun k e => (hown.lt k e).1)⟩
      case measure => simp [intOf]; omega
    · have j1 : ¬ (k : Int) < (L.length : Int) := by omega
      obtain rfl : k = L.length := by omega
      rw [List.take_length] at hown
      go_wp2_with fail
      go_ret
      exact ⟨_, rfl, hown, hB⟩
set_option maxRecDepth 100000 in
set_option maxHeartbeats 2000000 in
theorem unlike_any (L : List IFld) (o1 o2 : Option Addr) (c1 c2 : Nat) (w : World) (hL : L.length ≤ 281474976710656) (h1 : IRF w o1 L) (h2 : IRF w o2 L) :
    Calls Tryz.prog 13 #[.slice o1 L.length c1, .slice o2 L.length c2] w fun e w' => e = .returned (.bool false) ∧ Below w.heap.size w w' := by
  have x1 : Hid (IRF w o1 L) := h1
  have x2 : Hid (IRF w o2 L) := h2
  clear h1 h2
  go_enter Tryz.func13, Tryz.ntmps13
  go_wp2_with fail
  go_loopw [5] (fun i wr => ∃ k : Nat, k ≤ L.length ∧ i = .int .i64 k ∧ Below w.heap.size w wr) (fun i _ => L.length - (intOf i).toNat)
  case atStart => exact ⟨0, Nat.zero_le _, rfl, Below.refl _ _⟩
  case round =>
    obtain ⟨k, hk, rfl, hB⟩ := hrel
    by_cases hlt : k < L.length
    · have j1 : (k : Int) < (L.length : Int) := by omega
      have j0 : (0 : Int) ≤ (k : Int) := by omega
      obtain ⟨f, hf⟩ : ∃ f, L[k]? = some f := ⟨_, List.getElem?_eq_getElem hlt⟩
      obtain ⟨G1, Q1, rfl, -⟩ := x1.out w (Below.refl _ _) k f hf
      obtain ⟨G2, Q2, rfl, -⟩ := x2.out w (Below.refl _ _) k f hf
      have X1 : Hid (∀ W, Below w.heap.size w W → W.cell? ⟨G1, Q1 + k * 2, none⟩ = some (.string ⟨f.1.toArray⟩) ∧ W.cell? ⟨G1, Q1 + k * 2 + 1, none⟩ = some (.int .i64 f.2)) := fun W hW => by
        obtain ⟨g2, q2, e, h⟩ := x1.out W hW k f hf
        injection e with e
        injection e with e1 e2
        subst e1 e2
        exact h
      have X2 : Hid (∀ W, Below w.heap.size w W → W.cell? ⟨G2, Q2 + k * 2, none⟩ = some (.string ⟨f.1.toArray⟩) ∧ W.cell? ⟨G2, Q2 + k * 2 + 1, none⟩ = some (.int .i64 f.2)) := fun W hW => by
        obtain ⟨g2, q2, e, h⟩ := x2.out W hW k f hf
        injection e with e
        injection e with e1 e2
        subst e1 e2
        exact h
      obtain ⟨x, b⟩ := f
      simp only at X1 X2
      clear x1 x2 hf
      go_wp2_with fail
      refine quiet_lit3 (C := fun W => Below w.heap.size w W) (by kernel_rfl) (by kernel_rfl) (show Below _ _ _ from hB.drew) ?_
      go_big_quiet_want
      go_big_quiet_op
      go_big_quiet_on
      go_big_quiet_want
      go_big_quiet_op
      go_big_quiet_on
      go_big_quiet_want
      refine ⟨.pointer (some ⟨G1, Q1 + k * 2, none⟩), fun W hW => ?_, ?_⟩
      · go_simp
      go_big_quiet_on
      simp only [Act.put, List.setIfInBounds_toArray, List.set_cons_zero, List.set_cons_succ]
      go_big_quiet_want
      refine ⟨.agg #[.string ⟨x.toArray⟩, .int .i64 b], fun W hW => ?_, ?_⟩
      · obtain ⟨z0, z1⟩ := X1.out W hW
        go_simp
      go_big_quiet_on
      simp only [Act.put, List.setIfInBounds_toArray, List.set_cons_zero, List.set_cons_succ]
      go_big_quiet_want
      go_big_quiet_op
      go_big_quiet_on
      go_big_quiet_want
      go_big_quiet_op
      go_big_quiet_on
      go_big_quiet_want
      refine ⟨.pointer (some ⟨G2, Q2 + k * 2, none⟩), fun W hW => ?_, ?_⟩
      · go_simp
      go_big_quiet_on
      simp only [Act.put, List.setIfInBounds_toArray, List.set_cons_zero, List.set_cons_succ]
      go_big_quiet_want
      refine ⟨.agg #[.string ⟨x.toArray⟩, .int .i64 b], fun W hW => ?_, ?_⟩
      · obtain ⟨z0, z1⟩ := X2.out W hW
        go_simp
      go_big_quiet_on
      simp only [Act.put, List.setIfInBounds_toArray, List.set_cons_zero, List.set_cons_succ]
      go_big_quiet_want
      refine ⟨.bool false, fun W hW => ?_, ?_⟩
      · go_simp
      go_big_quiet_on
      simp only [Act.put, List.setIfInBounds_toArray, List.set_cons_zero, List.set_cons_succ]
      refine wpQuiet_nil ?_
      intro W hW
      go_wp2_with fail
      go_roundw
      case rel => exact ⟨k + 1, by omega, by go_num, hW⟩
      case measure => simp [intOf]; omega
    · have j1 : ¬ (k : Int) < (L.length : Int) := by omega
      go_wp2_with fail
      go_ret
      exact ⟨rfl, hB⟩
end Go.Proofs.YtepokgainceidaaGreatDoor
