import Derived.Test.YtfhghplplkkpmaaGreatDoorXE2
import Derived.Test.YtfhghplplkkpmaaGreatDoorXE1
import Derived.Test.YtfhghplplkkpmaaGreatDoorXC6
import Derived.Test.YtfhghplplkkpmaaGreatDoorXC5
import Derived.Test.YtfhghplplkkpmaaGreatDoorXBK
import Derived.Test.YtfhghplplkkpmaaGreatDoorXBI
namespace Go.Proofs.YtfhghplplkkpmaaGreatDoor
open Go.RowKit Go.Shelf
theorem pr_faI (b : Int) (l : List UInt8) : FO (prT b l) := by
  have hA : FA (prT b l) := fun t ht => by
    obtain ⟨h0, h1, h2, -, -⟩ := prT_ft b l t ht
    refine ⟨h0, fun e => ?_⟩
    rw [e] at h1
    simp at h1
    omega
  refine ⟨hA, ?_⟩
  have h := prT_fix b l
  rw [stl_id _ (fun t ht => (hA t ht).1)] at h
  exact h
theorem pr_wfI (b : Int) (l : List UInt8) : WFS b (prT b l) := by
  refine ⟨prT_fix b l, fun t ht => ?_⟩
  obtain ⟨-, h1, h2, h3, -⟩ := prT_ft b l t ht
  exact ⟨h1, h2, h3, ((prT_ok b l).1 t ht).1⟩
theorem fo_sd {X : List (List UInt8 × List (List UInt8))} (h : FO X) : ∀ t ∈ X, Sd t := fun t ht => by
  have h := h.1 t ht
  exact ⟨by rw [sof_self h.1]; exact h.1, h.2⟩
theorem fo_ord {X : List (List UInt8 × List (List UInt8))} (h : FO X) : ordT X = X := by
  have h := h.2
  rw [← h, ordT_id]
theorem rwd_of {W : World} {q : Option Addr} {n : Nat} (h : RST W q n) : ∃ D, D.length = n ∧ RWD W q D := by
  have h1 : ∀ i : Fin n, ∃ x : List UInt8, ∃ ad : Addr, q = some ad ∧ W.cell? (ad.add i.1) = some (.string ⟨x.toArray⟩) ∧ x.length ≤ maxLen := fun i => by
    obtain ⟨ad, x, e1, e2, e3⟩ := h W (Below.refl _ _) i.1 i.2
    exact ⟨x, ad, e1, e2, e3⟩
  obtain ⟨f, hf⟩ := Classical.axiomOfChoice h1
  refine ⟨List.ofFn f, by simp, fun X hX i x hx => ?_⟩
  have hi : i < n := by
    have := (List.getElem?_eq_some_iff.1 hx).1
    simpa using this
  rw [List.getElem?_ofFn, dif_pos hi] at hx
  obtain rfl := Option.some.inj hx
  obtain ⟨ad, e1, e2, e3⟩ := hf ⟨i, hi⟩
  exact ⟨ad, e1, (hX.cell (World.block_lt_of_cell? W _ e2)).trans e2, e3⟩
theorem rst_ofI {w : World} {q : Option Addr} {len : Nat} {SL : List ByteArray} (hlen : SL.length = len) (hcell0 : ∀ i, i < len → ∃ ad, q = some ad ∧ w.cell? (ad.add i) = some (.string (SL.getD i ByteArray.empty))) (hsz0 : ∀ s ∈ SL, s.size ≤ maxLen) : RST w q len := fun X hX i hi => by
  obtain ⟨ad, e1, e2⟩ := hcell0 i hi
  have hi' : i < SL.length := by omega
  rw [List.getD_eq_getElem?_getD, List.getElem?_eq_getElem hi', Option.getD_some] at e2
  exact ⟨ad, SL[i].data.toList, e1, (hX.cell (World.block_lt_of_cell? w _ e2)).trans e2, hsz0 _ (List.getElem_mem hi')⟩
theorem ih_iff {b : Int} {n : Nat} (hb : b = (n : Int)) (x : List UInt8) : ihB b x = true ↔ x.length = n ∧ x.all digB = true := by
  unfold ihB
  rw [Bool.and_eq_true, beq_iff_eq]
  constructor
  · rintro ⟨h1, h2⟩
    exact ⟨by omega, h2⟩
  · rintro ⟨h1, h2⟩
    exact ⟨by omega, h2⟩
theorem al_iff {b : Int} {n : Nat} {l l' : List UInt8} (hb : b = (n : Int)) (h1 : prE b l = 0) (h2 : prE b l' = 0) (D : List (List UInt8)) : alD b l l' D = true ↔ ∀ x ∈ D, x.length = n → x.all digB = true → Dn x (prT b l) = true → Dn x (prT b l') = true := by
  unfold alD
  rw [List.all_eq_true]
  constructor
  · intro h x hx e1 e2 e3
    have h3 := h x hx
    rw [(ih_iff hb x).2 ⟨e1, e2⟩, sd_pr x h1, sd_pr x h2, e3] at h3
    simpa using h3
  · intro h x hx
    cases hi : ihB b x with
    | false => rfl
    | true =>
      obtain ⟨e1, e2⟩ := (ih_iff hb x).1 hi
      rw [sd_pr x h1, sd_pr x h2]
      cases hA : Dn x (prT b l) with
      | false => rfl
      | true =>
        rw [h x hx e1 e2 hA]
        rfl
theorem cub_all {b : Int} {n : Nat} (hb : b = (n : Int)) : cubeV (allX n) = .agg #[.int .i64 b, .int .u64 0, .int .u64 0, .int .u64 0, .int .u64 0, .int .u64 0, .int .u64 0, .int .u64 0, .int .u64 0] := by
  subst hb
  exact cubeV_all n
set_option maxRecDepth 100000 in
theorem inside_walk (b : Int) (l l' : List UInt8) (q : Option Addr) (len cap : Nat) (SL : List ByteArray) (w : World) (hl0 : l.length ≤ 281474976710656) (hl1 : l'.length ≤ 281474976710656) (hlen : SL.length = len) (hcell0 : ∀ i, i < len → ∃ ad, q = some ad ∧ w.cell? (ad.add i) = some (.string (SL.getD i ByteArray.empty))) (hsz0 : ∀ s ∈ SL, s.size ≤ maxLen) (hcap : len ≤ cap) :
    Calls Tryz.prog 3 #[.int .i64 b, .string ⟨l.toArray⟩, .string ⟨l'.toArray⟩, .slice q len cap] w fun e w' => e = .returned (.bool true) ∧ Below w.heap.size w w' := by
  have hla : l.length ≤ maxLen := by unfold maxLen; omega
  have hlb : l'.length ≤ maxLen := by unfold maxLen; omega
  have ok1 := prT_ok b l
  have ok2 := prT_ok b l'
  have fo1 := pr_faI b l
  have fo2 := pr_faI b l'
  have wd1 : ∀ t ∈ prT b l, t.1.length = b.toNat := fun t ht => by
    have := (prT_ft b l t ht).2.1
    omega
  have hbn : prE b l = 0 → b = ((b.toNat : Nat) : Int) ∧ 1 ≤ b.toNat ∧ b.toNat ≤ 256 := fun h => by
    obtain ⟨h1, h2, -⟩ := prE_zero h
    omega
  have hmn : prE b l = 0 → _ := fun h => mn_ok (b := b) (A := prT b l) (C := prT b l') (hbn h).1 (hbn h).2.1 fo1.1 fo2.1 wd1
  refine inside_core b l l' q len cap (fun W p n c => SPL W 0 (.slice p n c) (prT b l)) (fun W p n c => SPL W 0 (.slice p n c) (prT b l')) (fun W p n c => SPL W 0 (.slice p n c) [(allX b.toNat, [])]) (fun W p n c => SPL W 0 (.slice p n c) (mnT b b (prT b l) (prT b l')))
    (prB b l) (prB b l') (prE b l) (prE b l') (wnE b b 2048 (prT b l) (prT b l')) (mnB b b (prT b l) (prT b l')) (mnE b b (prT b l) (prT b l')) (wnE b b 2048 (mnT b b (prT b l) (prT b l')) (prT b l)) (wnE b b 2048 (mnT b b (prT b l) (prT b l')) (prT b l'))
    (wnB b b 2048 (prT b l) (prT b l')) (wnB b b 2048 (mnT b b (prT b l) (prT b l')) (prT b l)) (wnB b b 2048 (mnT b b (prT b l) (prT b l')) (prT b l'))
    awake_any ?hPa ?hPb (fun _ _ _ _ _ h hb => h.below hb) (fun _ _ _ _ _ h hb => h.below hb) (fun _ _ _ _ _ h hb => h.below hb) (fun _ _ _ _ _ h hb => h.below hb) ?hB ?hW1 ?hHd ?hIn ?hIH (fun W x hx => said_any l x W hl0 hx) (fun W x hx => said_any l' x W hl1 hx) ?hAl ?hOf ?hW2 ?hMe ?hmE ?hW3 ?hW4 w (rst_ofI hlen hcell0 hsz0)
  case hPa =>
    intro W
    have h := sParse_any b l W hla
    unfold PRS at h
    refine h.mono ?_
    rintro e w' ⟨V, rfl, sv, hb⟩
    obtain ⟨p, c, rfl⟩ := sv.shape
    exact ⟨p, _, c, rfl, sv.base (Nat.zero_le _), hb⟩
  case hPb =>
    intro W
    have h := sParse_any b l' W hlb
    unfold PRS at h
    refine h.mono ?_
    rintro e w' ⟨V, rfl, sv, hb⟩
    obtain ⟨p, c, rfl⟩ := sv.shape
    exact ⟨p, _, c, rfl, sv.base (Nat.zero_le _), hb⟩
  case hB => exact fun h1 h2 => ⟨by unfold prB; rw [if_pos h1], by unfold prB; rw [if_pos h2]⟩
  case hW1 => exact fun _ _ W p n c p' n' c' h1 h2 => sWithin_any b b 2048 _ _ _ _ W h1 h2 ok1.2 ok2.2 ok1.1 ok2.1 (fun t ht => (fo1.1 t ht).1) (fo_ord fo1) (fo_sd fo1)
  case hHd =>
    intro W hr
    by_cases h8 : 1 ≤ b ∧ b ≤ 8
    · have hb : b = ((b.toNat : Nat) : Int) := by omega
      have h9 : b.toNat ≤ 8 := by omega
      have h := headersX b.toNat (by omega) h9 q len cap W
      rw [← hb] at h
      refine h.mono ?_
      rintro e w' ⟨p, c, rfl, ho, hbl⟩
      refine ⟨p, _, c, hdL b.toNat (2 ^ b.toNat), rfl, Nat.pow_le_pow_right (by omega) h9, hdL_len _ _, fun X hX i x hx => ?_, fun _ _ x hx => ?_, hbl⟩
      · obtain ⟨g, o0, rfl, hc⟩ := IRSt_own ho (hdL_len _ _) X hX i x hx
        refine ⟨⟨g, o0, none⟩, rfl, by rw [add_plain]; exact hc, ?_⟩
        obtain ⟨k, -, rfl⟩ := List.mem_map.1 (List.mem_of_getElem? hx)
        rw [hdT_len]
        unfold maxLen
        omega
      · obtain ⟨e1, e2⟩ := (ih_iff hb x).1 hx
        exact List.mem_of_getElem? (hdL_mem e1 e2)
    · refine (hdr_low b q len cap W (by omega) hcap hr).mono ?_
      rintro e w' ⟨q', n', c', rfl, hn', hr', hb⟩
      obtain ⟨D, hD, hrw⟩ := rwd_of hr'
      exact ⟨q', n', c', D, rfl, hn', hD, hrw, fun h1 h2 => absurd ⟨h1, h2⟩ h8, hb⟩
  case hIn =>
    intro h1 h2
    obtain ⟨e1, e2, e3⟩ := hbn h1
    have hw := wn_ok (lim := 2048) (C := prT b l') e1 e2 (by omega) fo1.1 ok2.1 wd1
    refine ⟨hw.1, fun e => hw.2.1 (by rw [e]; decide), fun D hD => ⟨fun g0 i0 => ?_, fun g0 h8 => ?_⟩⟩
    · exact (al_iff e1 h1 h2 D).2 (fun x _ a1 a2 a3 => (hw.2.2 g0).1 i0 x a1 a2 a3)
    · rw [Bool.eq_iff_iff, hw.2.2 g0, al_iff e1 h1 h2 D]
      exact ⟨fun h x _ => h x, fun h x a1 a2 a3 => h x (hD (by omega) h8 x ((ih_iff e1 x).2 ⟨a1, a2⟩)) a1 a2 a3⟩
  case hIH =>
    intro W x hx
    exact isHeader_any b ⟨x.toArray⟩ W (by simpa [ByteArray.size] using hx)
  case hAl =>
    intro h1 W
    obtain ⟨e1, e2, e3⟩ := hbn h1
    have h := all_any b W
    rw [if_pos (by omega), show List.replicate b.toNat (120 : UInt8) = allX b.toNat from rfl, cub_all e1] at h
    exact h
  case hOf =>
    intro h1 W
    obtain ⟨e1, e2, e3⟩ := hbn h1
    have hl : (allX b.toNat).length = b.toNat := by simp [allX]
    have h : Calls Tryz.prog 10 #[cubeV (allX b.toNat), .slice none 0 0] W _ := sOfG (allX b.toNat) W (good_allX e3) (fun e => by rw [e] at hl; simp at hl; omega)
    rw [cub_all e1] at h
    refine h.mono ?_
    rintro e w' ⟨p, k, rfl, sv, hb⟩
    rw [hl, ← e1]
    exact ⟨p, 1, k, rfl, sv, hb⟩
  case hW2 =>
    intro h1 W p n c p' n' c' hs hu
    obtain ⟨e1, e2, e3⟩ := hbn h1
    have h := sWithin_any b b 0 (prT b l) [(allX b.toNat, [])] _ _ W hs hu ok1.2 (by rw [(one_form _).2.2.2]; decide) ok1.1 (fun t ht => by rw [List.mem_singleton] at ht; subst ht; exact ⟨good_allX e3, fun x hx => by cases hx⟩) (fun t ht => (fo1.1 t ht).1) (fo_ord fo1) (fo_sd fo1)
    obtain ⟨a1, a2⟩ := wn_all e1 e2 fo1.1 wd1 ok1.2
    rw [a1, a2] at h
    exact h
  case hMe =>
    intro h1 h2 W p n c p' n' c' hs ht
    refine (sMeet_any b b _ _ 0 0 _ _ W hs ht ok1.2 ok2.2 ok1.1 ok2.1 (pr_wfI b l) (pr_wfI b l')).mono ?_
    rintro e w' ⟨V, rfl, sv, hb⟩
    obtain ⟨p, c, rfl⟩ := sv.shape
    exact ⟨p, _, c, rfl, sv, hb⟩
  case hmE => exact fun h1 _ => (hmn h1).1
  case hW3 =>
    intro h1 h2 h3
    obtain ⟨e1, e2, e3⟩ := hbn h1
    obtain ⟨mb, fo, sz, wd, dn⟩ := (hmn h1).2 h3
    have hw := wn_ok (lim := 2048) (C := prT b l) e1 e2 (by omega) fo.1 ok1.1 wd
    refine ⟨fun e => (hw.2.2 e).2 (fun h _ _ hM => by rw [dn, Bool.and_eq_true] at hM; exact hM.1), ?_⟩
    intro W p n c p' n' c' hm hs
    rw [mb]
    exact sWithin_any b b 2048 _ _ _ _ W hm hs sz ok1.2 (FA_gdC fo.1) ok1.1 (fun t ht => (fo.1 t ht).1) (fo_ord fo) (fo_sd fo)
  case hW4 =>
    intro h1 h2 h3
    obtain ⟨e1, e2, e3⟩ := hbn h1
    obtain ⟨mb, fo, sz, wd, dn⟩ := (hmn h1).2 h3
    have hw := wn_ok (lim := 2048) (C := prT b l') e1 e2 (by omega) fo.1 ok2.1 wd
    refine ⟨fun e => (hw.2.2 e).2 (fun h _ _ hM => by rw [dn, Bool.and_eq_true] at hM; exact hM.2), ?_⟩
    intro W p n c p' n' c' hm hs
    rw [mb]
    exact sWithin_any b b 2048 _ _ _ _ W hm hs sz ok2.2 (FA_gdC fo.1) ok2.1 (fun t ht => (fo.1 t ht).1) (fo_ord fo) (fo_sd fo)
end Go.Proofs.YtfhghplplkkpmaaGreatDoor
