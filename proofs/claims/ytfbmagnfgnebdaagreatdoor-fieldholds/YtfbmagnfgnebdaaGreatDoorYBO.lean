import Derived.Test.YtfbmagnfgnebdaaGreatDoorYBN
import Derived.Test.YtfbmagnfgnebdaaGreatDoorYBC
namespace Go.Proofs.YtfbmagnfgnebdaaGreatDoor
open Go.RowKit Go.Shelf
theorem meet_h : ∀ (c : List UInt8) (k : Nat), k = c.length → Tn.meetT (List.replicate k 120) c = c
  | [], k, _ => by unfold Tn.meetT; simp
  | d :: c, 0, h => by simp at h
  | d :: c, k + 1, h => by
    have := meet_h c k (by simpa using h)
    unfold Tn.meetT at this ⊢
    rw [List.replicate_succ, List.zipWith_cons_cons, this]
    rfl
theorem pcT_h {n k : Nat} {c : List UInt8} {d : UInt8} (hl : c.length = n) (hk : c[k]? = some d) : Tn.pcT (List.replicate n 120) c k = c.take k ++ [Tn.oth d] ++ List.replicate (n - k - 1) 120 := by
  obtain ⟨h1, h2⟩ := List.getElem?_eq_some_iff.1 hk
  unfold Tn.pcT Tn.rsT
  rw [List.take_replicate, Nat.min_eq_left (by omega), meet_h (c.take k) k (by rw [List.length_take]; omega), List.drop_replicate]
  have hg : c.getD k 0 = d := by simp [List.getD, hk]
  have hlen : (c.take k).length = k := by rw [List.length_take]; omega
  rw [hg, List.set_append_right _ _ (by omega), hlen, Nat.sub_self]
  obtain ⟨m, hm⟩ : ∃ m, n - k = m + 1 := ⟨n - k - 1, by omega⟩
  rw [hm, List.replicate_succ, List.set_cons_zero, Nat.add_sub_cancel, List.append_assoc]
  rfl
theorem pcs_h {n k : Nat} {c : List UInt8} {d : UInt8} (hl : c.length = n) (hk : c[k]? = some d) : Tn.pcs (List.replicate n 120) c (k + 1) = Tn.pcs (List.replicate n 120) c k ++ (if d = 120 then [] else [c.take k ++ [Tn.oth d] ++ List.replicate (n - k - 1) 120]) := by
  obtain ⟨h1, h2⟩ := List.getElem?_eq_some_iff.1 hk
  have hq := Tn.qual_bytes (List.replicate n 120) c (by rw [List.length_replicate, hl]) k (by rw [List.length_replicate]; omega)
  rw [h2, List.getElem_replicate] at hq
  rw [Tn.pcs, hq, pcT_h hl hk]
  congr 1
  by_cases e : d = 120
  · rw [if_pos e, e]
    rfl
  · rw [if_neg e, if_pos]
    simpa using e
theorem put_h {n p b : Nat} {D : List UInt8} (hD : D.length = b) (h : p + b ≤ n) : putL (List.replicate n 120) p D = List.replicate p 120 ++ D ++ List.replicate (n - p - b) 120 := by
  have e : List.replicate n (120 : UInt8) = List.replicate p 120 ++ (List.replicate b 120 ++ List.replicate (n - p - b) 120) := by
    rw [List.replicate_append_replicate, List.replicate_append_replicate]
    congr 1
    omega
  have := putL_mid D (List.replicate p 120) (List.replicate b 120) (List.replicate (n - p - b) 120) (by rw [List.length_replicate, hD])
  rw [List.length_replicate] at this
  rw [e, this, List.append_assoc]
/-- a header is in the cube of this text -/
def hasT : List UInt8 → List UInt8 → Bool
  | [], [] => true
  | c :: C, d :: D => (c == 120 || c == d) && hasT C D
  | [], _ :: _ => false
  | _ :: _, [] => false
theorem hasT_app : ∀ (A A' B B' : List UInt8), A.length = A'.length → hasT (A ++ B) (A' ++ B') = (hasT A A' && hasT B B')
  | [], [], B, B', _ => by rw [hasT, Bool.true_and]; rfl
  | a :: A, a' :: A', B, B', h => by
    rw [List.cons_append, List.cons_append, hasT, hasT, hasT_app A A' B B' (by simpa using h), Bool.and_assoc]
  | [], _ :: _, _, _, h => by simp at h
  | _ :: _, [], _, _, h => by simp at h
theorem hasT_x : ∀ (n : Nat) (h : List UInt8), h.length = n → hasT (List.replicate n 120) h = true
  | 0, [], _ => rfl
  | 0, _ :: _, h => by simp at h
  | n + 1, [], h => by simp at h
  | n + 1, d :: D, h => by
    rw [List.replicate_succ, hasT, hasT_x n D (by simpa using h)]
    rfl
theorem has_put {n p b : Nat} {D h : List UInt8} (hD : D.length = b) (hp : p + b ≤ n) (hn : h.length = n) : hasT (putL (List.replicate n 120) p D) h = hasT D (subL h p (p + b)) := by
  have e : h = h.take p ++ (subL h p (p + b) ++ h.drop (p + b)) := by
    unfold subL
    rw [Nat.add_sub_cancel_left, ← List.drop_drop, List.take_append_drop, List.take_append_drop]
  have hl : (subL h p (p + b)).length = b := by
    unfold subL
    rw [List.length_take, List.length_drop]
    omega
  rw [put_h hD hp, List.append_assoc]
  conv => lhs; rw [e]
  rw [hasT_app _ _ _ _ (by rw [List.length_replicate, List.length_take]; omega), hasT_app _ _ _ _ (by rw [hD, hl]), hasT_x _ _ (by rw [List.length_take]; omega), hasT_x _ _ (by rw [List.length_drop]; omega), Bool.true_and, Bool.and_true]
/-- how many cubes have a header -/
def cntT (P : List (List UInt8)) (h : List UInt8) : Nat := (P.filter fun c => hasT c h).length
theorem cntT_app (P Q : List (List UInt8)) (h : List UInt8) : cntT (P ++ Q) h = cntT P h + cntT Q h := by
  unfold cntT
  rw [List.filter_append, List.length_append]
theorem cntT_put {n p b : Nat} {h : List UInt8} (hp : p + b ≤ n) (hn : h.length = n) : ∀ P : List (List UInt8), (∀ x ∈ P, x.length = b) → cntT (P.map (putL (List.replicate n 120) p)) h = cntT P (subL h p (p + b))
  | [], _ => rfl
  | x :: P, hx => by
    have ih := cntT_put hp hn P (fun y hy => hx y (by simp [hy]))
    have e := has_put (hx x (by simp)) hp hn
    unfold cntT at ih ⊢
    rw [List.map_cons, List.filter_cons, List.filter_cons, e]
    split
    · rw [List.length_cons, List.length_cons, ih]
    · exact ih
theorem cnt_spl {b : Nat} {c h : List UInt8} (hc : c.length = b) (hh : h.length = b) (hg : c.all Tn.tri = true) (h01 : h.all dg01 = true) : ∀ k, k ≤ b → cntT (Tn.pcs (List.replicate b 120) c k) h = if hasT (c.take k) (h.take k) = true then 0 else 1
  | 0, _ => by simp [Tn.pcs, cntT, hasT]
  | k + 1, hk => by
    have ih := cnt_spl hc hh hg h01 k (by omega)
    obtain ⟨d, hd⟩ : ∃ d, c[k]? = some d := ⟨_, List.getElem?_eq_getElem (by omega)⟩
    obtain ⟨e, he⟩ : ∃ e, h[k]? = some e := ⟨_, List.getElem?_eq_getElem (by omega)⟩
    have hd3 := List.all_eq_true.1 hg d (List.mem_of_getElem? hd)
    have he2 := List.all_eq_true.1 h01 e (List.mem_of_getElem? he)
    have hlen : (c.take k).length = (h.take k).length := by rw [List.length_take, List.length_take]; omega
    rw [pcs_h hc hd, cntT_app, ih, List.take_add_one, List.take_add_one, hd, he, Option.toList_some, Option.toList_some, hasT_app _ _ _ _ hlen]
    have h1 : hasT [d] [e] = (d == 120 || d == e) := by rw [hasT, hasT, Bool.and_true]
    rw [h1]
    by_cases dx : d = 120
    · rw [if_pos dx, dx]
      simp [cntT]
    · rw [if_neg dx]
      have hsp : h = h.take k ++ ([e] ++ h.drop (k + 1)) := by
        obtain ⟨h3, h4⟩ := List.getElem?_eq_some_iff.1 he
        rw [← h4, List.singleton_append, ← List.drop_eq_getElem_cons h3, List.take_append_drop]
      have hP : hasT (c.take k ++ [Tn.oth d] ++ List.replicate (b - k - 1) 120) h = (hasT (c.take k) (h.take k) && (Tn.oth d == e)) := by
        conv => lhs; rw [hsp]
        rw [List.append_assoc, hasT_app _ _ _ _ hlen, hasT_app [Tn.oth d] [e] _ _ (by rfl), hasT_x _ _ (by rw [List.length_drop]; omega), Bool.and_true, hasT, hasT, Bool.and_true]
        have : (Tn.oth d == 120) = false := by unfold Tn.oth; split <;> rfl
        rw [this, Bool.false_or]
      have hoth : (Tn.oth d == e) = !(d == e) := by
        unfold Tn.tri at hd3
        unfold dg01 at he2
        simp only [Bool.or_eq_true, beq_iff_eq] at hd3 he2
        rcases hd3 with (rfl | rfl) | rfl
        · rcases he2 with rfl | rfl <;> rfl
        · rcases he2 with rfl | rfl <;> rfl
        · exact absurd rfl dx
      have dxb : (d == 120) = false := by simpa using dx
      have hc1 : cntT [c.take k ++ [Tn.oth d] ++ List.replicate (b - k - 1) 120] h = if (hasT (c.take k) (h.take k) && !(d == e)) = true then 1 else 0 := by
        unfold cntT
        rw [List.filter_cons, hP, hoth]
        split <;> rfl
      rw [hc1, dxb, Bool.false_or]
      cases hasT (c.take k) (h.take k) <;> cases (d == e) <;> rfl
/-- a denied cube: the parts have a header just once if the cube has it not -/
theorem cnt_splX {b : Nat} {c h : List UInt8} (hc : c.length = b) (hh : h.length = b) (hg : c.all Tn.tri = true) (h01 : h.all dg01 = true) : cntT (splX b c) h = if hasT c h = true then 0 else 1 := by
  have := cnt_spl hc hh hg h01 b (Nat.le_refl _)
  rw [List.take_of_length_le (by omega), List.take_of_length_le (by omega)] at this
  exact this
end Go.Proofs.YtfbmagnfgnebdaaGreatDoor
namespace Go.Proofs.YtfbmagnfgnebdaaGreatDoor
open Go.RowKit Go.Shelf
theorem bitB_eq {b a v j : Nat} : bitB b a j = bitB b v j ↔ a / 2 ^ (b - 1 - j) % 2 = v / 2 ^ (b - 1 - j) % 2 := by
  unfold bitB
  rcases Nat.mod_two_eq_zero_or_one (a / 2 ^ (b - 1 - j)) with h | h <;> rcases Nat.mod_two_eq_zero_or_one (v / 2 ^ (b - 1 - j)) with h' | h' <;> rw [h, h'] <;> decide
theorem bits_eq {b a v f : Nat} (ha : a < 2 ^ b) (hv : v < 2 ^ b) (h : ∀ k, f ≤ k → k < b → a / 2 ^ k % 2 = v / 2 ^ k % 2) : a / 2 ^ f = v / 2 ^ f := by
  apply Nat.eq_of_testBit_eq
  intro i
  rw [Nat.testBit_eq_decide_div_mod_eq, Nat.testBit_eq_decide_div_mod_eq, Nat.div_div_eq_div_mul, Nat.div_div_eq_div_mul, ← Nat.pow_add]
  by_cases hk : f + i < b
  · rw [h (f + i) (by omega) hk]
  · have hp : 2 ^ b ≤ 2 ^ (f + i) := Nat.pow_le_pow_right (by decide) (by omega)
    rw [Nat.div_eq_of_lt (by omega), Nat.div_eq_of_lt (by omega)]
/-- a header is in a prefix just if its value is among the prefix's -/
theorem has_iff {b a f v : Nat} (hf : f ≤ b) (ha : 2 ^ f ∣ a) (hab : a < 2 ^ b) (hv : v < 2 ^ b) : (∀ j, j < b - f → bitB b a j = bitB b v j) ↔ (a ≤ v ∧ v < a + 2 ^ f) := by
  have hp : 0 < 2 ^ f := Nat.pow_pos (by decide)
  have hq : (∀ j, j < b - f → bitB b a j = bitB b v j) ↔ a / 2 ^ f = v / 2 ^ f := by
    constructor
    · intro h
      refine bits_eq hab hv (fun k h1 h2 => ?_)
      have := bitB_eq.1 (h (b - 1 - k) (by omega))
      rw [show b - 1 - (b - 1 - k) = k by omega] at this
      exact this
    · intro h j hj
      refine bitB_eq.2 ?_
      obtain ⟨d, hd⟩ : ∃ d, b - 1 - j = f + d := ⟨b - 1 - j - f, by omega⟩
      rw [hd, Nat.pow_add, ← Nat.div_div_eq_div_mul, ← Nat.div_div_eq_div_mul, h]
  rw [hq]
  obtain ⟨q, rfl⟩ := ha
  rw [Nat.mul_div_cancel_left _ hp]
  constructor
  · intro h
    have h1 := Nat.div_add_mod v (2 ^ f)
    have h2 := Nat.mod_lt v hp
    rw [← h] at h1
    omega
  · intro ⟨h1, h2⟩
    have h3 : q ≤ v / 2 ^ f := (Nat.le_div_iff_mul_le hp).2 (by rw [Nat.mul_comm]; exact h1)
    have h4 : v / 2 ^ f < q + 1 := (Nat.div_lt_iff_lt_mul hp).2 (by rw [Nat.add_mul, Nat.one_mul, Nat.mul_comm q]; exact h2)
    omega
theorem fre_dvd {a e : Nat} (h : a < 2 ^ 64) : 2 ^ fre a e ∣ a := by
  by_cases h0 : a = 0
  · subst h0; exact Nat.dvd_zero _
  · exact Nat.dvd_trans (Nat.pow_dvd_pow 2 (Nat.min_le_left _ _)) (cz_dvd h0 h)
/-- the prefixes one by one -/
theorem gr_at (e : Nat) (he : e < 2 ^ 33) : ∀ (i a : Nat) (p : Nat × Nat), (gr a e)[i]? = some p → p.2 = fre p.1 e ∧ a ≤ p.1 ∧ p.1 ≤ e ∧ 2 ^ p.2 ∣ p.1 ∧ p.1 + 2 ^ p.2 ≤ e + 1 := by
  intro i
  induction i with
  | zero =>
    intro a p h
    by_cases hle : a ≤ e
    · rw [gr_le hle] at h
      simp at h
      subst h
      have h1 := fre_le hle (by omega)
      exact ⟨rfl, Nat.le_refl _, hle, fre_dvd (by omega), by simp only; omega⟩
    · rw [gr_end hle] at h; simp at h
  | succ i ih =>
    intro a p h
    by_cases hle : a ≤ e
    · rw [gr_le hle] at h
      obtain ⟨h1, h2, h3⟩ := ih _ p (by simpa using h)
      exact ⟨h1, Nat.le_trans (Nat.le_add_right _ _) h2, h3⟩
    · rw [gr_end hle] at h; simp at h
/-- how many of them hold a value -/
def cnt (L : List (Nat × Nat)) (v : Nat) : Nat := (L.filter (fun p => decide (p.1 ≤ v ∧ v < p.1 + 2 ^ p.2))).length
theorem cnt_gr (e v : Nat) (he : e < 2 ^ 63) : ∀ (m a : Nat), e + 1 - a ≤ m → cnt (gr a e) v = if a ≤ v ∧ v ≤ e then 1 else 0 := by
  intro m
  induction m with
  | zero =>
    intro a h
    rw [gr_end (by omega), if_neg (by omega)]
    rfl
  | succ m ih =>
    intro a h
    by_cases hle : a ≤ e
    · have hp : 0 < 2 ^ fre a e := Nat.pow_pos (by decide)
      have hf := fre_le hle he
      have := ih (a + 2 ^ fre a e) (by omega)
      rw [gr_le hle]
      unfold cnt at this ⊢
      rw [List.filter_cons]
      by_cases hv : a ≤ v ∧ v < a + 2 ^ fre a e
      · rw [if_pos (decide_eq_true hv), List.length_cons, this, if_neg (by omega), if_pos (by omega)]
      · rw [if_neg (by rw [decide_eq_true_eq]; exact hv), this]
        by_cases h1 : a + 2 ^ fre a e ≤ v ∧ v ≤ e
        · rw [if_pos h1, if_pos (by omega)]
        · rw [if_neg h1, if_neg (by omega)]
    · rw [gr_end hle, if_neg (by omega)]
      rfl
theorem hasT_iff : ∀ (c h : List UInt8), c.length = h.length → (hasT c h = true ↔ ∀ (j : Nat) (x y : UInt8), c[j]? = some x → h[j]? = some y → x = 120 ∨ x = y)
  | [], [], _ => by simp [hasT]
  | a :: c, b :: h, hl => by
    rw [hasT, Bool.and_eq_true, hasT_iff c h (by simpa using hl), Bool.or_eq_true, beq_iff_eq, beq_iff_eq]
    constructor
    · rintro ⟨h1, h2⟩ j x y hx hy
      cases j with
      | zero =>
        simp at hx hy
        rw [← hx, ← hy]
        exact h1
      | succ j => exact h2 j x y (by simpa using hx) (by simpa using hy)
    · intro h1
      exact ⟨h1 0 a b rfl rfl, fun j x y hx hy => h1 (j + 1) x y (by simpa using hx) (by simpa using hy)⟩
  | [], _ :: _, h => by simp at h
  | _ :: _, [], h => by simp at h
theorem bit_ne (b v p : Nat) : bitB b v p ≠ 120 := by
  have := bitB_01k b v p
  intro e
  rw [e] at this
  exact absurd this (by decide)
theorem has_dig {b a f v : Nat} (hf : f ≤ b) (ha : 2 ^ f ∣ a) (hab : a < 2 ^ b) (hv : v < 2 ^ b) : hasT (digL b a f) (digL b v 0) = decide (a ≤ v ∧ v < a + 2 ^ f) := by
  rw [Bool.eq_iff_iff, decide_eq_true_eq, ← has_iff hf ha hab hv, hasT_iff _ _ (by rw [digL_len _ _ _ hf, digL_len _ _ _ (Nat.zero_le _)])]
  constructor
  · intro h j hj
    have h1 := digL_get b a f hf j (by omega)
    have h2 := digL_get b v 0 (Nat.zero_le _) j (by omega)
    rw [if_pos hj] at h1
    rw [if_pos (by omega)] at h2
    rcases h j _ _ h1 h2 with e | e
    · exact absurd e (bit_ne _ _ _)
    · exact e
  · intro h j x y hx hy
    have hj : j < b := by
      have := (List.getElem?_eq_some_iff.1 hx).1
      rw [digL_len _ _ _ hf] at this
      exact this
    rw [digL_get b a f hf j hj] at hx
    rw [digL_get b v 0 (Nat.zero_le _) j hj, if_pos (by omega)] at hy
    by_cases hjf : j < b - f
    · rw [if_pos hjf] at hx
      right
      rw [← Option.some.inj hx, ← Option.some.inj hy]
      exact h j hjf
    · rw [if_neg hjf] at hx
      exact .inl (Option.some.inj hx).symm
theorem cnt_of {b v : Nat} (hv : v < 2 ^ b) : ∀ L : List (Nat × Nat), (∀ p ∈ L, p.2 ≤ b ∧ 2 ^ p.2 ∣ p.1 ∧ p.1 < 2 ^ b) → cntT (L.map fun p => digL b p.1 p.2) (digL b v 0) = cnt L v
  | [], _ => rfl
  | p :: L, h => by
    have ih := cnt_of hv L (fun q hq => h q (by simp [hq]))
    obtain ⟨h1, h2, h3⟩ := h p (by simp)
    unfold cntT cnt at ih ⊢
    rw [List.map_cons, List.filter_cons, List.filter_cons, has_dig h1 h2 h3 hv]
    split
    · rw [List.length_cons, List.length_cons, ih]
    · exact ih
/-- a range: its prefixes have a value just once, if it lies in the range -/
theorem cnt_covI {b : Nat} {lo hi : Int} {v : Nat} (hb : b ≤ 32) (h0 : 0 ≤ lo) (hh : hi < ((2 ^ b : Nat) : Int)) (hv : v < 2 ^ b) : cntT (covI b lo hi) (digL b v 0) = if lo ≤ (v : Int) ∧ (v : Int) ≤ hi then 1 else 0 := by
  have hp : 2 ^ b ≤ 2 ^ 32 := Nat.pow_le_pow_right (by decide) hb
  unfold covI
  by_cases h : hi < lo
  · rw [if_pos h, if_neg (by omega)]
    rfl
  · rw [if_neg h]
    obtain ⟨l, rfl⟩ : ∃ z : Nat, lo = z := ⟨lo.toNat, by omega⟩
    obtain ⟨k, rfl⟩ : ∃ z : Nat, hi = z := ⟨hi.toNat, by omega⟩
    have hk : k < 2 ^ b := Int.ofNat_lt.1 hh
    rw [Int.toNat_natCast, Int.toNat_natCast, cov, cnt_of hv, cnt_gr k v (by omega) (k + 1 - l) l (Nat.le_refl _)]
    · congr 1
      simp only [eq_iff_iff]
      omega
    · intro p hp'
      obtain ⟨i, hi⟩ := List.getElem?_of_mem hp'
      have := gr_at k (by omega) i l p hi
      exact ⟨gr_free k b hk hb (k + 1 - l) l (Nat.le_refl _) p hp', this.2.2.2.1, by omega⟩
end Go.Proofs.YtfbmagnfgnebdaaGreatDoor
namespace Go.Proofs.YtfbmagnfgnebdaaGreatDoor
open Go.RowKit Go.Shelf
/-- a digit's bit -/
def b01 (c : UInt8) : Nat := if c = 49 then 1 else 0
theorem valF_app : ∀ (A B : List UInt8) (v : Nat), valF v (A ++ B) = valF (valF v A) B
  | [], B, v => rfl
  | c :: A, B, v => by
    rw [List.cons_append, valF, valF]
    exact valF_app A B _
theorem valF_lin : ∀ (Y : List UInt8) (v : Nat), valF v Y = v * 2 ^ Y.length + valF 0 Y ∧ valF 0 Y < 2 ^ Y.length
  | [], v => ⟨by simp [valF], by simp [valF]⟩
  | c :: Y, v => by
    obtain ⟨h1, h2⟩ := valF_lin Y (2 * v + (if c = 49 then 1 else 0))
    obtain ⟨h3, -⟩ := valF_lin Y (2 * 0 + (if c = 49 then 1 else 0))
    rw [valF, valF, h1, h3, List.length_cons, Nat.pow_succ]
    obtain ⟨P, hP⟩ : ∃ P, 2 ^ Y.length = P := ⟨_, rfl⟩
    rw [hP] at h2 ⊢
    by_cases hc : c = 49
    · rw [if_pos hc, Nat.add_mul, Nat.mul_comm P 2, ← Nat.mul_assoc, Nat.mul_comm v 2]
      omega
    · rw [if_neg hc, Nat.add_mul, Nat.mul_comm P 2, ← Nat.mul_assoc, Nat.mul_comm v 2]
      omega
theorem bit01 {c : UInt8} (h : dg01 c = true) : UInt8.ofNat (48 + b01 c) = c := by
  unfold dg01 at h
  rw [Bool.or_eq_true, beq_iff_eq, beq_iff_eq] at h
  rcases h with rfl | rfl <;> rfl
/-- a text of digits is its number's digits -/
theorem digL_valF {Y : List UInt8} (h : Y.all dg01 = true) : digL Y.length (valF 0 Y) 0 = Y := by
  apply List.ext_getElem?
  intro j
  by_cases hj : j < Y.length
  · rw [digL_get _ _ _ (Nat.zero_le _) j hj, if_pos (by omega), List.getElem?_eq_getElem hj]
    have hc := List.all_eq_true.1 h Y[j] (List.getElem_mem hj)
    have e : Y = Y.take j ++ (Y[j] :: Y.drop (j + 1)) := by rw [← List.drop_eq_getElem_cons hj, List.take_append_drop]
    have hv : valF 0 Y = (2 * valF 0 (Y.take j) + b01 Y[j]) * 2 ^ (Y.length - 1 - j) + valF 0 (Y.drop (j + 1)) := by
      conv => lhs; rw [e]
      rw [valF_app, valF, (valF_lin (Y.drop (j + 1)) _).1, List.length_drop, show Y.length - (j + 1) = Y.length - 1 - j by omega]
      rfl
    have hlt := (valF_lin (Y.drop (j + 1)) 0).2
    rw [List.length_drop, show Y.length - (j + 1) = Y.length - 1 - j by omega] at hlt
    have hpos : 0 < 2 ^ (Y.length - 1 - j) := Nat.pow_pos (by decide)
    have hd : valF 0 Y / 2 ^ (Y.length - 1 - j) = 2 * valF 0 (Y.take j) + b01 Y[j] := by
      rw [hv, Nat.mul_comm, Nat.mul_add_div hpos, Nat.div_eq_of_lt hlt, Nat.add_zero]
    unfold bitB
    rw [hd]
    have hb : b01 Y[j] < 2 := by unfold b01; split <;> omega
    rw [show (2 * valF 0 (Y.take j) + b01 Y[j]) % 2 = b01 Y[j] by omega, bit01 hc]
  · rw [List.getElem?_eq_none (by rw [digL_len _ _ _ (Nat.zero_le _)]; omega), List.getElem?_eq_none (by omega)]
theorem valF_lt (Y : List UInt8) : valF 0 Y < 2 ^ Y.length := (valF_lin Y 0).2
theorem bitB_01 (b v p : Nat) : dg01 (bitB b v p) = true := by
  unfold bitB
  rcases (show v / 2 ^ (b - 1 - p) % 2 = 0 ∨ v / 2 ^ (b - 1 - p) % 2 = 1 by omega) with h | h <;> rw [h] <;> rfl
theorem digL_01 (b v : Nat) : (digL b v 0).all dg01 = true := by
  rw [← digL0, List.all_eq_true]
  intro c hc
  obtain ⟨p, -, rfl⟩ := List.mem_map.1 hc
  exact bitB_01 b v p
/-- when a list of fields is a layout -/
theorem chkL_of : ∀ (rest seen : List IFld), (∀ f ∈ rest, sizB f = true ∧ nmB f.1 = true) → (∀ f ∈ rest, ∀ g ∈ seen, g.1 ≠ f.1) → (rest.map (·.1)).Nodup → (∀ k, sumB (seen ++ rest.take k) ≤ 256) → chkL seen rest = (0, 0)
  | [], seen, _, _, _, _ => rfl
  | f :: r, seen, h1, h2, h3, h4 => by
    obtain ⟨s1, s2⟩ := h1 f (by simp)
    have hix : ¬ 0 ≤ idxF seen f.1 := by
      rw [idxF_ge]
      rintro ⟨g, hg, he⟩
      exact h2 f (by simp) g hg he
    have hw := h4 1
    rw [show (f :: r).take 1 = [f] from rfl] at hw
    have hb : badF seen f = false := by
      unfold badF
      rw [s1, s2, decide_eq_false hix, decide_eq_false (show ¬ 256 < sumB (seen ++ [f]) by omega)]
      rfl
    rw [List.map_cons, List.nodup_cons] at h3
    rw [chkL, hb, if_neg (by decide)]
    refine chkL_of r (seen ++ [f]) (fun g hg => h1 g (by simp [hg])) (fun g hg e he => ?_) h3.2 (fun k => ?_)
    · rcases List.mem_append.1 he with h | h
      · exact h2 g (by simp [hg]) e h
      · rw [List.mem_singleton.1 h]
        exact fun heq => h3.1 (by rw [heq]; exact List.mem_map_of_mem hg)
    · have := h4 (k + 1)
      rw [List.take_succ_cons] at this
      rw [List.append_assoc]
      exact this
theorem chk_of {L : List IFld} (h0 : 0 < L.length) (h12 : L.length ≤ 12) (h1 : ∀ f ∈ L, sizB f = true ∧ nmB f.1 = true) (h3 : (L.map (·.1)).Nodup) (h4 : sumB L ≤ 256) : chkM L = (0, 0) := by
  unfold chkM
  rw [if_neg (by omega), if_neg (by omega)]
  refine chkL_of L [] h1 (fun f hf g hg => by cases hg) h3 (fun k => ?_)
  have hb : ∀ f ∈ L, 0 ≤ f.2 ∧ f.2 ≤ 32 := fun f hf => by
    have := (h1 f hf).1
    unfold sizB at this
    simp only [Bool.and_eq_true, decide_eq_true_eq] at this
    omega
  have := sumB_take_le hb k
  rw [List.nil_append]
  omega
end Go.Proofs.YtfbmagnfgnebdaaGreatDoor
namespace Go.Proofs.YtfbmagnfgnebdaaGreatDoor
open Go.RowKit Go.Shelf
/-- all fields have bits -/
def posB (L : List IFld) : Prop := ∀ f ∈ L, 1 ≤ f.2 ∧ f.2 ≤ 32
theorem posB.tail {f : IFld} {L : List IFld} (h : posB (f :: L)) : posB L := fun g hg => h g (by simp [hg])
/-- values in range -/
def inR (L : List IFld) (V : List Int) : Prop := ∀ (k : Nat) (f : IFld) (v : Int), L[k]? = some f → V[k]? = some v → 0 ≤ v ∧ v ≤ ((2 ^ f.2.toNat - 1 : Nat) : Int)
theorem inR.tail {f : IFld} {L : List IFld} {v : Int} {V : List Int} (h : inR (f :: L) (v :: V)) : inR L V := fun k f' v' h1 h2 => h (k + 1) f' v' (by simpa using h1) (by simpa using h2)
end Go.Proofs.YtfbmagnfgnebdaaGreatDoor
