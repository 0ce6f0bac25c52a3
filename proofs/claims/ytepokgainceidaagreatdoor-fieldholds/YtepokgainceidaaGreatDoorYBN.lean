import Derived.Test.YtepokgainceidaaGreatDoorYBF
import Derived.Test.YtepokgainceidaaGreatDoorYBH
namespace Go.Proofs.YtepokgainceidaaGreatDoor
open Go.RowKit Go.Shelf
theorem meet_h : ∀ (c : List UInt8) (k : Nat), k = c.length → Tn.meetT (List.replicate k 120) c = c
  | [], k, _ => by unfold Tn.meetT; simp
  | d :: c, 0, h => by simp at h
  | d :: c, k + 1, h => by
    have := meet_h c k (by simpa using h)
    unfold Tn.meetT at this ⊢
    rw [List.replicate_succ, List.zipWith_cons_cons, this]
    rfl
theorem pcT_h {n k : Nat} {c : List UInt8} {d : UInt8} (hl : c.length = n) (hk : c[k]? = some d) : Tn.pcT (List.replicate n 120) c k = c.take k ++ [Tn.oth d] ++ List.replicate (n - k - 1) 120 := by
  obtain ⟨h1, h2⟩ := List.getElem?_eq_some_iff.1 hk
  unfold Tn.pcT Tn.rsT
  rw [List.take_replicate, Nat.min_eq_left (by omega), meet_h (c.take k) k (by rw [List.length_take]; omega), List.drop_replicate]
  have hg : c.getD k 0 = d := by simp [List.getD, hk]
  have hlen : (c.take k).length = k := by rw [List.length_take]; omega
  rw [hg, List.set_append_right _ _ (by omega), hlen, Nat.sub_self]
  obtain ⟨m, hm⟩ : ∃ m, n - k = m + 1 := ⟨n - k - 1, by omega⟩
  rw [hm, List.replicate_succ, List.set_cons_zero, Nat.add_sub_cancel, List.append_assoc]
  rfl
theorem pcs_h {n k : Nat} {c : List UInt8} {d : UInt8} (hl : c.length = n) (hk : c[k]? = some d) : Tn.pcs (List.replicate n 120) c (k + 1) = Tn.pcs (List.replicate n 120) c k ++ (if d = 120 then [] else [c.take k ++ [Tn.oth d] ++ List.replicate (n - k - 1) 120]) := by
  obtain ⟨h1, h2⟩ := List.getElem?_eq_some_iff.1 hk
  have hq := Tn.qual_bytes (List.replicate n 120) c (by rw [List.length_replicate, hl]) k (by rw [List.length_replicate]; omega)
  rw [h2, List.getElem_replicate] at hq
  rw [Tn.pcs, hq, pcT_h hl hk]
  congr 1
  by_cases e : d = 120
  · rw [if_pos e, e]
    rfl
  · rw [if_neg e, if_pos]
    simpa using e
theorem put_h {n p b : Nat} {D : List UInt8} (hD : D.length = b) (h : p + b ≤ n) : putL (List.replicate n 120) p D = List.replicate p 120 ++ D ++ List.replicate (n - p - b) 120 := by
  have e : List.replicate n (120 : UInt8) = List.replicate p 120 ++ (List.replicate b 120 ++ List.replicate (n - p - b) 120) := by
    rw [List.replicate_append_replicate, List.replicate_append_replicate]
    congr 1
    omega
  have := putL_mid D (List.replicate p 120) (List.replicate b 120) (List.replicate (n - p - b) 120) (by rw [List.length_replicate, hD])
  rw [List.length_replicate] at this
  rw [e, this, List.append_assoc]
def hasT : List UInt8 → List UInt8 → Bool
  | [], [] => true
  | c :: C, d :: D => (c == 120 || c == d) && hasT C D
  | [], _ :: _ => false
  | _ :: _, [] => false
theorem hasT_app : ∀ (A A' B B' : List UInt8), A.length = A'.length → hasT (A ++ B) (A' ++ B') = (hasT A A' && hasT B B')
  | [], [], B, B', _ => by rw [hasT, Bool.true_and]; rfl
  | a :: A, a' :: A', B, B', h => by
    rw [List.cons_append, List.cons_append, hasT, hasT, hasT_app A A' B B' (by simpa using h), Bool.and_assoc]
  | [], _ :: _, _, _, h => by simp at h
  | _ :: _, [], _, _, h => by simp at h
theorem hasT_x : ∀ (n : Nat) (h : List UInt8), h.length = n → hasT (List.replicate n 120) h = true
  | 0, [], _ => rfl
  | 0, _ :: _, h => by simp at h
  | n + 1, [], h => by simp at h
  | n + 1, d :: D, h => by
    rw [List.replicate_succ, hasT, hasT_x n D (by simpa using h)]
    rfl
theorem has_put {n p b : Nat} {D h : List UInt8} (hD : D.length = b) (hp : p + b ≤ n) (hn : h.length = n) : hasT (putL (List.replicate n 120) p D) h = hasT D (subL h p (p + b)) := by
  have e : h = h.take p ++ (subL h p (p + b) ++ h.drop (p + b)) := by
    unfold subL
    rw [Nat.add_sub_cancel_left, ← List.drop_drop, List.take_append_drop, List.take_append_drop]
  have hl : (subL h p (p + b)).length = b := by
    unfold subL
    rw [List.length_take, List.length_drop]
    omega
  rw [put_h hD hp, List.append_assoc]
  conv => lhs; rw [e]
  rw [hasT_app _ _ _ _ (by rw [List.length_replicate, List.length_take]; omega), hasT_app _ _ _ _ (by rw [hD, hl]), hasT_x _ _ (by rw [List.length_take]; omega), hasT_x _ _ (by rw [List.length_drop]; omega), Bool.true_and, Bool.and_true]
def cntT (P : List (List UInt8)) (h : List UInt8) : Nat := (P.filter fun c => hasT c h).length
theorem cntT_app (P Q : List (List UInt8)) (h : List UInt8) : cntT (P ++ Q) h = cntT P h + cntT Q h := by
  unfold cntT
  rw [List.filter_append, List.length_append]
theorem cntT_put {n p b : Nat} {h : List UInt8} (hp : p + b ≤ n) (hn : h.length = n) : ∀ P : List (List UInt8), (∀ x ∈ P, x.length = b) → cntT (P.map (putL (List.replicate n 120) p)) h = cntT P (subL h p (p + b))
  | [], _ => rfl
  | x :: P, hx => by
    have ih := cntT_put hp hn P (fun y hy => hx y (by simp [hy]))
    have e := has_put (hx x (by simp)) hp hn
    unfold cntT at ih ⊢
    rw [List.map_cons, List.filter_cons, List.filter_cons, e]
    split
    · rw [List.length_cons, List.length_cons, ih]
    · exact ih
theorem cnt_spl {b : Nat} {c h : List UInt8} (hc : c.length = b) (hh : h.length = b) (hg : c.all Tn.tri = true) (h01 : h.all dg01 = true) : ∀ k, k ≤ b → cntT (Tn.pcs (List.replicate b 120) c k) h = if hasT (c.take k) (h.take k) = true then 0 else 1
  | 0, _ => by simp [Tn.pcs, cntT, hasT]
  | k + 1, hk => by
    have ih := cnt_spl hc hh hg h01 k (by omega)
    obtain ⟨d, hd⟩ : ∃ d, c[k]? = some d := ⟨_, List.getElem?_eq_getElem (by omega)⟩
    obtain ⟨e, he⟩ : ∃ e, h[k]? = some e := ⟨_, List.getElem?_eq_getElem (by omega)⟩
    have hd3 := List.all_eq_true.1 hg d (List.mem_of_getElem? hd)
    have he2 := List.all_eq_true.1 h01 e (List.mem_of_getElem? he)
    have hlen : (c.take k).length = (h.take k).length := by rw [List.length_take, List.length_take]; omega
    rw [pcs_h hc hd, cntT_app, ih, List.take_add_one, List.take_add_one, hd, he, Option.toList_some, Option.toList_some, hasT_app _ _ _ _ hlen]
    have h1 : hasT [d] [e] = (d == 120 || d == e) := by rw [hasT, hasT, Bool.and_true]
    rw [h1]
    by_cases dx : d = 120
    · rw [if_pos dx, dx]
      simp [cntT]
    · rw [if_neg dx]
      have hsp : h = h.take k ++ ([e] ++ h.drop (k + 1)) := by
        obtain ⟨h3, h4⟩ := List.getElem?_eq_some_iff.1 he
        rw [← h4, List.singleton_append, ← List.drop_eq_getElem_cons h3, List.take_append_drop]
      have hP : hasT (c.take k ++ [Tn.oth d] ++ List.replicate (b - k - 1) 120) h = (hasT (c.take k) (h.take k) && (Tn.oth d == e)) := by
        conv => lhs; rw [hsp]
        rw [List.append_assoc, hasT_app _ _ _ _ hlen, hasT_app [Tn.oth d] [e] _ _ (by rfl), hasT_x _ _ (by rw [List.length_drop]; omega), Bool.and_true, hasT, hasT, Bool.and_true]
        have : (Tn.oth d == 120) = false := by unfold Tn.oth; split <;> rfl
        rw [this, Bool.false_or]
      have hoth : (Tn.oth d == e) = !(d == e) := by
        unfold Tn.tri at hd3
        unfold dg01 at he2
        simp only [Bool.or_eq_true, beq_iff_eq] at hd3 he2
        rcases hd3 with (rfl | rfl) | rfl
        · rcases he2 with rfl | rfl <;> rfl
        · rcases he2 with rfl | rfl <;> rfl
        · exact absurd rfl dx
      have dxb : (d == 120) = false := by simpa using dx
      have hc1 : cntT [c.take k ++ [Tn.oth d] ++ List.replicate (b - k - 1) 120] h = if (hasT (c.take k) (h.take k) && !(d == e)) = true then 1 else 0 := by
        unfold cntT
        rw [List.filter_cons, hP, hoth]
        split <;> rfl
      rw [hc1, dxb, Bool.false_or]
      cases hasT (c.take k) (h.take k) <;> cases (d == e) <;> rfl
theorem cnt_splX {b : Nat} {c h : List UInt8} (hc : c.length = b) (hh : h.length = b) (hg : c.all Tn.tri = true) (h01 : h.all dg01 = true) : cntT (splX b c) h = if hasT c h = true then 0 else 1 := by
  have := cnt_spl hc hh hg h01 b (Nat.le_refl _)
  rw [List.take_of_length_le (by omega), List.take_of_length_le (by omega)] at this
  exact this
theorem bitB_eq {b a v j : Nat} : bitB b a j = bitB b v j ↔ a / 2 ^ (b - 1 - j) % 2 = v / 2 ^ (b - 1 - j) % 2 := by
  unfold bitB
  rcases Nat.mod_two_eq_zero_or_one (a / 2 ^ (b - 1 - j)) with h | h <;> rcases Nat.mod_two_eq_zero_or_one (v / 2 ^ (b - 1 - j)) with h' | h' <;> rw [h, h'] <;> decide
theorem bits_eq {b a v f : Nat} (ha : a < 2 ^ b) (hv : v < 2 ^ b) (h : ∀ k, f ≤ k → k < b → a / 2 ^ k % 2 = v / 2 ^ k % 2) : a / 2 ^ f = v / 2 ^ f := by
  apply Nat.eq_of_testBit_eq
  intro i
  rw [Nat.testBit_eq_decide_div_mod_eq, Nat.testBit_eq_decide_div_mod_eq, Nat.div_div_eq_div_mul, Nat.div_div_eq_div_mul, ← Nat.pow_add]
  by_cases hk : f + i < b
  · rw [h (f + i) (by omega) hk]
  · have hp : 2 ^ b ≤ 2 ^ (f + i) := Nat.pow_le_pow_right (by decide) (by omega)
    rw [Nat.div_eq_of_lt (by omega), Nat.div_eq_of_lt (by omega)]
theorem has_iff {b a f v : Nat} (hf : f ≤ b) (ha : 2 ^ f ∣ a) (hab : a < 2 ^ b) (hv : v < 2 ^ b) : (∀ j, j < b - f → bitB b a j = bitB b v j) ↔ (a ≤ v ∧ v < a + 2 ^ f) := by
  have hp : 0 < 2 ^ f := Nat.pow_pos (by decide)
  have hq : (∀ j, j < b - f → bitB b a j = bitB b v j) ↔ a / 2 ^ f = v / 2 ^ f := by
    constructor
    · intro h
      refine bits_eq hab hv (fun k h1 h2 => ?_)
      have := bitB_eq.1 (h (b - 1 - k) (by omega))
      rw [show b - 1 - (b - 1 - k) = k by omega] at this
      exact this
    · intro h j hj
      refine bitB_eq.2 ?_
      obtain ⟨d, hd⟩ : ∃ d, b - 1 - j = f + d := ⟨b - 1 - j - f, by omega⟩
      rw [hd, Nat.pow_add, ← Nat.div_div_eq_div_mul, ← Nat.div_div_eq_div_mul, h]
  rw [hq]
  obtain ⟨q, rfl⟩ := ha
  rw [Nat.mul_div_cancel_left _ hp]
  constructor
  · intro h
    have h1 := Nat.div_add_mod v (2 ^ f)
    have h2 := Nat.mod_lt v hp
    rw [← h] at h1
    omega
  · intro ⟨h1, h2⟩
    have h3 : q ≤ v / 2 ^ f := (Nat.le_div_iff_mul_le hp).2 (by rw [Nat.mul_comm]; exact h1)
    have h4 : v / 2 ^ f < q + 1 := (Nat.div_lt_iff_lt_mul hp).2 (by rw [Nat.add_mul, Nat.one_mul, Nat.mul_comm q]; exact h2)
    omega
theorem fre_dvd {a e : Nat} (h : a < 2 ^ 64) : 2 ^ fre a e ∣ a := by
  by_cases h0 : a = 0
  · subst h0; exact Nat.dvd_zero _
  · exact Nat.dvd_trans (Nat.pow_dvd_pow 2 (Nat.min_le_left _ _)) (cz_dvd h0 h)
theorem gr_at (e : Nat) (he : e < 2 ^ 33) : ∀ (i a : Nat) (p : Nat × Nat), (gr a e)[i]? = some p → p.2 = fre p.1 e ∧ a ≤ p.1 ∧ p.1 ≤ e ∧ 2 ^ p.2 ∣ p.1 ∧ p.1 + 2 ^ p.2 ≤ e + 1 := by
  intro i
  induction i with
  | zero =>
    intro a p h
    by_cases hle : a ≤ e
    · rw [gr_le hle] at h
      simp at h
      subst h
      have h1 := fre_le hle (by omega)
      exact ⟨rfl, Nat.le_refl _, hle, fre_dvd (by omega), by simp only; omega⟩
    · rw [gr_end hle] at h; simp at h
  | succ i ih =>
    intro a p h
    by_cases hle : a ≤ e
    · rw [gr_le hle] at h
      obtain ⟨h1, h2, h3⟩ := ih _ p (by simpa using h)
      exact ⟨h1, Nat.le_trans (Nat.le_add_right _ _) h2, h3⟩
    · rw [gr_end hle] at h; simp at h
def cnt (L : List (Nat × Nat)) (v : Nat) : Nat := (L.filter (fun p => decide (p.1 ≤ v ∧ v < p.1 + 2 ^ p.2))).length
theorem cnt_gr (e v : Nat) (he : e < 2 ^ 63) : ∀ (m a : Nat), e + 1 - a ≤ m → cnt (gr a e) v = if a ≤ v ∧ v ≤ e then 1 else 0 := by
  intro m
  induction m with
  | zero =>
    intro a h
    rw [gr_end (by omega), if_neg (by omega)]
    rfl
  | succ m ih =>
    intro a h
    by_cases hle : a ≤ e
    · have hp : 0 < 2 ^ fre a e := Nat.pow_pos (by decide)
      have hf := fre_le hle he
      have := ih (a + 2 ^ fre a e) (by omega)
      rw [gr_le hle]
      unfold cnt at this ⊢
      rw [List.filter_cons]
      by_cases hv : a ≤ v ∧ v < a + 2 ^ fre a e
      · rw [if_pos (decide_eq_true hv), List.length_cons, this, if_neg (by omega), if_pos (by omega)]
      · rw [if_neg (by rw [decide_eq_true_eq]; exact hv), this]
        by_cases h1 : a + 2 ^ fre a e ≤ v ∧ v ≤ e
        · rw [if_pos h1, if_pos (by omega)]
        · rw [if_neg h1, if_neg (by omega)]
    · rw [gr_end hle, if_neg (by omega)]
      rfl
theorem hasT_iff : ∀ (c h : List UInt8), c.length = h.length → (hasT c h = true ↔ ∀ (j : Nat) (x y : UInt8), c[j]? = some x → h[j]? = some y → x = 120 ∨ x = y)
  | [], [], _ => by simp [hasT]
  | a :: c, b :: h, hl => by
    rw [hasT, Bool.and_eq_true, hasT_iff c h (by simpa using hl), Bool.or_eq_true, beq_iff_eq, beq_iff_eq]
    constructor
    · rintro ⟨h1, h2⟩ j x y hx hy
      cases j with
      | zero =>
        simp at hx hy
        rw [← hx, ← hy]
        exact h1
      | succ j => exact h2 j x y (by simpa using hx) (by simpa using hy)
    · intro h1
      exact ⟨h1 0 a b rfl rfl, fun j x y hx hy => h1 (j + 1) x y (by simpa using hx) (by simpa using hy)⟩
  | [], _ :: _, h => by simp at h
  | _ :: _, [], h => by simp at h
theorem bit_ne (b v p : Nat) : bitB b v p ≠ 120 := by
  have := bitB_01k b v p
  intro e
  rw [e] at this
  exact absurd this (by decide)
theorem has_dig {b a f v : Nat} (hf : f ≤ b) (ha : 2 ^ f ∣ a) (hab : a < 2 ^ b) (hv : v < 2 ^ b) : hasT (digL b a f) (digL b v 0) = decide (a ≤ v ∧ v < a + 2 ^ f) := by
  rw [Bool.eq_iff_iff, decide_eq_true_eq, ← has_iff hf ha hab hv, hasT_iff _ _ (by rw [digL_len _ _ _ hf, digL_len _ _ _ (Nat.zero_le _)])]
  constructor
  · intro h j hj
    have h1 := digL_get b a f hf j (by omega)
    have h2 := digL_get b v 0 (Nat.zero_le _) j (by omega)
    rw [if_pos hj] at h1
    rw [if_pos (by omega)] at h2
    rcases h j _ _ h1 h2 with e | e
    · exact absurd e (bit_ne _ _ _)
    · exact e
  · intro h j x y hx hy
    have hj : j < b := by
      have := (List.getElem?_eq_some_iff.1 hx).1
      rw [digL_len _ _ _ hf] at this
      exact this
    rw [digL_get b a f hf j hj] at hx
    rw [digL_get b v 0 (Nat.zero_le _) j hj, if_pos (by omega)] at hy
    by_cases hjf : j < b - f
    · rw [if_pos hjf] at hx
      right
      rw [← Option.some.inj hx, ← Option.some.inj hy]
      exact h j hjf
    · rw [if_neg hjf] at hx
      exact .inl (Option.some.inj hx).symm
theorem cnt_of {b v : Nat} (hv : v < 2 ^ b) : ∀ L : List (Nat × Nat), (∀ p ∈ L, p.2 ≤ b ∧ 2 ^ p.2 ∣ p.1 ∧ p.1 < 2 ^ b) → cntT (L.map fun p => digL b p.1 p.2) (digL b v 0) = cnt L v
  | [], _ => rfl
  | p :: L, h => by
    have ih := cnt_of hv L (fun q hq => h q (by simp [hq]))
    obtain ⟨h1, h2, h3⟩ := h p (by simp)
    unfold cntT cnt at ih ⊢
    rw [List.map_cons, List.filter_cons, List.filter_cons, has_dig h1 h2 h3 hv]
    split
    · rw [List.length_cons, List.length_cons, ih]
    · exact ih
theorem cnt_covI {b : Nat} {lo hi : Int} {v : Nat} (hb : b ≤ 32) (h0 : 0 ≤ lo) (hh : hi < ((2 ^ b : Nat) : Int)) (hv : v < 2 ^ b) : cntT (covI b lo hi) (digL b v 0) = if lo ≤ (v : Int) ∧ (v : Int) ≤ hi then 1 else 0 := by
  have hp : 2 ^ b ≤ 2 ^ 32 := Nat.pow_le_pow_right (by decide) hb
  unfold covI
  by_cases h : hi < lo
  · rw [if_pos h, if_neg (by omega)]
    rfl
  · rw [if_neg h]
    obtain ⟨l, rfl⟩ : ∃ z : Nat, lo = z := ⟨lo.toNat, by omega⟩
    obtain ⟨k, rfl⟩ : ∃ z : Nat, hi = z := ⟨hi.toNat, by omega⟩
    have hk : k < 2 ^ b := Int.ofNat_lt.1 hh
    rw [Int.toNat_natCast, Int.toNat_natCast, cov, cnt_of hv, cnt_gr k v (by omega) (k + 1 - l) l (Nat.le_refl _)]
    · congr 1
      simp only [eq_iff_iff]
      omega
    · intro p hp'
      obtain ⟨i, hi⟩ := List.getElem?_of_mem hp'
      have := gr_at k (by omega) i l p hi
      exact ⟨gr_free k b hk hb (k + 1 - l) l (Nat.le_refl _) p hp', this.2.2.2.1, by omega⟩
def blk (f : IFld) : Option Int → List UInt8
  | some v => digL f.2.toNat v.toNat 0
  | none => List.replicate f.2.toNat 120
theorem idxG_at : ∀ (L : List IFld) (i k : Nat) (f : IFld), (L.map (·.1)).Nodup → L[k]? = some f → idxG i L f.1 = ((i + k : Nat) : Int)
  | [], i, k, f, _, h => by simp at h
  | g :: L, i, 0, f, _, h => by
    simp at h
    subst h
    rw [idxG, if_pos rfl]
    rfl
  | g :: L, i, k + 1, f, hn, h => by
    rw [List.map_cons, List.nodup_cons] at hn
    have h' : L[k]? = some f := by simpa using h
    rw [idxG, if_neg (fun e => hn.1 (by rw [e]; exact List.mem_map_of_mem (List.mem_of_getElem? h'))), idxG_at L (i + 1) k f hn.2 h']
    congr 1
    omega
theorem idxF_at {L : List IFld} {k : Nat} {f : IFld} (hn : (L.map (·.1)).Nodup) (h : L[k]? = some f) : idxF L f.1 = (k : Int) := by
  unfold idxF
  rw [idxG_at L 0 k f hn h, Nat.zero_add]
theorem valF_snoc {Y : List UInt8} {j : Nat} {c : UInt8} (h : Y[j]? = some c) : valF 0 (Y.take (j + 1)) = 2 * valF 0 (Y.take j) + (if c = 49 then 1 else 0) := by
  rw [List.take_add_one, h, Option.toList_some, valF_app]
  rfl
theorem valF_32 {Y : List UInt8} (h : Y.length ≤ 32) : valF 0 Y ≤ 4294967296 :=
  Nat.le_trans (Nat.le_of_lt (valF_lt Y)) (show 2 ^ Y.length ≤ 2 ^ 32 from Nat.pow_le_pow_right (by decide) h)
theorem sub_getK {s : List UInt8} {p b j : Nat} (hj : j < b) : (subL s p (p + b))[j]? = s[p + j]? := by
  unfold subL
  rw [Nat.add_sub_cancel_left, List.getElem?_take_of_lt hj, List.getElem?_drop]
set_option maxRecDepth 100000 in
set_option maxHeartbeats 4000000 in
theorem lvalue_any (L : List IFld) (o : Option Addr) (c k : Nat) (x : List UInt8) (b p : Nat) (s : List UInt8) (w : World) (hL : L.length ≤ 12) (hfk : L[k]? = some (x, (b : Int))) (hp : sumB (L.take k) = (p : Int)) (hb : b ≤ 32) (hpb : p + b ≤ s.length) (hs : s.length ≤ 400) (hd : s.all dg01 = true) (hb0 : ∀ f ∈ L, 0 ≤ f.2 ∧ f.2 ≤ 32) (hr : IRF w o L) :
    Calls Tryz.prog 23 #[.slice o L.length c, .int .i64 k, .string ⟨s.toArray⟩] w fun e w' => e = .returned (.int .i64 (valF 0 (subL s p (p + b)) : Int)) ∧ w' = w := by
  have hkL : k < L.length := (List.getElem?_eq_some_iff.1 hfk).1
  obtain ⟨g, o0, rfl, -, z0⟩ := hr w (Below.refl _ _) k _ hfk
  have XF : Hid (∀ (j : Nat) (f : IFld), L[j]? = some f → w.cell? ⟨g, o0 + j * 2 + 1, none⟩ = some (.int .i64 f.2)) := fun j f hf => by
    obtain ⟨g3, q3, h1, -, h2⟩ := hr w (Below.refl _ _) j f hf
    injection h1 with h1
    injection h1 with h1 h4
    subst h1 h4
    exact h2
  obtain ⟨Y, hY⟩ : ∃ Y, subL s p (p + b) = Y := ⟨_, rfl⟩
  have hYl : Y.length = b := by rw [← hY]; unfold subL; rw [List.length_take, List.length_drop]; omega
  have HYG : Hid (∀ j, j < b → Y[j]? = s[p + j]?) := fun j hj => by rw [← hY]; exact sub_getK hj
  have HB0 : Hid (∀ f ∈ L, 0 ≤ f.2 ∧ f.2 ≤ 32) := hb0
  have HP : Hid (sumB (L.take k) = (p : Int)) := hp
  have HD : Hid (s.all dg01 = true) := hd
  have HYL : Hid (Y.length = b) := hYl
  rw [hY]
  clear hr hfk hY hb0 hp hd hYl
  go_enter Tryz.func23, Tryz.ntmps23
  go_wp2_with fail
  go_loopw [7, 8] (fun v vj wr => ∃ (j q : Nat), vj = .int .i64 j ∧ j ≤ k ∧ v = .int .i64 q ∧ Hid (sumB (L.take j) = (q : Int)) ∧ wr = w) (fun _ vj _ => k - (intOf vj).toNat)
  case atStart => exact ⟨0, 0, rfl, Nat.zero_le _, rfl, rfl, rfl⟩
  case round =>
    obtain ⟨j, q, rfl, hj, rfl, hq, rfl⟩ := hrel
    by_cases hjk : j < k
    · have q1 : (j : Int) < (k : Int) := by omega
      have q0 : (0 : Int) ≤ (j : Int) := by omega
      have q2 : (j : Int) < (L.length : Int) := by omega
      obtain ⟨f, hf⟩ : ∃ f, L[j]? = some f := ⟨_, List.getElem?_eq_getElem (by omega)⟩
      have z1 := XF.out j f hf
      have hfb := HB0.out f (List.mem_of_getElem? hf)
      have hst := sumB_take hf
      rw [hq.out] at hst
      have hle := (sumB_bound (L.take j) (fun f hf => HB0.out f (List.mem_of_mem_take hf))).2
      rw [hq.out, List.length_take] at hle
      obtain ⟨x1, bi⟩ := f
      obtain ⟨b1, rfl⟩ : ∃ b : Nat, bi = (b : Int) := ⟨bi.toNat, by simp only at hfb; omega⟩
      simp only at hfb hst z1
      have HST : Hid (sumB (L.take (j + 1)) = ((q + b1 : Nat) : Int)) := by unfold Hid; rw [hst]; omega
      have e1 : IntKind.i64.wrap ((q : Int) + (b1 : Int)) = ((q + b1 : Nat) : Int) := by rw [IntKind.wrap_i64]; omega
      clear hf hst hq hle
      go_wp2_with fail
      go_roundw
      case rel => exact ⟨j + 1, q + b1, by go_num, by omega, by go_num, HST, by first | rfl | trivial⟩
      case measure => simp [intOf]; omega
    · have q1 : ¬ (j : Int) < (k : Int) := by omega
      obtain rfl : j = k := by omega
      obtain rfl : q = p := by have h1 := hq.out; rw [HP.out] at h1; omega
      have q0 : (0 : Int) ≤ (j : Int) := by omega
      have q2 : (j : Int) < (L.length : Int) := by omega
      clear hq
      go_wp2_with fail
      go_loopw [9, 10] (fun v vj wi => ∃ (i u : Nat), vj = .int .i64 i ∧ i ≤ b ∧ v = .int .i64 u ∧ Hid (valF 0 (Y.take i) = u) ∧ wi = wr) (fun _ vj _ => b - (intOf vj).toNat)
      case atStart => exact ⟨0, 0, rfl, Nat.zero_le _, rfl, rfl, rfl⟩
      case round =>
        obtain ⟨i, u, rfl, hi, rfl, hu, rfl⟩ := hrel
        by_cases hib : i < b
        · have r1 : (i : Int) < (b : Int) := by omega
          have r0 : (0 : Int) ≤ (q : Int) + (i : Int) := by omega
          have r2 : (q : Int) + (i : Int) < (s.length : Int) := by omega
          obtain ⟨m, hm⟩ : ∃ m, q + i = m := ⟨_, rfl⟩
          have e0 : IntKind.i64.wrap ((q : Int) + (i : Int)) = (m : Int) := by rw [IntKind.wrap_i64]; omega
          have r3 : (0 : Int) ≤ (m : Int) := by omega
          have r4 : (m : Int) < (s.length : Int) := by omega
          obtain ⟨d, hdd, hld⟩ := byte_get s m (by omega)
          have hYi : Y[i]? = some d := by rw [HYG.out i hib, hm]; exact hld
          have hsn := valF_snoc hYi
          rw [hu.out] at hsn
          have hd1 : dg01 d = true := List.all_eq_true.1 HD.out d (List.mem_of_getElem? hld)
          have hub : u ≤ 4294967296 := by rw [← hu.out]; exact valF_32 (by rw [List.length_take, HYL.out]; omega)
          have e1 : IntKind.i64.wrap (2 * (u : Int)) = 2 * (u : Int) := by rw [IntKind.wrap_i64]; omega
          have e2 : IntKind.i64.wrap (2 * (u : Int) + 1) = 2 * (u : Int) + 1 := by rw [IntKind.wrap_i64]; omega
          have e3 : IntKind.i64.wrap (2 * (u : Int) + 0) = 2 * (u : Int) + 0 := by rw [IntKind.wrap_i64]; omega
          rcases (show d = 48 ∨ d = 49 by revert hd1; revert d; unfold dg01; simp) with rfl | rfl
          · have HSN : Hid (valF 0 (Y.take (i + 1)) = 2 * u + 0) := hsn
            clear hsn hYi hld hu hd1 hm
            go_wp2_with fail
            go_roundw
            case rel => exact ⟨i + 1, 2 * u + 0, by go_num, by omega, by go_num, HSN, by first | rfl | trivial⟩
            case measure => simp [intOf]; omega
          · have HSN : Hid (valF 0 (Y.take (i + 1)) = 2 * u + 1) := hsn
            clear hsn hYi hld hu hd1 hm
            go_wp2_with fail
            go_roundw
            case rel => exact ⟨i + 1, 2 * u + 1, by go_num, by omega, by go_num, HSN, by first | rfl | trivial⟩
            case measure => simp [intOf]; omega
        · have r1 : ¬ (i : Int) < (b : Int) := by omega
          have hY : valF 0 Y = u := by rw [← hu.out, List.take_of_length_le (by rw [HYL.out]; omega)]
          have HY : Hid (valF 0 Y = u) := hY
          clear hu hY
          go_wp2_with fail
          go_ret
          exact ⟨by rw [HY.out]; rfl, rfl⟩
def isM (b : Nat) (t : TS) (v : Nat) : Bool := if t.form = 1 then decide ((v : Int) = t.lo) else if t.form = 2 then decide (v / 2 ^ (b - t.len.toNat) = t.lo.toNat / 2 ^ (b - t.len.toNat)) else if t.form = 3 then decide (t.lo ≤ (v : Int) ∧ (v : Int) ≤ t.hi) else hasT t.pat (digL b v 0)
def holdsM (b : Nat) (t : TS) (v : Nat) : Bool := if t.op = 1 then isM b t v else if t.op = 2 then !isM b t v else if t.op = 3 then decide ((v : Int) < t.lo) else if t.op = 4 then decide ((v : Int) ≤ t.lo) else if t.op = 5 then decide (t.lo < (v : Int)) else decide (t.lo ≤ (v : Int))
theorem div_eq {f lo v : Nat} (h : lo % 2 ^ f = 0) : (lo ≤ v ∧ v < lo + 2 ^ f) ↔ v / 2 ^ f = lo / 2 ^ f := by
  have hp : 0 < 2 ^ f := Nat.pow_pos (by decide)
  obtain ⟨q, rfl⟩ := Nat.dvd_of_mod_eq_zero h
  rw [Nat.mul_div_cancel_left _ hp]
  obtain ⟨P, hP⟩ : ∃ P, 2 ^ f = P := ⟨_, rfl⟩
  rw [hP] at hp ⊢
  constructor
  · intro ⟨h1, h2⟩
    have h3 : q ≤ v / P := (Nat.le_div_iff_mul_le hp).2 (by rw [Nat.mul_comm]; exact h1)
    have h4 : v / P < q + 1 := (Nat.div_lt_iff_lt_mul hp).2 (by rw [Nat.add_mul, Nat.one_mul, Nat.mul_comm q]; exact h2)
    omega
  · intro e
    have h1 := Nat.div_add_mod v P
    have h2 := Nat.mod_lt v hp
    rw [e] at h1
    omega
theorem has_one {b : Nat} {t : TS} {v : Nat} (h : TOK b t) (h3 : t.form ≠ 3) (hv : v < 2 ^ b) : hasT (oneM b t) (digL b v 0) = isM b t v := by
  have hp0 : 0 < 2 ^ b := Nat.pow_pos (by decide)
  have ht := of_decide_eq_true h.tst
  obtain ⟨-, k2, k3, k4, k5, k6, k7, k8, -, -⟩ := h
  obtain ⟨t1, t2, t3, t4, -⟩ := ht
  have hlt : t.lo.toNat < 2 ^ b := by omega
  unfold oneM isM
  by_cases f4 : t.form = 4
  · rw [if_pos f4, if_neg (by omega), if_neg (by omega), if_neg (by omega)]
  · rw [if_neg f4]
    by_cases f2 : t.form = 2
    · rw [if_pos f2, if_neg (by omega), if_pos f2, has_dig (Nat.sub_le _ _) (Nat.dvd_of_mod_eq_zero (k8 f2)) hlt hv]
      exact decide_eq_decide.2 (div_eq (k8 f2))
    · rw [if_neg f2, if_pos (by omega), has_dig (Nat.zero_le _) (by rw [Nat.pow_zero]; exact Nat.one_dvd _) hlt hv]
      refine decide_eq_decide.2 ?_
      rw [Nat.pow_zero]
      omega
theorem cnt_one (c h : List UInt8) : cntT [c] h = if hasT c h = true then 1 else 0 := by
  unfold cntT
  rw [List.filter_cons]
  split <;> rfl
theorem cnt_pie {b : Nat} {t : TS} {v : Nat} (hb : b ≤ 32) (h : TOK b t) (hv : v < 2 ^ b) : cntT (pieM b t) (digL b v 0) = if holdsM b t v = true then 1 else 0 := by
  have hp0 : 0 < 2 ^ b := Nat.pow_pos (by decide)
  have hone := fun h3 : t.form ≠ 3 => has_one h h3 hv
  have hgood := one_good hb h
  have htri : (oneM b t).all Tn.tri = true := by have := hgood.2; unfold Tn.good at this; simp only [Bool.and_eq_true] at this; exact this.2
  have hdl : (digL b v 0).length = b := digL_len _ _ _ (Nat.zero_le _)
  have ht := of_decide_eq_true h.tst
  obtain ⟨-, k2, k3, k4, k5, -, -, -, k9, -⟩ := h
  obtain ⟨t1, t2, t3, t4, t5, -⟩ := ht
  have hif : ∀ (C : Prop) [Decidable C] (D : Bool), (C ↔ D = true) → (if C then 1 else 0 : Nat) = if D = true then 1 else 0 := fun C _ D h => by
    by_cases c : C
    · rw [if_pos c, if_pos (h.1 c)]
    · rw [if_neg c, if_neg (fun e => c (h.2 e))]
  unfold pieM othM
  by_cases p4 : t.op = 4
  · have hh : holdsM b t v = decide ((v : Int) ≤ t.lo) := by simp [holdsM, p4]
    rw [if_pos p4, cnt_covI hb (by omega) (by omega) hv, hh]
    refine hif _ _ ?_
    rw [decide_eq_true_eq]
    omega
  rw [if_neg p4]
  by_cases p3 : t.op = 3
  · have hh : holdsM b t v = decide ((v : Int) < t.lo) := by simp [holdsM, p3]
    rw [if_pos p3, cnt_covI hb (by omega) (by omega) hv, hh]
    refine hif _ _ ?_
    rw [decide_eq_true_eq]
    omega
  rw [if_neg p3]
  by_cases p6 : t.op = 6
  · have hh : holdsM b t v = decide (t.lo ≤ (v : Int)) := by simp [holdsM, p6]
    rw [if_pos p6, cnt_covI hb (by omega) (by omega) hv, hh]
    refine hif _ _ ?_
    rw [decide_eq_true_eq]
    omega
  rw [if_neg p6]
  by_cases p5 : t.op = 5
  · have hh : holdsM b t v = decide (t.lo < (v : Int)) := by simp [holdsM, p5]
    rw [if_pos p5, cnt_covI hb (by omega) (by omega) hv, hh]
    refine hif _ _ ?_
    rw [decide_eq_true_eq]
    omega
  rw [if_neg p5]
  have his : t.form = 3 → isM b t v = decide (t.lo ≤ (v : Int) ∧ (v : Int) ≤ t.hi) := fun f3 => by unfold isM; rw [if_neg (by omega), if_neg (by omega), if_pos f3]
  by_cases p2 : t.op = 2
  · have hh : holdsM b t v = !isM b t v := by simp [holdsM, p2]
    rw [if_pos p2, hh]
    by_cases f3 : t.form = 3
    · have h9 := k9 f3
      rw [if_pos f3, cntT_app, cnt_covI hb (by omega) (by omega) hv, cnt_covI hb (by omega) (by omega) hv, his f3]
      by_cases c : t.lo ≤ (v : Int) ∧ (v : Int) ≤ t.hi
      · rw [decide_eq_true c, if_neg (by omega), if_neg (by omega)]
        rfl
      · rw [decide_eq_false c]
        by_cases d : (v : Int) < t.lo
        · rw [if_pos (by omega), if_neg (by omega)]
          rfl
        · rw [if_neg (by omega), if_pos (by omega)]
          rfl
    · rw [if_neg f3, cnt_splX hgood.1 hdl htri (digL_01 _ _), hone f3]
      cases isM b t v <;> rfl
  rw [if_neg p2]
  have p1 : t.op = 1 := by omega
  have hh : holdsM b t v = isM b t v := by simp [holdsM, p1]
  rw [hh]
  by_cases f3 : t.form = 3
  · rw [if_pos f3, cnt_covI hb (by omega) (by omega) hv, his f3]
    refine hif _ _ ?_
    rw [decide_eq_true_eq]
  · rw [if_neg f3, cnt_one, hone f3]
theorem flt_of {b : Nat} {t : TS} (h : TOK b t) : fltM b t = 0 := by
  obtain ⟨k1, k2, k3, k4, k5, k6, k7, k8, k9, k10⟩ := h
  unfold fltM
  rw [if_neg (by rw [k1]; decide), if_neg (fun hn => hn ⟨k2, k3, k4, k5, k6, k7⟩), if_neg (fun hn => hn.2 (k8 hn.1)), if_neg (fun hn => by have := k9 hn.1; omega), if_neg (fun hn => by rw [k10 hn.1] at hn; exact absurd hn.2 (by decide))]
theorem cb_holds {L : List IFld} {t : TS} {k b p n : Nat} {G : List UInt8} (hc : chkM L = (0, 0)) (hn : (L.map (·.1)).Nodup) (hf : L[k]? = some (t.f, (b : Int))) (hb : b ≤ 32) (h : TOK b t) (hp : sumB (L.take k) = (p : Int)) (hs : sumB L = (n : Int)) (hpb : p + b ≤ n) (hG : G.length = n) (h01 : G.all dg01 = true) :
    ∃ C : List (List UInt8), cbM L t = (C, 0) ∧ (∀ x ∈ C, x.length = n) ∧ C.length ≤ 8589934592 ∧ cntT C G = if holdsM b t (valF 0 (subL G p (p + b))) = true then 1 else 0 := by
  refine ⟨(pieM b t).map (putL (List.replicate n 120) p), ?_, ?_, ?_, ?_⟩
  · unfold cbM
    have hi := idxF_at hn hf
    simp only at hi
    have hgd : L.getD k ([], 0) = (t.f, (b : Int)) := by simp [List.getD, hf]
    rw [if_neg (by rw [hc]; exact fun h => h rfl), hi, if_neg (by omega), Int.toNat_natCast, hgd, if_neg (by simp only [Int.toNat_natCast]; rw [flt_of h]; exact fun h => h rfl), hp, hs]
    rfl
  · intro x hx
    obtain ⟨y, hy, rfl⟩ := List.mem_map.1 hx
    have hyl := pie_w hb h y hy
    rw [put_h hyl hpb, List.length_append, List.length_append, List.length_replicate, List.length_replicate]
    omega
  · rw [List.length_map]
    exact pie_len hb h
  · have hsl : (subL G p (p + b)).length = b := by
      unfold subL
      rw [List.length_take, List.length_drop]
      omega
    have hs01 : (subL G p (p + b)).all dg01 = true := sub_all h01
    have hd := digL_valF hs01
    rw [hsl] at hd
    have hlt := valF_lt (subL G p (p + b))
    rw [hsl] at hlt
    rw [cntT_put hpb hG _ (pie_w hb h)]
    conv => lhs; rw [← hd]
    exact cnt_pie hb h hlt
end Go.Proofs.YtepokgainceidaaGreatDoor
