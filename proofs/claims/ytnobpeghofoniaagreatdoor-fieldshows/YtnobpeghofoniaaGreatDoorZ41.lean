import Derived.Test.YtnobpeghofoniaaGreatDoorZ40
namespace Go.Proofs.YtnobpeghofoniaaGreatDoor
open Go.RowKit Go.Shelf
/-- a digit's bit -/
def b01 (c : UInt8) : Nat := if c = 49 then 1 else 0
theorem valF_app : ∀ (A B : List UInt8) (v : Nat), valF v (A ++ B) = valF (valF v A) B
  | [], B, v => rfl
  | c :: A, B, v => by
    rw [List.cons_append, valF, valF]
    exact valF_app A B _
theorem valF_lin : ∀ (Y : List UInt8) (v : Nat), valF v Y = v * 2 ^ Y.length + valF 0 Y ∧ valF 0 Y < 2 ^ Y.length
  | [], v => ⟨by simp [valF], by simp [valF]⟩
  | c :: Y, v => by
    obtain ⟨h1, h2⟩ := valF_lin Y (2 * v + (if c = 49 then 1 else 0))
    obtain ⟨h3, -⟩ := valF_lin Y (2 * 0 + (if c = 49 then 1 else 0))
    rw [valF, valF, h1, h3, List.length_cons, Nat.pow_succ]
    obtain ⟨P, hP⟩ : ∃ P, 2 ^ Y.length = P := ⟨_, rfl⟩
    rw [hP] at h2 ⊢
    by_cases hc : c = 49
    · rw [if_pos hc, Nat.add_mul, Nat.mul_comm P 2, ← Nat.mul_assoc, Nat.mul_comm v 2]
      omega
    · rw [if_neg hc, Nat.add_mul, Nat.mul_comm P 2, ← Nat.mul_assoc, Nat.mul_comm v 2]
      omega
theorem bit01 {c : UInt8} (h : dg01 c = true) : UInt8.ofNat (48 + b01 c) = c := by
  unfold dg01 at h
  rw [Bool.or_eq_true, beq_iff_eq, beq_iff_eq] at h
  rcases h with rfl | rfl <;> rfl
/-- a text of digits is its number's digits -/
theorem digL_valF {Y : List UInt8} (h : Y.all dg01 = true) : digL Y.length (valF 0 Y) 0 = Y := by
  apply List.ext_getElem?
  intro j
  by_cases hj : j < Y.length
  · rw [digL_get _ _ _ (Nat.zero_le _) j hj, if_pos (by omega), List.getElem?_eq_getElem hj]
    have hc := List.all_eq_true.1 h Y[j] (List.getElem_mem hj)
    have e : Y = Y.take j ++ (Y[j] :: Y.drop (j + 1)) := by rw [← List.drop_eq_getElem_cons hj, List.take_append_drop]
    have hv : valF 0 Y = (2 * valF 0 (Y.take j) + b01 Y[j]) * 2 ^ (Y.length - 1 - j) + valF 0 (Y.drop (j + 1)) := by
      conv => lhs; rw [e]
      rw [valF_app, valF, (valF_lin (Y.drop (j + 1)) _).1, List.length_drop, show Y.length - (j + 1) = Y.length - 1 - j by omega]
      rfl
    have hlt := (valF_lin (Y.drop (j + 1)) 0).2
    rw [List.length_drop, show Y.length - (j + 1) = Y.length - 1 - j by omega] at hlt
    have hpos : 0 < 2 ^ (Y.length - 1 - j) := Nat.pow_pos (by decide)
    have hd : valF 0 Y / 2 ^ (Y.length - 1 - j) = 2 * valF 0 (Y.take j) + b01 Y[j] := by
      rw [hv, Nat.mul_comm, Nat.mul_add_div hpos, Nat.div_eq_of_lt hlt, Nat.add_zero]
    unfold bitB
    rw [hd]
    have hb : b01 Y[j] < 2 := by unfold b01; split <;> omega
    rw [show (2 * valF 0 (Y.take j) + b01 Y[j]) % 2 = b01 Y[j] by omega, bit01 hc]
  · rw [List.getElem?_eq_none (by rw [digL_len _ _ _ (Nat.zero_le _)]; omega), List.getElem?_eq_none (by omega)]
theorem valF_lt (Y : List UInt8) : valF 0 Y < 2 ^ Y.length := (valF_lin Y 0).2
theorem bitB_01 (b v p : Nat) : dg01 (bitB b v p) = true := by
  unfold bitB
  rcases (show v / 2 ^ (b - 1 - p) % 2 = 0 ∨ v / 2 ^ (b - 1 - p) % 2 = 1 by omega) with h | h <;> rw [h] <;> rfl
theorem digL_01 (b v : Nat) : (digL b v 0).all dg01 = true := by
  rw [← digL0, List.all_eq_true]
  intro c hc
  obtain ⟨p, -, rfl⟩ := List.mem_map.1 hc
  exact bitB_01 b v p
theorem valF_bits (b v : Nat) : ∀ (m j a : Nat), j + m = b → valF a ((List.range' j m).map (bitB b v)) = a * 2 ^ m + v % 2 ^ m
  | 0, j, a, h => by simp [valF, Nat.mod_one]
  | m + 1, j, a, h => by
    rw [List.range'_succ, List.map_cons, valF, valF_bits b v m (j + 1) _ (by omega)]
    have hb : (if bitB b v j = 49 then 1 else 0) = v / 2 ^ m % 2 := by
      unfold bitB
      rw [show b - 1 - j = m by omega]
      rcases (show v / 2 ^ m % 2 = 0 ∨ v / 2 ^ m % 2 = 1 by omega) with h | h <;> rw [h] <;> rfl
    rw [hb]
    have hm : v % 2 ^ (m + 1) = (v / 2 ^ m % 2) * 2 ^ m + v % 2 ^ m := by
      rw [Nat.pow_succ, Nat.mod_mul, Nat.mul_comm (2 ^ m), Nat.add_comm]
    rw [hm, Nat.add_mul, Nat.pow_succ]
    obtain ⟨P, hP⟩ : ∃ P, 2 ^ m = P := ⟨_, rfl⟩
    rw [hP, Nat.mul_comm 2 a, Nat.mul_assoc, Nat.mul_comm 2 P]
    omega
/-- the number of a number's digits -/
theorem valF_digL {b v : Nat} (h : v < 2 ^ b) : valF 0 (digL b v 0) = v := by
  rw [← digL0, List.range_eq_range', valF_bits b v b 0 0 (by omega), Nat.zero_mul, Nat.zero_add, Nat.mod_eq_of_lt h]
/-- when a list of fields is a layout -/
theorem chkL_of : ∀ (rest seen : List IFld), (∀ f ∈ rest, sizB f = true ∧ nmB f.1 = true) → (∀ f ∈ rest, ∀ g ∈ seen, g.1 ≠ f.1) → (rest.map (·.1)).Nodup → (∀ k, sumB (seen ++ rest.take k) ≤ 256) → chkL seen rest = (0, 0)
  | [], seen, _, _, _, _ => rfl
  | f :: r, seen, h1, h2, h3, h4 => by
    obtain ⟨s1, s2⟩ := h1 f (by simp)
    have hix : ¬ 0 ≤ idxF seen f.1 := by
      rw [idxF_ge]
      rintro ⟨g, hg, he⟩
      exact h2 f (by simp) g hg he
    have hw := h4 1
    rw [show (f :: r).take 1 = [f] from rfl] at hw
    have hb : badF seen f = false := by
      unfold badF
      rw [s1, s2, decide_eq_false hix, decide_eq_false (show ¬ 256 < sumB (seen ++ [f]) by omega)]
      rfl
    rw [List.map_cons, List.nodup_cons] at h3
    rw [chkL, hb, if_neg (by decide)]
    refine chkL_of r (seen ++ [f]) (fun g hg => h1 g (by simp [hg])) (fun g hg e he => ?_) h3.2 (fun k => ?_)
    · rcases List.mem_append.1 he with h | h
      · exact h2 g (by simp [hg]) e h
      · rw [List.mem_singleton.1 h]
        exact fun heq => h3.1 (by rw [heq]; exact List.mem_map_of_mem hg)
    · have := h4 (k + 1)
      rw [List.take_succ_cons] at this
      rw [List.append_assoc]
      exact this
theorem chk_of {L : List IFld} (h0 : 0 < L.length) (h12 : L.length ≤ 12) (h1 : ∀ f ∈ L, sizB f = true ∧ nmB f.1 = true) (h3 : (L.map (·.1)).Nodup) (h4 : sumB L ≤ 256) : chkM L = (0, 0) := by
  unfold chkM
  rw [if_neg (by omega), if_neg (by omega)]
  refine chkL_of L [] h1 (fun f hf g hg => by cases hg) h3 (fun k => ?_)
  have hb : ∀ f ∈ L, 0 ≤ f.2 ∧ f.2 ≤ 32 := fun f hf => by
    have := (h1 f hf).1
    unfold sizB at this
    simp only [Bool.and_eq_true, decide_eq_true_eq] at this
    omega
  have := sumB_take_le hb k
  rw [List.nil_append]
  omega
/-- the digits of all values, one field behind the other -/
def catD : List IFld → List Int → List UInt8
  | f :: L, v :: V => digL f.2.toNat v.toNat 0 ++ catD L V
  | _, _ => []
theorem pkF_cat : ∀ (L : List IFld) (V : List Int) (acc : List UInt8), (∀ (k : Nat) (f : IFld) (v : Int), L[k]? = some f → V[k]? = some v → 0 ≤ v ∧ v ≤ ((2 ^ f.2.toNat - 1 : Nat) : Int)) → pkF L V acc = (acc ++ catD L V, 0)
  | [], V, acc, _ => by simp [pkF, catD]
  | f :: L, [], acc, _ => by simp [pkF, catD]
  | f :: L, v :: V, acc, h => by
    rw [pkF, if_pos (h 0 f v rfl rfl), pkF_cat L V _ (fun k f' v' h1 h2 => h (k + 1) f' v' (by simpa using h1) (by simpa using h2)), catD, List.append_assoc]
end Go.Proofs.YtnobpeghofoniaaGreatDoor
namespace Go.Proofs.YtnobpeghofoniaaGreatDoor
open Go.RowKit Go.Shelf
/-- all fields have bits -/
def posB (L : List IFld) : Prop := ∀ f ∈ L, 1 ≤ f.2 ∧ f.2 ≤ 32
theorem posB.tail {f : IFld} {L : List IFld} (h : posB (f :: L)) : posB L := fun g hg => h g (by simp [hg])
/-- the values from a place on -/
def uvO : List IFld → Nat → List UInt8 → List Int
  | [], _, _ => []
  | f :: L, p, g => (valF 0 (subL g p (p + f.2.toNat)) : Int) :: uvO L (p + f.2.toNat) g
theorem uvO_at : ∀ (L : List IFld) (p : Nat) (g : List UInt8) (k : Nat), posB L → (uvO L p g)[k]? = (L[k]?).map fun f => (valF 0 (subL g (p + (sumB (L.take k)).toNat) (p + (sumB (L.take k)).toNat + f.2.toNat)) : Int)
  | [], p, g, k, _ => by simp [uvO]
  | f :: L, p, g, 0, _ => by simp [uvO, sumB]
  | f :: L, p, g, k + 1, h => by
    have h1 := h f (by simp)
    have h2 := (sumB_bound (L.take k) (fun x hx => by have := h.tail x (List.mem_of_mem_take hx); omega)).1
    rw [uvO, List.getElem?_cons_succ, uvO_at L (p + f.2.toNat) g k h.tail, List.getElem?_cons_succ, List.take_succ_cons, sumB]
    rw [show p + (f.2 + sumB (L.take k)).toNat = p + f.2.toNat + (sumB (L.take k)).toNat by omega]
theorem uvL_uvO (L : List IFld) (g : List UInt8) (h : posB L) : uvL L g = uvO L 0 g := by
  apply List.ext_getElem?
  intro k
  rw [uvO_at L 0 g k h]
  unfold uvL plN
  by_cases hk : k < L.length
  · obtain ⟨f, hf⟩ : ∃ f, L[k]? = some f := ⟨_, List.getElem?_eq_getElem hk⟩
    rw [List.getElem?_map, List.getElem?_range hk, hf]
    simp [List.getD, hf]
  · rw [List.getElem?_eq_none (by simp; omega), List.getElem?_eq_none (by omega)]
    rfl
theorem uvO_len : ∀ (L : List IFld) (p : Nat) (g : List UInt8), (uvO L p g).length = L.length
  | [], _, _ => rfl
  | f :: L, p, g => by rw [uvO, List.length_cons, uvO_len L, List.length_cons]
theorem sub_sub {g : List UInt8} {p a b : Nat} : subL g p (p + a) ++ subL g (p + a) (p + a + b) = subL g p (p + (a + b)) := by
  unfold subL
  rw [Nat.add_sub_cancel_left, Nat.add_sub_cancel_left, Nat.add_sub_cancel_left, ← List.drop_drop, List.take_add]
/-- what is unpacked comes back packed -/
theorem cat_uvO : ∀ (L : List IFld) (p : Nat) (g : List UInt8), posB L → g.all dg01 = true → p + (sumB L).toNat ≤ g.length → catD L (uvO L p g) = subL g p (p + (sumB L).toNat)
  | [], p, g, _, _, _ => by simp [catD, sumB, subL]
  | f :: L, p, g, hp, hg, hl => by
    have h1 := hp f (by simp)
    have h2 := (sumB_bound L (fun x hx => by have := hp.tail x hx; omega)).1
    have e : (sumB (f :: L)).toNat = f.2.toNat + (sumB L).toNat := by rw [sumB]; omega
    rw [e] at hl ⊢
    rw [uvO, catD, Int.toNat_natCast, cat_uvO L (p + f.2.toNat) g hp.tail hg (by omega)]
    have hY : (subL g p (p + f.2.toNat)).length = f.2.toNat := by unfold subL; rw [List.length_take, List.length_drop]; omega
    have := digL_valF (sub_all (a := p) (b := p + f.2.toNat) hg)
    rw [hY] at this
    rw [this, sub_sub]
theorem cat_len : ∀ (L : List IFld) (V : List Int), posB L → V.length = L.length → (catD L V).length = (sumB L).toNat
  | [], V, _, _ => by simp [catD, sumB]
  | f :: L, [], _, h => by simp at h
  | f :: L, v :: V, hp, h => by
    have h1 := hp f (by simp)
    have h2 := (sumB_bound L (fun x hx => by have := hp.tail x hx; omega)).1
    rw [catD, List.length_append, digL_len _ _ _ (Nat.zero_le _), cat_len L V hp.tail (by simpa using h), sumB]
    omega
theorem cat_01 : ∀ (L : List IFld) (V : List Int), (catD L V).all dg01 = true
  | [], V => by simp [catD]
  | f :: L, [] => by simp [catD]
  | f :: L, v :: V => by rw [catD, List.all_append, digL_01, cat_01 L V]; rfl
theorem sub_front (A B C : List UInt8) : subL (A ++ (B ++ C)) A.length (A.length + B.length) = B := by
  unfold subL
  rw [Nat.add_sub_cancel_left, List.drop_left, List.take_left]
/-- values in range -/
def inR (L : List IFld) (V : List Int) : Prop := ∀ (k : Nat) (f : IFld) (v : Int), L[k]? = some f → V[k]? = some v → 0 ≤ v ∧ v ≤ ((2 ^ f.2.toNat - 1 : Nat) : Int)
theorem inR.tail {f : IFld} {L : List IFld} {v : Int} {V : List Int} (h : inR (f :: L) (v :: V)) : inR L V := fun k f' v' h1 h2 => h (k + 1) f' v' (by simpa using h1) (by simpa using h2)
/-- what is packed comes back unpacked -/
theorem uvO_cat : ∀ (L : List IFld) (V : List Int) (A : List UInt8), posB L → V.length = L.length → inR L V → uvO L A.length (A ++ catD L V) = V
  | [], V, A, _, h, _ => by
    rw [uvO]
    exact (List.length_eq_zero_iff.1 (by simpa using h)).symm
  | f :: L, [], A, _, h, _ => by simp at h
  | f :: L, v :: V, A, hp, h, hr => by
    have hD := digL_len f.2.toNat v.toNat 0 (Nat.zero_le _)
    obtain ⟨r1, r2⟩ := hr 0 f v rfl rfl
    have hpos : 0 < 2 ^ f.2.toNat := Nat.pow_pos (by decide)
    rw [uvO, catD]
    have e1 := sub_front A (digL f.2.toNat v.toNat 0) (catD L V)
    rw [hD] at e1
    rw [e1, valF_digL (by omega)]
    have e2 := uvO_cat L V (A ++ digL f.2.toNat v.toNat 0) hp.tail (by simpa using h) hr.tail
    rw [List.length_append, hD, List.append_assoc] at e2
    rw [e2]
    congr 1
    omega
theorem un_pack {L : List IFld} {V : List Int} (hc : chkM L = (0, 0)) (hV : V.length = L.length) (hr : inR L V) : pkM L V = (catD L V, 0) ∧ unM L (catD L V) = (V, 0) := by
  have h0 : (chkM L).1 = 0 := by rw [hc]
  obtain ⟨k1, k2, k3, k4⟩ := chk_ok h0
  constructor
  · unfold pkM
    rw [if_neg (fun h => h h0), if_neg (fun h => h hV), pkF_cat L V [] hr]
    rfl
  · unfold unM
    have hd : hdB (sumB L).toNat (catD L V) = true := by
      unfold hdB
      rw [decide_eq_true (cat_len L V k3 hV), cat_01]
      rfl
    rw [if_neg (fun h => h h0), hd, if_neg (by decide), uvL_uvO L _ k3]
    have := uvO_cat L V [] k3 hV hr
    rw [List.nil_append] at this
    rw [show (0 : Nat) = ([] : List UInt8).length from rfl, this]
theorem pack_un {L : List IFld} {g : List UInt8} (hc : chkM L = (0, 0)) (hl : g.length = (sumB L).toNat) (hg : g.all dg01 = true) : unM L g = (uvL L g, 0) ∧ (uvL L g).length = L.length ∧ pkM L (uvL L g) = (g, 0) := by
  have h0 : (chkM L).1 = 0 := by rw [hc]
  obtain ⟨k1, k2, k3, k4⟩ := chk_ok h0
  have hd : hdB (sumB L).toNat g = true := by
    unfold hdB
    rw [decide_eq_true hl, hg]
    rfl
  refine ⟨?_, uvL_len L g, ?_⟩
  · unfold unM
    rw [if_neg (fun h => h h0), hd, if_neg (by decide)]
  · unfold pkM
    rw [if_neg (fun h => h h0), if_neg (fun h => h (uvL_len L g)), uvL_uvO L g k3]
    have hr : inR L (uvO L 0 g) := fun k f v h1 h2 => by
      rw [uvO_at L 0 g k k3, h1] at h2
      have hv : ((valF 0 (subL g (0 + (sumB (L.take k)).toNat) (0 + (sumB (L.take k)).toNat + f.2.toNat)) : Nat) : Int) = v := Option.some.inj h2
      have hb := k3 f (List.mem_of_getElem? h1)
      have hlt := valF_lt (subL g (0 + (sumB (L.take k)).toNat) (0 + (sumB (L.take k)).toNat + f.2.toNat))
      have hle : (subL g (0 + (sumB (L.take k)).toNat) (0 + (sumB (L.take k)).toNat + f.2.toNat)).length ≤ f.2.toNat := by unfold subL; rw [List.length_take]; omega
      have hp := Nat.pow_le_pow_right (n := 2) (by decide) hle
      rw [← hv]
      omega
    rw [pkF_cat L _ [] hr, List.nil_append, cat_uvO L 0 g k3 hg (by omega)]
    unfold subL
    rw [List.drop_zero, Nat.zero_add, Nat.sub_zero, ← hl, List.take_length]
end Go.Proofs.YtnobpeghofoniaaGreatDoor
namespace Go.Proofs.YtnobpeghofoniaaGreatDoor
open Go.RowKit Go.Shelf
theorem near_eq {n m : Int} (hm : 0 < m) : (if n.tmod m < 0 then n.tmod m + m else n.tmod m) = n % m := by
  have hd : n = m * n.tdiv m + n.tmod m := (Int.mul_tdiv_add_tmod n m).symm
  have h1 : n.tmod m < m := Int.tmod_lt_of_pos n hm
  have h2 : -m < n.tmod m := by
    rcases Int.lt_or_le n 0 with h | h
    · have := Int.tmod_lt_of_pos (-n) hm
      rw [Int.neg_tmod] at this
      omega
    · have := Int.tmod_nonneg m h
      omega
  obtain ⟨t, ht⟩ : ∃ t, n.tmod m = t := ⟨_, rfl⟩
  obtain ⟨q, hq⟩ : ∃ q, n.tdiv m = q := ⟨_, rfl⟩
  rw [ht] at hd h1 h2 ⊢
  rw [hq] at hd
  have e : n % m = t % m := by rw [hd, Int.add_comm, Int.add_mul_emod_self_left]
  rw [e]
  by_cases h : t < 0
  · rw [if_pos h]
    have : t % m = (t + m) % m := by rw [Int.add_emod_right]
    rw [this, Int.emod_eq_of_lt (by omega) (by omega)]
  · rw [if_neg h, Int.emod_eq_of_lt (by omega) h1]
/-- a layout out of any numbers -/
def lyF : Nat → List Int → List IFld
  | _, [] => []
  | i, x :: r => if i < 8 then ([UInt8.ofNat (97 + i)], 1 + x % 32) :: lyF (i + 1) r else []
def lyL (ws : List Int) : List IFld := if ws = [] then [([97], 5)] else lyF 0 ws
theorem lyF_len : ∀ (ws : List Int) (i : Nat), (lyF i ws).length ≤ 8 - i
  | [], i => Nat.zero_le _
  | x :: r, i => by
    rw [lyF]
    by_cases h : i < 8
    · rw [if_pos h, List.length_cons]
      have := lyF_len r (i + 1)
      omega
    · rw [if_neg h]
      exact Nat.zero_le _
theorem lyF_mem : ∀ (ws : List Int) (i : Nat) (f : IFld), f ∈ lyF i ws → ∃ (j : Nat) (x : Int), i ≤ j ∧ j < 8 ∧ f = ([UInt8.ofNat (97 + j)], 1 + x % 32)
  | [], i, f, h => by cases h
  | x :: r, i, f, h => by
    rw [lyF] at h
    by_cases h8 : i < 8
    · rw [if_pos h8] at h
      rcases List.mem_cons.1 h with e | e
      · exact ⟨i, x, Nat.le_refl _, h8, e⟩
      · obtain ⟨j, y, h1, h2, h3⟩ := lyF_mem r (i + 1) f e
        exact ⟨j, y, by omega, h2, h3⟩
    · rw [if_neg h8] at h
      cases h
theorem name_ne : ∀ i j : Fin 8, i < j → ([UInt8.ofNat (97 + i.val)] : List UInt8) ≠ [UInt8.ofNat (97 + j.val)] := by decide
theorem name_nm : ∀ i : Fin 8, nmB [UInt8.ofNat (97 + i.val)] = true := by decide
theorem lyF_nodup : ∀ (ws : List Int) (i : Nat), ((lyF i ws).map (·.1)).Nodup
  | [], i => List.nodup_nil
  | x :: r, i => by
    rw [lyF]
    by_cases h8 : i < 8
    · rw [if_pos h8, List.map_cons, List.nodup_cons]
      refine ⟨fun hm => ?_, lyF_nodup r (i + 1)⟩
      obtain ⟨f, hf, he⟩ := List.mem_map.1 hm
      obtain ⟨j, y, h1, h2, rfl⟩ := lyF_mem r (i + 1) f hf
      exact name_ne ⟨i, h8⟩ ⟨j, h2⟩ (by show i < j; omega) he.symm
    · rw [if_neg h8]
      exact List.nodup_nil
theorem ly_fld {ws : List Int} {f : IFld} (h : f ∈ lyL ws) : sizB f = true ∧ nmB f.1 = true := by
  unfold lyL at h
  by_cases h0 : ws = []
  · rw [if_pos h0] at h
    rw [List.mem_singleton.1 h]
    decide
  · rw [if_neg h0] at h
    obtain ⟨j, x, -, h2, rfl⟩ := lyF_mem ws 0 f h
    refine ⟨?_, name_nm ⟨j, h2⟩⟩
    unfold sizB
    simp only [Bool.and_eq_true, decide_eq_true_eq]
    omega
theorem ly_len (ws : List Int) : 0 < (lyL ws).length ∧ (lyL ws).length ≤ 8 := by
  unfold lyL
  by_cases h0 : ws = []
  · rw [if_pos h0]
    decide
  · rw [if_neg h0]
    have := lyF_len ws 0
    refine ⟨?_, by omega⟩
    cases ws with
    | nil => exact absurd rfl h0
    | cons x r => rw [lyF, if_pos (by decide)]; simp
theorem ly_chk (ws : List Int) : chkM (lyL ws) = (0, 0) := by
  obtain ⟨l1, l2⟩ := ly_len ws
  have hb : ∀ f ∈ lyL ws, 0 ≤ f.2 ∧ f.2 ≤ 32 := fun f hf => by
    have := (ly_fld hf).1
    unfold sizB at this
    simp only [Bool.and_eq_true, decide_eq_true_eq] at this
    omega
  refine chk_of l1 (by omega) (fun f hf => ly_fld hf) ?_ ?_
  · unfold lyL
    split
    · decide
    · exact lyF_nodup ws 0
  · have := (sumB_bound (lyL ws) hb).2
    omega
/-- the header of a text's lowest bits -/
def hdG (n : Nat) (s : List UInt8) : List UInt8 := (List.range n).map fun j => if j < s.length ∧ (s.getD j 0).toNat % 2 = 1 then 49 else 48
theorem hdG_len (n : Nat) (s : List UInt8) : (hdG n s).length = n := by simp [hdG]
theorem hdG_succ (n : Nat) (s : List UInt8) : hdG (n + 1) s = hdG n s ++ [if n < s.length ∧ (s.getD n 0).toNat % 2 = 1 then 49 else 48] := by
  unfold hdG
  rw [List.range_succ, List.map_append]
  rfl
theorem hdG_01 (n : Nat) (s : List UInt8) : (hdG n s).all dg01 = true := by
  rw [List.all_eq_true]
  intro c hc
  obtain ⟨j, -, rfl⟩ := List.mem_map.1 hc
  split <;> rfl
/-- any numbers brought into the fields' ranges -/
def vlF : Nat → List IFld → List Int → List Int
  | _, [], _ => []
  | i, f :: L, V => ((if i < V.length then V.getD i 0 else (i : Int)) % ((2 ^ f.2.toNat : Nat) : Int)) :: vlF (i + 1) L V
theorem vlF_len : ∀ (L : List IFld) (i : Nat) (V : List Int), (vlF i L V).length = L.length
  | [], _, _ => rfl
  | f :: L, i, V => by rw [vlF, List.length_cons, vlF_len L, List.length_cons]
theorem vlF_at : ∀ (L : List IFld) (i k : Nat) (V : List Int) (f : IFld), L[k]? = some f → (vlF i L V)[k]? = some ((if i + k < V.length then V.getD (i + k) 0 else ((i + k : Nat) : Int)) % ((2 ^ f.2.toNat : Nat) : Int))
  | f :: L, i, 0, V, g, h => by
    simp at h
    subst h
    rfl
  | f :: L, i, k + 1, V, g, h => by
    rw [vlF, List.getElem?_cons_succ, vlF_at L (i + 1) k V g (by simpa using h), show i + 1 + k = i + (k + 1) by omega]
theorem vlF_in (L : List IFld) (V : List Int) : inR L (vlF 0 L V) := fun k f v h1 h2 => by
  rw [vlF_at L 0 k V f h1] at h2
  have hv := Option.some.inj h2
  have hpos : 0 < 2 ^ f.2.toNat := Nat.pow_pos (by decide)
  obtain ⟨P, hP⟩ : ∃ P : Nat, 2 ^ f.2.toNat = P := ⟨_, rfl⟩
  rw [hP] at hv hpos ⊢
  rw [← hv]
  have h3 := Int.emod_nonneg (if 0 + k < V.length then V.getD (0 + k) 0 else ((0 + k : Nat) : Int)) (show (P : Int) ≠ 0 by omega)
  have h4 := Int.emod_lt_of_pos (if 0 + k < V.length then V.getD (0 + k) 0 else ((0 + k : Nat) : Int)) (show (0 : Int) < (P : Int) by omega)
  omega
end Go.Proofs.YtnobpeghofoniaaGreatDoor
namespace Go.Proofs.YtnobpeghofoniaaGreatDoor
open Go.RowKit Go.Shelf
/-- the value that the sets give to a name -/
def gvN : List IFld → List UInt8 → Option Int
  | [], _ => none
  | s :: S, x => if s.1 = x then some s.2 else gvN S x
theorem gvN_none : ∀ (S : List IFld) (x : List UInt8), (∀ s ∈ S, s.1 ≠ x) → gvN S x = none
  | [], _, _ => rfl
  | s :: S, x, h => by
    rw [gvN, if_neg (h s (by simp))]
    exact gvN_none S x (fun t ht => h t (by simp [ht]))
theorem gvN_mem : ∀ (S : List IFld) (x : List UInt8) (v : Int), gvN S x = some v → ∃ s ∈ S, s.1 = x ∧ s.2 = v
  | [], x, v, h => by cases h
  | s :: S, x, v, h => by
    rw [gvN] at h
    split at h
    · rename_i e
      exact ⟨s, by simp, e, Option.some.inj h⟩
    · obtain ⟨t, h1, h2⟩ := gvN_mem S x v h
      exact ⟨t, by simp [h1], h2⟩
theorem gvN_app : ∀ (S : List IFld) (s : IFld) (x : List UInt8), s.1 ≠ x → gvN (S ++ [s]) x = gvN S x
  | [], s, x, h => by
    show (if s.1 = x then some s.2 else none) = none
    rw [if_neg h]
  | t :: S, s, x, h => by
    rw [List.cons_append, gvN, gvN, gvN_app S s x h]
theorem gvN_snoc : ∀ (S : List IFld) (s : IFld), (∀ t ∈ S, t.1 ≠ s.1) → gvN (S ++ [s]) s.1 = some s.2
  | [], s, _ => by rw [List.nil_append, gvN, if_pos rfl]
  | t :: S, s, h => by
    rw [List.cons_append, gvN, if_neg (h t (by simp))]
    exact gvN_snoc S s (fun u hu => h u (by simp [hu]))
/-- a field's places in the word -/
def blk (f : IFld) : Option Int → List UInt8
  | some v => digL f.2.toNat v.toNat 0
  | none => List.replicate f.2.toNat 120
theorem blk_len (f : IFld) (o : Option Int) : (blk f o).length = f.2.toNat := by
  cases o with
  | none => simp [blk]
  | some v => exact digL_len _ _ _ (Nat.zero_le _)
/-- the word of the sets -/
def blkW (S : List IFld) : List IFld → List UInt8
  | [] => []
  | f :: L => blk f (gvN S f.1) ++ blkW S L
theorem blkW_len (S : List IFld) : ∀ L : List IFld, posB L → (blkW S L).length = (sumB L).toNat
  | [], _ => rfl
  | f :: L, hp => by
    have h1 := hp f (by simp)
    have h2 := (sumB_bound L (fun x hx => by have := hp.tail x hx; omega)).1
    rw [blkW, List.length_append, blk_len, blkW_len S L hp.tail, sumB]
    omega
theorem blkW_app (S : List IFld) : ∀ A B : List IFld, blkW S (A ++ B) = blkW S A ++ blkW S B
  | [], B => rfl
  | f :: A, B => by rw [List.cons_append, blkW, blkW, blkW_app S A B, List.append_assoc]
theorem blkW_nil : ∀ L : List IFld, posB L → blkW [] L = List.replicate (sumB L).toNat 120
  | [], _ => rfl
  | f :: L, hp => by
    have h1 := hp f (by simp)
    have h2 := (sumB_bound L (fun x hx => by have := hp.tail x hx; omega)).1
    rw [blkW, blkW_nil L hp.tail, gvN, blk, List.replicate_append_replicate, sumB]
    congr 1
    omega
theorem blkW_add (S : List IFld) (s : IFld) : ∀ L : List IFld, (∀ f ∈ L, s.1 ≠ f.1) → blkW (S ++ [s]) L = blkW S L
  | [], _ => rfl
  | f :: L, h => by
    rw [blkW, blkW, gvN_app S s f.1 (h f (by simp)), blkW_add S s L (fun g hg => h g (by simp [hg]))]
theorem blkW_put {L S : List IFld} {k : Nat} {f s : IFld} (hf : L[k]? = some f) (hn : (L.map (·.1)).Nodup) (hp : posB L) (hfs : f.1 = s.1) (hno : ∀ t ∈ S, t.1 ≠ s.1) :
    putL (blkW S L) (sumB (L.take k)).toNat (digL f.2.toNat s.2.toNat 0) = blkW (S ++ [s]) L := by
  obtain ⟨hk, e⟩ := List.getElem?_eq_some_iff.1 hf
  have eL : L = L.take k ++ (f :: L.drop (k + 1)) := by rw [← e, ← List.drop_eq_getElem_cons hk, List.take_append_drop]
  have hpA : posB (L.take k) := fun g hg => hp g (List.mem_of_mem_take hg)
  obtain ⟨A, hA⟩ : ∃ A, L.take k = A := ⟨_, rfl⟩
  obtain ⟨B, hB⟩ : ∃ B, L.drop (k + 1) = B := ⟨_, rfl⟩
  rw [hA] at hpA eL ⊢
  rw [hB] at eL
  subst eL
  rw [List.map_append, List.map_cons, List.nodup_append] at hn
  obtain ⟨_, n2, n3⟩ := hn
  have dA : ∀ g ∈ A, s.1 ≠ g.1 := fun g hg h => n3 g.1 (List.mem_map_of_mem hg) f.1 (by simp) (by rw [hfs, h])
  have dB : ∀ g ∈ B, s.1 ≠ g.1 := fun g hg h => (List.nodup_cons.1 n2).1 (by rw [hfs, h]; exact List.mem_map_of_mem hg)
  have hlen := blkW_len S A hpA
  have hm := putL_mid (digL f.2.toNat s.2.toNat 0) (blkW S A) (blk f (gvN S f.1)) (blkW S B) (by rw [blk_len]; exact digL_len _ _ _ (Nat.zero_le _))
  rw [hlen] at hm
  rw [blkW_app, blkW, hm, blkW_app, blkW, blkW_add S s A dA, blkW_add S s B dB, hfs, gvN_snoc S s hno, blk]
theorem idxG_at : ∀ (L : List IFld) (i k : Nat) (f : IFld), (L.map (·.1)).Nodup → L[k]? = some f → idxG i L f.1 = ((i + k : Nat) : Int)
  | [], i, k, f, _, h => by simp at h
  | g :: L, i, 0, f, _, h => by
    simp at h
    subst h
    rw [idxG, if_pos rfl]
    rfl
  | g :: L, i, k + 1, f, hn, h => by
    rw [List.map_cons, List.nodup_cons] at hn
    have h' : L[k]? = some f := by simpa using h
    rw [idxG, if_neg (fun e => hn.1 (by rw [e]; exact List.mem_map_of_mem (List.mem_of_getElem? h'))), idxG_at L (i + 1) k f hn.2 h']
    congr 1
    omega
theorem idxF_at {L : List IFld} {k : Nat} {f : IFld} (hn : (L.map (·.1)).Nodup) (h : L[k]? = some f) : idxF L f.1 = (k : Int) := by
  unfold idxF
  rw [idxG_at L 0 k f hn h, Nat.zero_add]
/-- a set that Word takes -/
def setB (L : List IFld) (s : IFld) : Prop := ∃ (k : Nat) (f : IFld), L[k]? = some f ∧ f.1 = s.1 ∧ 0 ≤ s.2 ∧ s.2 ≤ ((2 ^ f.2.toNat - 1 : Nat) : Int)
theorem wdF_ok {L : List IFld} (hp : posB L) (hn : (L.map (·.1)).Nodup) : ∀ (S seen : List IFld), (∀ s ∈ S, setB L s) → ((seen ++ S).map (·.1)).Nodup → wdF L seen S (blkW seen L) = (blkW (seen ++ S) L, 0)
  | [], seen, _, _ => by rw [wdF, List.append_nil]
  | s :: S, seen, hs, hd => by
    obtain ⟨k, f, hf, hfs, v0, v1⟩ := hs s (by simp)
    have hi : idxF L s.1 = (k : Int) := by rw [← hfs]; exact idxF_at hn hf
    have hgd : L.getD k ([], 0) = f := by simp [List.getD, hf]
    have hno : ∀ t ∈ seen, t.1 ≠ s.1 := fun t ht h => by
      rw [List.map_append, List.map_cons, List.nodup_append] at hd
      exact hd.2.2 t.1 (List.mem_map_of_mem ht) s.1 (by simp) h
    have hng : ¬ 0 ≤ idxF seen s.1 := fun h => by
      obtain ⟨t, h1, h2⟩ := idxF_ge.1 h
      exact hno t h1 h2
    rw [wdF, hi, if_neg (by omega), if_neg hng, Int.toNat_natCast, hgd, if_pos ⟨v0, v1⟩, blkW_put hf hn hp hfs hno, wdF_ok hp hn S (seen ++ [s]) (fun t ht => hs t (by simp [ht])) (by rw [List.append_assoc]; exact hd), List.append_assoc]
    rfl
theorem wdM_ok {L S : List IFld} (hc : chkM L = (0, 0)) (hn : (L.map (·.1)).Nodup) (h12 : S.length ≤ 12) (hs : ∀ s ∈ S, setB L s) (hd : (S.map (·.1)).Nodup) : wdM L S = (blkW S L, 0) := by
  have h0 : (chkM L).1 = 0 := by rw [hc]
  obtain ⟨k1, k2, k3, k4⟩ := chk_ok h0
  unfold wdM
  rw [if_neg (by omega), if_neg (fun h => h h0), ← blkW_nil L k3, wdF_ok k3 hn S [] hs (by simpa using hd), List.nil_append]
/-- a header over which a word is written -/
def ovW : List UInt8 → List UInt8 → List UInt8 := List.zipWith (fun a b => if a = 120 then b else a)
theorem ov_x : ∀ (h : List UInt8) (n : Nat), n = h.length → ovW (List.replicate n 120) h = h
  | [], n, _ => by simp [ovW]
  | c :: h, 0, e => by simp at e
  | c :: h, n + 1, e => by
    have := ov_x h n (by simpa using e)
    unfold ovW at this ⊢
    rw [List.replicate_succ, List.zipWith_cons_cons, this, if_pos rfl]
theorem ov_01 : ∀ (D h : List UInt8), D.all dg01 = true → D.length = h.length → ovW D h = D
  | [], h, _, _ => by simp [ovW]
  | c :: D, [], _, e => by simp at e
  | c :: D, d :: h, hD, e => by
    rw [List.all_cons, Bool.and_eq_true] at hD
    have := ov_01 D h hD.2 (by simpa using e)
    unfold ovW at this ⊢
    rw [List.zipWith_cons_cons, this, if_neg (fun e => by rw [e] at hD; exact absurd hD.1 (by decide))]
/-- the values that the header has behind it -/
def wnL (S : List IFld) : List IFld → List UInt8 → List Int
  | [], _ => []
  | f :: L, h => (match gvN S f.1 with | some v => v | none => (valF 0 (h.take f.2.toNat) : Int)) :: wnL S L (h.drop f.2.toNat)
theorem wnL_len (S : List IFld) : ∀ (L : List IFld) (h : List UInt8), (wnL S L h).length = L.length
  | [], _ => rfl
  | f :: L, h => by rw [wnL, List.length_cons, wnL_len S L, List.length_cons]
theorem wnL_at (S : List IFld) (h : List UInt8) : ∀ (L : List IFld) (p k : Nat), posB L → (wnL S L (h.drop p))[k]? = (L[k]?).map fun f => match gvN S f.1 with | some v => v | none => (valF 0 (subL h (p + (sumB (L.take k)).toNat) (p + (sumB (L.take k)).toNat + f.2.toNat)) : Int)
  | [], p, k, _ => by simp [wnL]
  | f :: L, p, 0, _ => by simp [wnL, sumB, subL]
  | f :: L, p, k + 1, hp => by
    have h1 := hp f (by simp)
    have h2 := (sumB_bound (L.take k) (fun x hx => by have := hp.tail x (List.mem_of_mem_take hx); omega)).1
    rw [wnL, List.getElem?_cons_succ, List.drop_drop, wnL_at S h L (p + f.2.toNat) k hp.tail, List.getElem?_cons_succ, List.take_succ_cons, sumB]
    rw [show p + (f.2 + sumB (L.take k)).toNat = p + f.2.toNat + (sumB (L.take k)).toNat by omega]
theorem ov_len (A B : List UInt8) (h : A.length = B.length) : (ovW A B).length = B.length := by
  unfold ovW
  rw [List.length_zipWith]
  omega
theorem uvO_ov (S : List IFld) : ∀ (L : List IFld) (A h : List UInt8), posB L → h.length = (sumB L).toNat → (∀ f ∈ L, ∀ v, gvN S f.1 = some v → 0 ≤ v ∧ v ≤ ((2 ^ f.2.toNat - 1 : Nat) : Int)) → uvO L A.length (A ++ ovW (blkW S L) h) = wnL S L h
  | [], A, h, _, _, _ => rfl
  | f :: L, A, h, hp, hl, hv => by
    have h1 := hp f (by simp)
    have h2 := (sumB_bound L (fun x hx => by have := hp.tail x hx; omega)).1
    have e : (sumB (f :: L)).toNat = f.2.toNat + (sumB L).toNat := by rw [sumB]; omega
    rw [e] at hl
    have ht : (h.take f.2.toNat).length = f.2.toNat := by rw [List.length_take]; omega
    have hpos : 0 < 2 ^ f.2.toNat := Nat.pow_pos (by decide)
    have eO : ovW (blkW S (f :: L)) h = ovW (blk f (gvN S f.1)) (h.take f.2.toNat) ++ ovW (blkW S L) (h.drop f.2.toNat) := by
      have : ovW (blkW S (f :: L)) (h.take f.2.toNat ++ h.drop f.2.toNat) = _ := List.zipWith_append (by rw [blk_len, ht])
      rw [List.take_append_drop] at this
      exact this
    have hB : (ovW (blk f (gvN S f.1)) (h.take f.2.toNat)).length = f.2.toNat := by rw [ov_len _ _ (by rw [blk_len, ht]), ht]
    rw [uvO, eO, wnL]
    have e1 := sub_front A (ovW (blk f (gvN S f.1)) (h.take f.2.toNat)) (ovW (blkW S L) (h.drop f.2.toNat))
    rw [hB] at e1
    rw [e1]
    have e2 := uvO_ov S L (A ++ ovW (blk f (gvN S f.1)) (h.take f.2.toNat)) (h.drop f.2.toNat) hp.tail (by rw [List.length_drop]; omega) (fun g hg => hv g (by simp [hg]))
    rw [List.length_append, hB, List.append_assoc] at e2
    rw [e2]
    congr 1
    cases hg : gvN S f.1 with
    | none =>
      rw [blk, ov_x _ _ ht.symm]
    | some v =>
      obtain ⟨r1, r2⟩ := hv f (by simp) v hg
      rw [blk, ov_01 _ _ (digL_01 _ _) (by rw [digL_len _ _ _ (Nat.zero_le _), ht]), valF_digL (by omega)]
      show ((v.toNat : Nat) : Int) = v
      omega
theorem ov_all (S : List IFld) : ∀ (L : List IFld) (h : List UInt8), h.length = (sumB L).toNat → posB L → h.all dg01 = true → (ovW (blkW S L) h).all dg01 = true
  | [], h, _, _, _ => by simp [blkW, ovW]
  | f :: L, h, hl, hp, hh => by
    have h1 := hp f (by simp)
    have h2 := (sumB_bound L (fun x hx => by have := hp.tail x hx; omega)).1
    have e : (sumB (f :: L)).toNat = f.2.toNat + (sumB L).toNat := by rw [sumB]; omega
    rw [e] at hl
    have ht : (h.take f.2.toNat).length = f.2.toNat := by rw [List.length_take]; omega
    have eO : ovW (blkW S (f :: L)) h = ovW (blk f (gvN S f.1)) (h.take f.2.toNat) ++ ovW (blkW S L) (h.drop f.2.toNat) := by
      have : ovW (blkW S (f :: L)) (h.take f.2.toNat ++ h.drop f.2.toNat) = _ := List.zipWith_append (by rw [blk_len, ht])
      rw [List.take_append_drop] at this
      exact this
    have hs : (h.take f.2.toNat).all dg01 = true ∧ (h.drop f.2.toNat).all dg01 = true := by
      rw [← List.take_append_drop f.2.toNat h, List.all_append, Bool.and_eq_true] at hh
      exact hh
    rw [eO, List.all_append, ov_all S L (h.drop f.2.toNat) (by rw [List.length_drop]; omega) hp.tail hs.2, Bool.and_true]
    cases gvN S f.1 with
    | none => rw [blk, ov_x _ _ ht.symm]; exact hs.1
    | some v => rw [blk, ov_01 _ _ (digL_01 _ _) (by rw [digL_len _ _ _ (Nat.zero_le _), ht])]; exact digL_01 _ _
/-- a header over which the word of sets is written has their values, and its own in all others -/
theorem un_ov {L S : List IFld} {h : List UInt8} (hc : chkM L = (0, 0)) (hl : h.length = (sumB L).toNat) (hh : h.all dg01 = true) (hv : ∀ f ∈ L, ∀ v, gvN S f.1 = some v → 0 ≤ v ∧ v ≤ ((2 ^ f.2.toNat - 1 : Nat) : Int)) :
    unM L (ovW (blkW S L) h) = (wnL S L h, 0) := by
  have h0 : (chkM L).1 = 0 := by rw [hc]
  obtain ⟨k1, k2, k3, k4⟩ := chk_ok h0
  have hlen : (ovW (blkW S L) h).length = (sumB L).toNat := by rw [ov_len _ _ (by rw [blkW_len S L k3, hl]), hl]
  obtain ⟨u1, u2, _⟩ := pack_un hc hlen (ov_all S L h hl k3 hh)
  have := uvO_ov S L [] h k3 hl hv
  rw [u1, uvL_uvO L _ k3]
  rw [List.nil_append] at this
  rw [show (0 : Nat) = ([] : List UInt8).length from rfl, this]
end Go.Proofs.YtnobpeghofoniaaGreatDoor
