import Derived.Test.YtodhcnjkiollaaaGreatDoorZ36
namespace Go.Proofs.YtodhcnjkiollaaaGreatDoor
open Go.RowKit Go.Shelf
/-- all fields have bits -/
def posB (L : List IFld) : Prop := ∀ f ∈ L, 1 ≤ f.2 ∧ f.2 ≤ 32
theorem posB.tail {f : IFld} {L : List IFld} (h : posB (f :: L)) : posB L := fun g hg => h g (by simp [hg])
/-- the values from a place on -/
def uvO : List IFld → Nat → List UInt8 → List Int
  | [], _, _ => []
  | f :: L, p, g => (valF 0 (subL g p (p + f.2.toNat)) : Int) :: uvO L (p + f.2.toNat) g
theorem uvO_at : ∀ (L : List IFld) (p : Nat) (g : List UInt8) (k : Nat), posB L → (uvO L p g)[k]? = (L[k]?).map fun f => (valF 0 (subL g (p + (sumB (L.take k)).toNat) (p + (sumB (L.take k)).toNat + f.2.toNat)) : Int)
  | [], p, g, k, _ => by simp [uvO]
  | f :: L, p, g, 0, _ => by simp [uvO, sumB]
  | f :: L, p, g, k + 1, h => by
    have h1 := h f (by simp)
    have h2 := (sumB_bound (L.take k) (fun x hx => by have := h.tail x (List.mem_of_mem_take hx); omega)).1
    rw [uvO, List.getElem?_cons_succ, uvO_at L (p + f.2.toNat) g k h.tail, List.getElem?_cons_succ, List.take_succ_cons, sumB]
    rw [show p + (f.2 + sumB (L.take k)).toNat = p + f.2.toNat + (sumB (L.take k)).toNat by omega]
theorem uvL_uvO (L : List IFld) (g : List UInt8) (h : posB L) : uvL L g = uvO L 0 g := by
  apply List.ext_getElem?
  intro k
  rw [uvO_at L 0 g k h]
  unfold uvL plN
  by_cases hk : k < L.length
  · obtain ⟨f, hf⟩ : ∃ f, L[k]? = some f := ⟨_, List.getElem?_eq_getElem hk⟩
    rw [List.getElem?_map, List.getElem?_range hk, hf]
    simp [List.getD, hf]
  · rw [List.getElem?_eq_none (by simp; omega), List.getElem?_eq_none (by omega)]
    rfl
theorem uvO_len : ∀ (L : List IFld) (p : Nat) (g : List UInt8), (uvO L p g).length = L.length
  | [], _, _ => rfl
  | f :: L, p, g => by rw [uvO, List.length_cons, uvO_len L, List.length_cons]
theorem sub_sub {g : List UInt8} {p a b : Nat} : subL g p (p + a) ++ subL g (p + a) (p + a + b) = subL g p (p + (a + b)) := by
  unfold subL
  rw [Nat.add_sub_cancel_left, Nat.add_sub_cancel_left, Nat.add_sub_cancel_left, ← List.drop_drop, List.take_add]
/-- what is unpacked comes back packed -/
theorem cat_uvO : ∀ (L : List IFld) (p : Nat) (g : List UInt8), posB L → g.all dg01 = true → p + (sumB L).toNat ≤ g.length → catD L (uvO L p g) = subL g p (p + (sumB L).toNat)
  | [], p, g, _, _, _ => by simp [catD, sumB, subL]
  | f :: L, p, g, hp, hg, hl => by
    have h1 := hp f (by simp)
    have h2 := (sumB_bound L (fun x hx => by have := hp.tail x hx; omega)).1
    have e : (sumB (f :: L)).toNat = f.2.toNat + (sumB L).toNat := by rw [sumB]; omega
    rw [e] at hl ⊢
    rw [uvO, catD, Int.toNat_natCast, cat_uvO L (p + f.2.toNat) g hp.tail hg (by omega)]
    have hY : (subL g p (p + f.2.toNat)).length = f.2.toNat := by unfold subL; rw [List.length_take, List.length_drop]; omega
    have := digL_valF (sub_all (a := p) (b := p + f.2.toNat) hg)
    rw [hY] at this
    rw [this, sub_sub]
theorem cat_len : ∀ (L : List IFld) (V : List Int), posB L → V.length = L.length → (catD L V).length = (sumB L).toNat
  | [], V, _, _ => by simp [catD, sumB]
  | f :: L, [], _, h => by simp at h
  | f :: L, v :: V, hp, h => by
    have h1 := hp f (by simp)
    have h2 := (sumB_bound L (fun x hx => by have := hp.tail x hx; omega)).1
    rw [catD, List.length_append, digL_len _ _ _ (Nat.zero_le _), cat_len L V hp.tail (by simpa using h), sumB]
    omega
theorem cat_01 : ∀ (L : List IFld) (V : List Int), (catD L V).all dg01 = true
  | [], V => by simp [catD]
  | f :: L, [] => by simp [catD]
  | f :: L, v :: V => by rw [catD, List.all_append, digL_01, cat_01 L V]; rfl
theorem sub_front (A B C : List UInt8) : subL (A ++ (B ++ C)) A.length (A.length + B.length) = B := by
  unfold subL
  rw [Nat.add_sub_cancel_left, List.drop_left, List.take_left]
/-- values in range -/
def inR (L : List IFld) (V : List Int) : Prop := ∀ (k : Nat) (f : IFld) (v : Int), L[k]? = some f → V[k]? = some v → 0 ≤ v ∧ v ≤ ((2 ^ f.2.toNat - 1 : Nat) : Int)
theorem inR.tail {f : IFld} {L : List IFld} {v : Int} {V : List Int} (h : inR (f :: L) (v :: V)) : inR L V := fun k f' v' h1 h2 => h (k + 1) f' v' (by simpa using h1) (by simpa using h2)
/-- what is packed comes back unpacked -/
theorem uvO_cat : ∀ (L : List IFld) (V : List Int) (A : List UInt8), posB L → V.length = L.length → inR L V → uvO L A.length (A ++ catD L V) = V
  | [], V, A, _, h, _ => by
    rw [uvO]
    exact (List.length_eq_zero_iff.1 (by simpa using h)).symm
  | f :: L, [], A, _, h, _ => by simp at h
  | f :: L, v :: V, A, hp, h, hr => by
    have hD := digL_len f.2.toNat v.toNat 0 (Nat.zero_le _)
    obtain ⟨r1, r2⟩ := hr 0 f v rfl rfl
    have hpos : 0 < 2 ^ f.2.toNat := Nat.pow_pos (by decide)
    rw [uvO, catD]
    have e1 := sub_front A (digL f.2.toNat v.toNat 0) (catD L V)
    rw [hD] at e1
    rw [e1, valF_digL (by omega)]
    have e2 := uvO_cat L V (A ++ digL f.2.toNat v.toNat 0) hp.tail (by simpa using h) hr.tail
    rw [List.length_append, hD, List.append_assoc] at e2
    rw [e2]
    congr 1
    omega
theorem un_pack {L : List IFld} {V : List Int} (hc : chkM L = (0, 0)) (hV : V.length = L.length) (hr : inR L V) : pkM L V = (catD L V, 0) ∧ unM L (catD L V) = (V, 0) := by
  have h0 : (chkM L).1 = 0 := by rw [hc]
  obtain ⟨k1, k2, k3, k4⟩ := chk_ok h0
  constructor
  · unfold pkM
    rw [if_neg (fun h => h h0), if_neg (fun h => h hV), pkF_cat L V [] hr]
    rfl
  · unfold unM
    have hd : hdB (sumB L).toNat (catD L V) = true := by
      unfold hdB
      rw [decide_eq_true (cat_len L V k3 hV), cat_01]
      rfl
    rw [if_neg (fun h => h h0), hd, if_neg (by decide), uvL_uvO L _ k3]
    have := uvO_cat L V [] k3 hV hr
    rw [List.nil_append] at this
    rw [show (0 : Nat) = ([] : List UInt8).length from rfl, this]
theorem pack_un {L : List IFld} {g : List UInt8} (hc : chkM L = (0, 0)) (hl : g.length = (sumB L).toNat) (hg : g.all dg01 = true) : unM L g = (uvL L g, 0) ∧ (uvL L g).length = L.length ∧ pkM L (uvL L g) = (g, 0) := by
  have h0 : (chkM L).1 = 0 := by rw [hc]
  obtain ⟨k1, k2, k3, k4⟩ := chk_ok h0
  have hd : hdB (sumB L).toNat g = true := by
    unfold hdB
    rw [decide_eq_true hl, hg]
    rfl
  refine ⟨?_, uvL_len L g, ?_⟩
  · unfold unM
    rw [if_neg (fun h => h h0), hd, if_neg (by decide)]
  · unfold pkM
    rw [if_neg (fun h => h h0), if_neg (fun h => h (uvL_len L g)), uvL_uvO L g k3]
    have hr : inR L (uvO L 0 g) := fun k f v h1 h2 => by
      rw [uvO_at L 0 g k k3, h1] at h2
      have hv : ((valF 0 (subL g (0 + (sumB (L.take k)).toNat) (0 + (sumB (L.take k)).toNat + f.2.toNat)) : Nat) : Int) = v := Option.some.inj h2
      have hb := k3 f (List.mem_of_getElem? h1)
      have hlt := valF_lt (subL g (0 + (sumB (L.take k)).toNat) (0 + (sumB (L.take k)).toNat + f.2.toNat))
      have hle : (subL g (0 + (sumB (L.take k)).toNat) (0 + (sumB (L.take k)).toNat + f.2.toNat)).length ≤ f.2.toNat := by unfold subL; rw [List.length_take]; omega
      have hp := Nat.pow_le_pow_right (n := 2) (by decide) hle
      rw [← hv]
      omega
    rw [pkF_cat L _ [] hr, List.nil_append, cat_uvO L 0 g k3 hg (by omega)]
    unfold subL
    rw [List.drop_zero, Nat.zero_add, Nat.sub_zero, ← hl, List.take_length]
end Go.Proofs.YtodhcnjkiollaaaGreatDoor
namespace Go.Proofs.YtodhcnjkiollaaaGreatDoor
open Go.RowKit Go.Shelf
theorem near_eq {n m : Int} (hm : 0 < m) : (if n.tmod m < 0 then n.tmod m + m else n.tmod m) = n % m := by
  have hd : n = m * n.tdiv m + n.tmod m := (Int.mul_tdiv_add_tmod n m).symm
  have h1 : n.tmod m < m := Int.tmod_lt_of_pos n hm
  have h2 : -m < n.tmod m := by
    rcases Int.lt_or_le n 0 with h | h
    · have := Int.tmod_lt_of_pos (-n) hm
      rw [Int.neg_tmod] at this
      omega
    · have := Int.tmod_nonneg m h
      omega
  obtain ⟨t, ht⟩ : ∃ t, n.tmod m = t := ⟨_, rfl⟩
  obtain ⟨q, hq⟩ : ∃ q, n.tdiv m = q := ⟨_, rfl⟩
  rw [ht] at hd h1 h2 ⊢
  rw [hq] at hd
  have e : n % m = t % m := by rw [hd, Int.add_comm, Int.add_mul_emod_self_left]
  rw [e]
  by_cases h : t < 0
  · rw [if_pos h]
    have : t % m = (t + m) % m := by rw [Int.add_emod_right]
    rw [this, Int.emod_eq_of_lt (by omega) (by omega)]
  · rw [if_neg h, Int.emod_eq_of_lt (by omega) h1]
/-- a layout out of any numbers -/
def lyF : Nat → List Int → List IFld
  | _, [] => []
  | i, x :: r => if i < 8 then ([UInt8.ofNat (97 + i)], 1 + x % 32) :: lyF (i + 1) r else []
def lyL (ws : List Int) : List IFld := if ws = [] then [([97], 5)] else lyF 0 ws
theorem lyF_len : ∀ (ws : List Int) (i : Nat), (lyF i ws).length ≤ 8 - i
  | [], i => Nat.zero_le _
  | x :: r, i => by
    rw [lyF]
    by_cases h : i < 8
    · rw [if_pos h, List.length_cons]
      have := lyF_len r (i + 1)
      omega
    · rw [if_neg h]
      exact Nat.zero_le _
theorem lyF_mem : ∀ (ws : List Int) (i : Nat) (f : IFld), f ∈ lyF i ws → ∃ (j : Nat) (x : Int), i ≤ j ∧ j < 8 ∧ f = ([UInt8.ofNat (97 + j)], 1 + x % 32)
  | [], i, f, h => by cases h
  | x :: r, i, f, h => by
    rw [lyF] at h
    by_cases h8 : i < 8
    · rw [if_pos h8] at h
      rcases List.mem_cons.1 h with e | e
      · exact ⟨i, x, Nat.le_refl _, h8, e⟩
      · obtain ⟨j, y, h1, h2, h3⟩ := lyF_mem r (i + 1) f e
        exact ⟨j, y, by omega, h2, h3⟩
    · rw [if_neg h8] at h
      cases h
theorem name_ne : ∀ i j : Fin 8, i < j → ([UInt8.ofNat (97 + i.val)] : List UInt8) ≠ [UInt8.ofNat (97 + j.val)] := by decide
theorem name_nm : ∀ i : Fin 8, nmB [UInt8.ofNat (97 + i.val)] = true := by decide
theorem lyF_nodup : ∀ (ws : List Int) (i : Nat), ((lyF i ws).map (·.1)).Nodup
  | [], i => List.nodup_nil
  | x :: r, i => by
    rw [lyF]
    by_cases h8 : i < 8
    · rw [if_pos h8, List.map_cons, List.nodup_cons]
      refine ⟨fun hm => ?_, lyF_nodup r (i + 1)⟩
      obtain ⟨f, hf, he⟩ := List.mem_map.1 hm
      obtain ⟨j, y, h1, h2, rfl⟩ := lyF_mem r (i + 1) f hf
      exact name_ne ⟨i, h8⟩ ⟨j, h2⟩ (by show i < j; omega) he.symm
    · rw [if_neg h8]
      exact List.nodup_nil
theorem ly_fld {ws : List Int} {f : IFld} (h : f ∈ lyL ws) : sizB f = true ∧ nmB f.1 = true := by
  unfold lyL at h
  by_cases h0 : ws = []
  · rw [if_pos h0] at h
    rw [List.mem_singleton.1 h]
    decide
  · rw [if_neg h0] at h
    obtain ⟨j, x, -, h2, rfl⟩ := lyF_mem ws 0 f h
    refine ⟨?_, name_nm ⟨j, h2⟩⟩
    unfold sizB
    simp only [Bool.and_eq_true, decide_eq_true_eq]
    omega
theorem ly_len (ws : List Int) : 0 < (lyL ws).length ∧ (lyL ws).length ≤ 8 := by
  unfold lyL
  by_cases h0 : ws = []
  · rw [if_pos h0]
    decide
  · rw [if_neg h0]
    have := lyF_len ws 0
    refine ⟨?_, by omega⟩
    cases ws with
    | nil => exact absurd rfl h0
    | cons x r => rw [lyF, if_pos (by decide)]; simp
theorem ly_chk (ws : List Int) : chkM (lyL ws) = (0, 0) := by
  obtain ⟨l1, l2⟩ := ly_len ws
  have hb : ∀ f ∈ lyL ws, 0 ≤ f.2 ∧ f.2 ≤ 32 := fun f hf => by
    have := (ly_fld hf).1
    unfold sizB at this
    simp only [Bool.and_eq_true, decide_eq_true_eq] at this
    omega
  refine chk_of l1 (by omega) (fun f hf => ly_fld hf) ?_ ?_
  · unfold lyL
    split
    · decide
    · exact lyF_nodup ws 0
  · have := (sumB_bound (lyL ws) hb).2
    omega
/-- the header of a text's lowest bits -/
def hdG (n : Nat) (s : List UInt8) : List UInt8 := (List.range n).map fun j => if j < s.length ∧ (s.getD j 0).toNat % 2 = 1 then 49 else 48
theorem hdG_len (n : Nat) (s : List UInt8) : (hdG n s).length = n := by simp [hdG]
theorem hdG_succ (n : Nat) (s : List UInt8) : hdG (n + 1) s = hdG n s ++ [if n < s.length ∧ (s.getD n 0).toNat % 2 = 1 then 49 else 48] := by
  unfold hdG
  rw [List.range_succ, List.map_append]
  rfl
theorem hdG_01 (n : Nat) (s : List UInt8) : (hdG n s).all dg01 = true := by
  rw [List.all_eq_true]
  intro c hc
  obtain ⟨j, -, rfl⟩ := List.mem_map.1 hc
  split <;> rfl
/-- any numbers brought into the fields' ranges -/
def vlF : Nat → List IFld → List Int → List Int
  | _, [], _ => []
  | i, f :: L, V => ((if i < V.length then V.getD i 0 else (i : Int)) % ((2 ^ f.2.toNat : Nat) : Int)) :: vlF (i + 1) L V
theorem vlF_len : ∀ (L : List IFld) (i : Nat) (V : List Int), (vlF i L V).length = L.length
  | [], _, _ => rfl
  | f :: L, i, V => by rw [vlF, List.length_cons, vlF_len L, List.length_cons]
theorem vlF_at : ∀ (L : List IFld) (i k : Nat) (V : List Int) (f : IFld), L[k]? = some f → (vlF i L V)[k]? = some ((if i + k < V.length then V.getD (i + k) 0 else ((i + k : Nat) : Int)) % ((2 ^ f.2.toNat : Nat) : Int))
  | f :: L, i, 0, V, g, h => by
    simp at h
    subst h
    rfl
  | f :: L, i, k + 1, V, g, h => by
    rw [vlF, List.getElem?_cons_succ, vlF_at L (i + 1) k V g (by simpa using h), show i + 1 + k = i + (k + 1) by omega]
theorem vlF_in (L : List IFld) (V : List Int) : inR L (vlF 0 L V) := fun k f v h1 h2 => by
  rw [vlF_at L 0 k V f h1] at h2
  have hv := Option.some.inj h2
  have hpos : 0 < 2 ^ f.2.toNat := Nat.pow_pos (by decide)
  obtain ⟨P, hP⟩ : ∃ P : Nat, 2 ^ f.2.toNat = P := ⟨_, rfl⟩
  rw [hP] at hv hpos ⊢
  rw [← hv]
  have h3 := Int.emod_nonneg (if 0 + k < V.length then V.getD (0 + k) 0 else ((0 + k : Nat) : Int)) (show (P : Int) ≠ 0 by omega)
  have h4 := Int.emod_lt_of_pos (if 0 + k < V.length then V.getD (0 + k) 0 else ((0 + k : Nat) : Int)) (show (0 : Int) < (P : Int) by omega)
  omega
end Go.Proofs.YtodhcnjkiollaaaGreatDoor
