import Derived.Test.YtkmnonkabekclaaDoorPQ
import Derived.Test.YtkmnonkabekclaaDoorPF
namespace Go.Proofs.YtkmnonkabekclaaDoor
open Go.RowKit Go.Shelf
theorem pre_app : ∀ (d t : List UInt8), (∀ c ∈ d, c ≠ 58) → pre58 (d ++ 58 :: t) = d
  | [], t, _ => by simp [pre58]
  | c :: d, t, h => by
    have h1 := pre_app d t (fun x hx => h x (List.mem_cons_of_mem _ hx))
    have h0 := h c (List.mem_cons_self ..)
    unfold pre58 at h1 ⊢
    rw [List.cons_append, List.takeWhile_cons_of_pos (by simpa using h0), h1]
theorem pk1_eq (x : List UInt8) : pk1 x = Lib.decDigits x.length ++ 58 :: x := by
  unfold pk1 itL
  rw [itoa_dec, List.append_assoc]
  rfl
theorem un1_pk (x r : List UInt8) : un1 (pk1 x ++ r) = some (x, r) := by
  obtain ⟨d, hd⟩ : ∃ d, Lib.decDigits x.length = d := ⟨_, rfl⟩
  have he : pk1 x ++ r = d ++ 58 :: (x ++ r) := by rw [pk1_eq, hd, List.append_assoc]; rfl
  have hne : ∀ c ∈ d, c ≠ 58 := fun c hc h => by
    rw [← hd] at hc
    have := (dec_dig _ c hc).2
    rw [h] at this
    exact absurd this (by decide)
  have hp : pre58 (d ++ 58 :: (x ++ r)) = d := pre_app d _ hne
  have hv : valD d = (x.length : Int) := by rw [← hd, valD_dec]
  have hi : Lib.itoa (x.length : Int) = d := by rw [itoa_dec, hd]
  have hdr : (d ++ 58 :: (x ++ r)).drop (d.length + 1) = x ++ r := by
    rw [← List.drop_drop, List.drop_left]
    rfl
  rw [he]
  have := un1_at (r := d ++ 58 :: (x ++ r)) (n := (x.length : Int)) (by rw [hp]; simp) (by rw [hp, hv]) (by omega) (by rw [hp]; exact hi) (by rw [hp, Int.toNat_natCast]; simp; omega)
  rw [this, hp, Int.toNat_natCast, hdr, List.take_left, List.drop_left]
theorem pk1_ne (x r : List UInt8) : pk1 x ++ r ≠ [] := fun h => by
  have := congrArg List.length h
  rw [pk1_eq] at this
  simp at this
theorem unW_pk : ∀ L : List (List UInt8), unW (pkT L) = some L
  | [] => unW_nil
  | x :: L => by
    have e : pkT (x :: L) = pk1 x ++ pkT L := by simp [pkT]
    rw [e, unW_go (pk1_ne x _) (un1_pk x _), unW_pk L]
    rfl
theorem un1_back {l x y : List UInt8} (h : un1 l = some (x, y)) : pk1 x ++ y = l := by
  unfold un1 at h
  split at h
  · rename_i hc
    obtain ⟨h1, h2, h3, h4⟩ := hc
    obtain ⟨u, hu⟩ : ∃ u : Nat, valD (pre58 l) = u := ⟨(valD (pre58 l)).toNat, by omega⟩
    rw [hu] at h3 h4 h
    rw [Int.toNat_natCast] at h4 h
    injection h with h
    injection h with hx hy
    have hxl : x.length = u := by rw [← hx, List.length_take, List.length_drop]; omega
    have h0 : l.take (pre58 l).length = pre58 l := pre_take l
    have hd : l.drop (pre58 l).length = 58 :: l.drop ((pre58 l).length + 1) := by
      have := pre_at l h1
      rw [List.getElem?_eq_getElem h1] at this
      rw [List.drop_eq_getElem_cons h1, Option.some.inj this]
    unfold pk1 itL
    rw [hxl, h3, List.append_assoc, List.append_assoc, ← hx, ← hy, List.take_append_drop]
    show pre58 l ++ (58 :: l.drop ((pre58 l).length + 1)) = l
    rw [← hd]
    exact (congrArg (· ++ l.drop (pre58 l).length) h0.symm).trans (List.take_append_drop _ _)
  · cases h
theorem pk_unW : ∀ (n : Nat) (l : List UInt8) (L : List (List UInt8)), l.length ≤ n → unW l = some L → pkT L = l
  | n, [], L, _, h => by
    rw [unW_nil] at h
    obtain rfl := Option.some.inj h
    rfl
  | 0, c :: r, L, hn, _ => by simp at hn
  | n + 1, c :: r, L, hn, h => by
    cases hu : un1 (c :: r) with
    | none => rw [unW_no (by simp) hu] at h; cases h
    | some p =>
      obtain ⟨x, y⟩ := p
      have hy := (un1_less hu).1
      rw [unW_go (by simp) hu] at h
      obtain ⟨M, hM, rfl⟩ := Option.map_eq_some_iff.1 h
      have e : pkT (x :: M) = pk1 x ++ pkT M := by simp [pkT]
      rw [e, pk_unW n y M (by omega) hM]
      exact un1_back hu
theorem mem_pkT {x : List UInt8} : ∀ {L : List (List UInt8)}, x ∈ L → x.length ≤ (pkT L).length
  | y :: L, h => by
    have e : pkT (y :: L) = pk1 y ++ pkT L := by simp [pkT]
    rw [e, List.length_append]
    rcases List.mem_cons.1 h with rfl | h
    · rw [pk1_eq, List.length_append, List.length_cons]; omega
    · have := mem_pkT h
      omega
/-- what was unpacked, packed -/
theorem back_pk {l : List UInt8} {L : List (List UInt8)} (hl : l.length ≤ 16384) (h : unW l = some L) : pkS L = l ∧ pkE L = 0 ∧ LB L ∧ L.length ≤ 16384 := by
  have e := pk_unW l.length l L (Nat.le_refl _) h
  have h1 : (pkT L).length ≤ 16384 := by rw [e]; exact hl
  refine ⟨by unfold pkS; rw [if_pos h1, e], by unfold pkE; rw [if_pos h1], fun x hx => ?_, ?_⟩
  · have := mem_pkT hx
    omega
  · have := unW_len l.length l L (Nat.le_refl _) h
    omega
theorem forth_pk {L : List (List UInt8)} (h : pkE L = 0) : pkS L = pkT L ∧ (pkT L).length ≤ 16384 ∧ unW (pkS L) = some L := by
  unfold pkE at h
  split at h
  · rename_i h1
    have e : pkS L = pkT L := by unfold pkS; rw [if_pos h1]
    exact ⟨e, h1, by rw [e]; exact unW_pk L⟩
  · cases h
theorem pkE_two {L : List (List UInt8)} (h : pkE L ≠ 0) : pkE L = 2 := by
  unfold pkE at h ⊢
  split
  · rename_i h1
    rw [if_pos h1] at h
    exact absurd rfl h
  · rfl
theorem ex_V : unW [49, 58, 97] = some [[97]] := by
  have h1 : un1 [49, 58, 97] = some ([97], []) := by decide +kernel
  rw [unW_go (by simp) h1, unW_nil]
  rfl
end Go.Proofs.YtkmnonkabekclaaDoor
