import Derived.Test.YtcoipocebkbjgaaDoorVF
import Derived.Test.YtcoipocebkbjgaaDoorVC
namespace Go.Proofs.YtcoipocebkbjgaaDoor
open Go.RowKit Go.Shelf
theorem foldN_mem {b : Nat} {D : UInt8 → Option Nat} {c : UInt8} (hc : D c = none) (l : List UInt8) (h : c ∈ l) (m : Nat) : foldN b D l m = none := by
  induction l generalizing m with
  | nil => cases h
  | cons a l ih =>
    unfold foldN
    cases hd : D a with
    | none => rfl
    | some d =>
      rcases List.mem_cons.1 h with e | e
      · subst e; rw [hc] at hd; cases hd
      · exact ih e _
theorem decN_mem {l : List UInt8} {c : UInt8} (hc : isDig c = false) (h : c ∈ l) (t : Nat) : decN l t = none := by
  unfold decN
  rw [if_neg]
  rintro ⟨_, ha, _⟩
  rw [List.all_eq_true] at ha
  rw [ha c h] at hc
  cases hc
/-- a text behind a prefix of two bytes, of which the second is no digit -/
theorem num_pre {b : Nat} {D : UInt8 → Option Nat} {M : Nat} {l : List UInt8} {x : UInt8} (hx : isDig x = false) (hx2 : x ≠ 46) (hD : D 46 = none) (ht : l.take 2 = [48, x])
    (hn : ¬ 0 ≤ Lib.indexByte l 46 → numN l = if 3 ≤ l.length ∧ l.length ≤ M + 2 then foldN b D (l.drop 2) 0 else decN l 4294967295) : numN l = digN b D M (l.drop 2) := by
  obtain ⟨r, rfl⟩ : ∃ r, l = 48 :: x :: r := by
    match l, ht with
    | [], h => simp at h
    | [_], h => simp at h
    | a :: c :: r, h =>
      simp at h
      exact ⟨r, by rw [h.1, h.2]⟩
  have hd : (48 :: x :: r).drop 2 = r := rfl
  rw [hd] at hn ⊢
  have hxm : x ∈ (48 :: x :: r) := by simp
  by_cases hdot : 0 ≤ Lib.indexByte (48 :: x :: r) 46
  · obtain ⟨i, hi⟩ : ∃ i : Nat, Lib.indexByte (48 :: x :: r) 46 = i := ⟨_, (Int.toNat_of_nonneg hdot).symm⟩
    obtain ⟨h1, h2⟩ := Lib.indexByte_some hi
    have hi2 : 2 ≤ i := by
      match i, h1 with
      | 0, h => simp at h
      | 1, h => simp at h; exact absurd h hx2
      | i + 2, _ => omega
    have hmem : (46 : UInt8) ∈ r := by
      obtain ⟨j, rfl⟩ : ∃ j, i = j + 2 := ⟨i - 2, by omega⟩
      simp only [List.getElem?_cons_succ] at h1
      exact List.mem_of_getElem? h1
    have hL : numN (48 :: x :: r) = none := by
      unfold numN
      rw [if_pos hdot, quadK, hi, if_neg (by omega), show ((i : Int)).toNat = i from Int.toNat_natCast i, decN_mem hx]
      obtain ⟨j, rfl⟩ : ∃ j, i = j + 2 := ⟨i - 2, by omega⟩
      simp
    rw [hL]
    unfold digN
    split
    · rfl
    · exact (foldN_mem hD r hmem 0).symm
  · rw [hn hdot]
    unfold digN
    by_cases hr : r = []
    · rw [if_neg (show ¬ (3 ≤ (48 :: x :: r).length ∧ (48 :: x :: r).length ≤ M + 2) by subst hr; simp), if_pos (.inl hr), decN_mem hx hxm]
    · have hl : 0 < r.length := List.length_pos_iff.2 hr
      by_cases hm : M < r.length
      · rw [if_neg (show ¬ (3 ≤ (48 :: x :: r).length ∧ (48 :: x :: r).length ≤ M + 2) by simp; omega), if_pos (.inr hm), decN_mem hx hxm]
      · rw [if_pos (show 3 ≤ (48 :: x :: r).length ∧ (48 :: x :: r).length ≤ M + 2 by simp; omega), if_neg (fun h => h.elim hr hm)]
theorem num_hex {l : List UInt8} (ht : l.take 2 = [48, 120]) : numN l = digN 16 hexD 8 (l.drop 2) := by
  refine num_pre (by decide) (by decide) (by decide) ht (fun hd => ?_)
  unfold numN
  rw [if_neg hd]
  by_cases h : 3 ≤ l.length ∧ l.length ≤ 8 + 2
  · rw [if_pos h, if_pos ⟨h, ht⟩]
  · rw [if_neg h, if_neg (fun e => h e.1), if_neg (fun e => by rw [ht] at e; exact absurd e.2 (by decide))]
theorem num_bin {l : List UInt8} (ht : l.take 2 = [48, 98]) : numN l = digN 2 binD 32 (l.drop 2) := by
  refine num_pre (by decide) (by decide) (by decide) ht (fun hd => ?_)
  unfold numN
  rw [if_neg hd, if_neg (fun e => by rw [ht] at e; exact absurd e.2 (by decide))]
  by_cases h : 3 ≤ l.length ∧ l.length ≤ 32 + 2
  · rw [if_pos h, if_pos ⟨h, ht⟩]
  · rw [if_neg h, if_neg (fun e => h e.1)]
theorem num_dec {l : List UInt8} (hd : ¬ 0 ≤ Lib.indexByte l 46) (h1 : l.take 2 ≠ [48, 120]) (h2 : l.take 2 ≠ [48, 98]) : numN l = decN l 4294967295 := by
  unfold numN
  rw [if_neg hd, if_neg (fun e => h1 e.2), if_neg (fun e => h2 e.2)]
theorem pre2 (a b : UInt8) (l : List UInt8) : Lib.hasPrefix l [a, b] = decide (l.take 2 = [a, b]) := by
  unfold Lib.hasPrefix
  match l with
  | [] => simp
  | [c] => simp [List.isPrefixOf]
  | c :: d :: r =>
    simp only [List.isPrefixOf, List.take_succ_cons, List.take_zero, Bool.and_true]
    by_cases h1 : a = c
    · by_cases h2 : b = d
      · subst h1 h2; simp
      · simp [h1, h2, Ne.symm h2]
    · simp [h1, Ne.symm h1]
theorem cut_any (a b : UInt8) (l : List UInt8) (w : World) : Calls Tryd.prog 45 #[.string ⟨l.toArray⟩, .string ⟨#[a, b]⟩] w fun e w' => e = .returned (.tuple #[.string ⟨(if l.take 2 = [a, b] then l.drop 2 else l).toArray⟩, .bool (decide (l.take 2 = [a, b]))]) ∧ w' = w := by
  have h := Any.strings_CutPrefix Tryd.l103 ⟨l.toArray⟩ ⟨#[a, b]⟩ w
  refine h.mono fun e w' ⟨he, hw⟩ => ⟨?_, hw⟩
  rw [he]
  show Ending.returned (.tuple #[.string ⟨(Lib.trimPrefix l [a, b]).toArray⟩, .bool (Lib.hasPrefix l [a, b])]) = _
  unfold Lib.trimPrefix
  rw [pre2]
  by_cases ht : l.take 2 = [a, b]
  · rw [if_pos (decide_eq_true ht), if_pos ht]; rfl
  · rw [if_neg (by simpa using ht), if_neg ht]
end Go.Proofs.YtcoipocebkbjgaaDoor
