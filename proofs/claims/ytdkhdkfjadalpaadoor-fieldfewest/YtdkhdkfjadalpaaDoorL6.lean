import Derived.Test.YtdkhdkfjadalpaaDoorL5
import Derived.Deep.RegionHeldLaw
namespace Go.Proofs.YtdkhdkfjadalpaaDoor
open Go.RowKit Go.Shelf
theorem cov_ok (n l h : Nat) (h1 : 1 ≤ n) (h2 : n ≤ 32) (hl : l ≤ h) (hh : h < 2 ^ n) : covE (n : Int) (l : Int) (h : Int) = 0 ∧ covL (n : Int) (l : Int) (h : Int) = cov n l h := by
  have hp : 0 < 2 ^ n := Nat.pow_pos (by decide)
  have hE : covE (n : Int) (l : Int) (h : Int) = 0 := by
    unfold covE
    rw [Int.toNat_natCast, if_neg (by omega), if_neg (by omega), if_neg (by omega)]
  refine ⟨hE, ?_⟩
  unfold covL
  rw [if_pos hE]
  simp
/-- what the checks of one prefix ask -/
structure PF (n l h i : Nat) (p : Nat × Nat) : Prop where
  at_ : (gr l h)[i]? = some p
  f_le : p.2 ≤ n
  dvd : 2 ^ p.2 ∣ p.1
  lt : p.1 < 2 ^ n
theorem pf_of {n l h i : Nat} {p : Nat × Nat} (hn : n ≤ 32) (hh : h < 2 ^ n) (hp : (gr l h)[i]? = some p) : PF n l h i p := by
  have hn2 : 2 ^ n ≤ 2 ^ 32 := Nat.pow_le_pow_right (by decide) hn
  obtain ⟨p1, p2, p3, p4, p5⟩ := gr_at h (by omega) i l p hp
  have hpp : 0 < 2 ^ p.2 := Nat.pow_pos (by decide)
  refine ⟨hp, (Nat.pow_le_pow_iff_right (a := 2) (by decide)).1 (by omega), p4, by omega⟩
theorem cov_get {n l h i : Nat} {p : Nat × Nat} (hp : (gr l h)[i]? = some p) : (cov n l h)[i]? = some (digL n p.1 p.2) := by
  unfold cov
  rw [List.getElem?_map, hp]
  rfl
theorem stx_get' {L : List (List UInt8)} {i : Nat} {t : List UInt8} (h : L[i]? = some t) : (stx L)[i]? = some (Value.string ⟨t.toArray⟩) := by unfold stx; rw [List.getElem?_map, h]; rfl
theorem sib_lt {n x y f f' : Nat} (h1 : x < 2 ^ n) (h2 : x = y + 2 ^ f') (he : f = f') : f < n := by
  subst he
  exact (Nat.pow_lt_pow_iff_right (a := 2) (by decide)).1 (by omega)
theorem gr_len (e : Nat) : ∀ (m a : Nat), e + 1 - a ≤ m → (gr a e).length ≤ m := by
  intro m
  induction m with
  | zero => intro a h; rw [gr_end (by omega)]; simp
  | succ m ih =>
    intro a h
    by_cases hle : a ≤ e
    · have hp : 0 < 2 ^ fre a e := Nat.pow_pos (by decide)
      have := ih (a + 2 ^ fre a e) (by omega)
      rw [gr_le hle, List.length_cons]
      omega
    · rw [gr_end hle]; simp
/-- what is asked of two neighbours -/
structure NB (n : Nat) (p q : Nat × Nat) : Prop where
  less : Op.bytesLess ((List.range n).map (bitB n q.1)) ((List.range n).map (bitB n p.1)) = true
  lt : p.2 = q.2 → p.2 < n
  ne : p.2 = q.2 → (digL n p.1 p.2).take (n - p.2 - 1) ≠ (digL n q.1 q.2).take (n - p.2 - 1)
  lp : (digL n p.1 p.2).length = n
  lq : (digL n q.1 q.2).length = n
theorem nb_of {n l h k : Nat} {p q : Nat × Nat} (h2 : n ≤ 32) (hh : h < 2 ^ n) (hq : (gr l h)[k]? = some q) (hp : (gr l h)[k + 1]? = some p) : NB n p q := by
  have hn2 : 2 ^ n ≤ 2 ^ 32 := Nat.pow_le_pow_right (by decide) h2
  have hpf := pf_of h2 hh hp
  have hqf := pf_of h2 hh hq
  have hnx := gr_next h k l q p hq hp
  have hqp : q.1 < p.1 := by
    have : 0 < 2 ^ q.2 := Nat.pow_pos (by decide)
    omega
  have hsib := gr_sib (lo := l) (e := h) (by omega) hq hp
  refine ⟨bits_less n q.1 p.1 hqp hpf.lt, fun he => sib_lt hpf.lt hnx he, fun he => ?_, digL_len n p.1 p.2 hpf.f_le, digL_len n q.1 q.2 hqf.f_le⟩
  have := hsib he.symm
  rw [← he] at this ⊢
  exact take_ne (sib_lt hpf.lt hnx he) hpf.lt hqf.lt (fun x => this x.symm)
theorem ekA (k : Nat) (h : k ≤ 4294967296) : IntKind.i64.wrap (((k + 1 : Nat) : Int) - 1) = (k : Int) ∧ IntKind.i64.wrap ((k : Int) + 1 - 1) = (k : Int) ∧ IntKind.i64.wrap (k : Int) = (k : Int) ∧ wrap64 (k : Int) = (k : Int) ∧ wrap64 ((k : Int) + 1 - 1) = (k : Int) := by
  refine ⟨by rw [IntKind.wrap_i64]; omega, by rw [IntKind.wrap_i64]; omega, by rw [IntKind.wrap_i64]; omega, w64 (by omega) (by omega), by rw [w64 (by omega) (by omega)]; omega⟩
theorem ekC (m : Nat) (h0 : 0 < m) (h : m ≤ 32) : IntKind.i64.wrap ((m : Int) - 1) = ((m - 1 : Nat) : Int) := by rw [IntKind.wrap_i64]; omega
theorem ext_take (l : List UInt8) (i : Nat) : (⟨l.toArray⟩ : ByteArray).extract 0 i = ⟨(l.take i).toArray⟩ := by apply ByteArray.ext; simp [ByteArray.data_extract]
theorem num_any (e : Nat) (he : e < 1000) (w : World) : Calls Tryd.prog 6 #[.int .i64 (e : Int)] w fun x w' => x = .returned (.int .i64 (e : Int)) ∧ w' = w := by
  have e1 : IntKind.i64.wrap (e : Int) = (e : Int) := by rw [IntKind.wrap_i64]; omega
  go_enter Tryd.func6, Tryd.ntmps6
  go_wp2
  go_ret
  exact ⟨rfl, rfl⟩
end Go.Proofs.YtdkhdkfjadalpaaDoor
