import Derived.Test.YtdgglglemdbgcaaL1
namespace Go.Proofs.Ytdgglglemdbgcaa
open Go.RowKit

theorem good_cubL (SL : List ByteArray) : ∀ x ∈ cubL SL, good x = true := by
  intro x hx
  unfold cubL at hx
  obtain ⟨s, _, rfl⟩ := List.mem_map.1 hx
  exact good_cubeT _

theorem ternLeastHull_walk (t r : ByteArray) (p : Option Addr) (len cap : Nat) (SL : List ByteArray) (w : World) (ht : t.size ≤ maxLen) (hr : r.size ≤ maxLen)
    (hlen : SL.length = len) (hlb : len ≤ 1048576) (hcell : ∀ i, i < len → ∃ ad, p = some ad ∧ w.cell? (ad.add i) = some (.string (SL.getD i ByteArray.empty))) (hsz : ∀ s ∈ SL, s.size ≤ maxLen) :
    Calls Try.prog 6 #[.string t, .slice p len cap, .string r] w fun e w' => e = .returned (.bool true) ∧ Below w.heap.size w w' := by
  refine least_try t r p len cap SL _ _ _ _ w ht hr rfl rfl rfl rfl _ _ rfl rfl hlen hlb hcell hsz (good_cubeT _) (good_cubeT _) (good_cubL SL) _ rfl ?_
  intro h
  rw [Bool.and_eq_true, Bool.and_eq_true, Bool.and_eq_true, beq_iff_eq] at h
  obtain ⟨⟨⟨ct, cr⟩, s1⟩, ok⟩ := h
  obtain ⟨nt, gt⟩ := (cubB_iff _).1 ct
  obtain ⟨_, gr⟩ := (cubB_iff _).1 cr
  have lt : t.data.toList.length = t.size := by simp
  have lr : r.data.toList.length = r.size := by simp
  have eT := cubeT_good _ gt
  have eR := cubeT_good _ gr
  rw [eT, eR]
  have hw : ∀ x ∈ cubL SL, x.length = t.data.toList.length := by
    intro x hx
    unfold cubL at hx
    obtain ⟨s, hs, rfl⟩ := List.mem_map.1 hx
    unfold okL at ok
    rw [List.all_eq_true] at ok
    have := ok s hs
    rw [Bool.and_eq_true, beq_iff_eq] at this
    obtain ⟨_, gs⟩ := (cubB_iff _).1 this.1
    rw [cubeT_good _ gs]
    have ls : s.data.toList.length = s.size := by simp
    omega
  obtain ⟨H, hH⟩ := hul_fits t.data.toList (cubL SL) nt hw
  obtain ⟨m1, m2⟩ := hul_least t.data.toList (cubL SL) H nt hH
  exact ⟨H, by unfold hulF; rw [if_neg nt]; exact hH, hul_good _ _ H hH gt (good_cubL SL), m1, m2, hul_wi _ _ H _ nt hH (by omega)⟩
end Go.Proofs.Ytdgglglemdbgcaa
