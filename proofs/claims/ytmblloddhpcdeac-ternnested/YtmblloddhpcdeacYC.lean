import Derived.Test.YtmblloddhpcdeacYB
import Derived.Deep.RegionHeld3
namespace Go.Proofs.Ytmblloddhpcdeac
open Go.RowKit

def lenOf : Value → Nat
  | .slice _ n _ => n
  | _ => 0
theorem mL_len (t : List UInt8) (m : Nat) : (mL t m).length = m := by
  induction m with
  | zero => rfl
  | succ m ih => simp [mL, ih]
theorem mL_str (t : List UInt8) (m i : Nat) (h : i < m) : ∃ s : ByteArray, (mL t m)[i]? = some (.string s) := by
  induction m with
  | zero => omega
  | succ m ih =>
    simp only [mL]
    by_cases e : i = m
    · subst e
      exact ⟨_, by rw [List.getElem?_append_right (by rw [mL_len]; omega), mL_len]; simp; rfl⟩
    · rw [List.getElem?_append_left (by rw [mL_len]; omega)]
      exact ih (by omega)
theorem upTo_uniq (t : List UInt8) (N a b : Nat) (h1 : upTo t N a) (h2 : upTo t N b) : a = b := by
  have key : ∀ x y, upTo t N x → upTo t N y → ¬ x < y := by
    intro x y hx hy hlt
    obtain ⟨a1, a2, a3, a4⟩ := hx
    obtain ⟨b1, b2, b3, b4⟩ := hy
    rcases a4 with rfl | hf
    · omega
    · have := upTo_lv t x (y - 1) b3 (by omega)
      obtain ⟨x', rfl⟩ : ∃ x', x = x' + 1 := ⟨x - 1, by omega⟩
      have h2 := this.2
      rw [show x' + 1 - 1 = x' by omega] at hf
      rw [hf] at h2
      cases h2
  have := key a b h1 h2
  have := key b a h2 h1
  omega

set_option maxRecDepth 100000 in
set_option maxHeartbeats 2000000 in
theorem rMembers_any (s : ByteArray) (t : List UInt8) (N : Nat) (w : World) (hst0 : s.data.toList = t) (gt : good t = true) (h1 : 1 ≤ t.length) (hN1 : 1 ≤ N) (hN2 : N ≤ 10000) :
    Calls Try.prog 22 #[.string s, .int .i64 (N : Int)] w fun e w' => ∃ m v, e = .returned v ∧ upTo t N m ∧ w'.ownsRow w.heap.size 9 1 v m (mL t m) ∧ Below w.heap.size w w' := by
  obtain ⟨i0, hi, hz0, hz1, hz2⟩ := info_parts info_strY
  have hst : Hid (s.data.toList = t) := hst0
  have hsz : Hid (s.size = t.length) := by unfold Hid; rw [← hst0]; simp
  have h256 : s.size ≤ 256 := by rw [hsz.out]; exact good_len gt
  have hE : s.toList.isEmpty = false := by
    rw [ByteArray.toList_eq, hst0]
    cases t with
    | nil => simp at h1
    | cons x l => rfl
  have n1 : ¬ (N : Int) < 1 := by omega
  have HL : Hid (Calls Try.prog 46 #[.string s] w fun e w' => e = .returned (.string ⟨(ms t 0).toArray⟩) ∧ Below w.heap.size w w') := by
    unfold Hid
    have := rLeast_any s w h256
    rw [hst0] at this
    exact this
  clear hst0
  go_enter Try.func22, Try.ntmps22
  go_wp2_with fail
  refine HL.out.mono ?_
  rintro e w1 ⟨rfl, hb1⟩
  have hnil : w1.ownsRow w.heap.size 9 1 (.slice none 0 0) 0 [] := World.ownsRow_nil _ _ _ _
  go_wp2_with (at_builtin; refine wpList_append_own _ rfl _ _ 44 rfl w.heap.size 9 i0 (.string ⟨#[]⟩) 1 16 Try.underlying44 hi hz0 hz1 hz2 rfl (by decide) _ _ _ rfl (hnil.alloc _) ⟨w1.heap.size, 0, none⟩ 1 1 [.string ⟨(ms t 0).toArray⟩] rfl rfl (cell_one_new _ _ _) (by simp [Value.oneCell']) (by unfold maxLen; omega) (by omega) (by have := hb1.size; simp; omega) ?_; intro v' w2 hown' hgrow _)
  have B2 := bel_app hb1 hnil hgrow
  go_loopw [5, 6] (fun v h wr => ∃ k : Nat, k < N ∧ lv t k ∧ h = .string ⟨(ms t k).toArray⟩ ∧ wr.ownsRow w.heap.size 9 1 v (k + 1) (mL t (k + 1)) ∧ Below w.heap.size w wr) (fun v _ _ => N - lenOf v)
  case atStart => exact ⟨0, by omega, trivial, rfl, hown', B2⟩
  case round =>
    clear hown' hgrow B2 hb1 hnil HL
    obtain ⟨k, hk, hlv, rfl, hown, hB⟩ := hrel
    obtain ⟨g, cap, rfl⟩ := ownsRow_succ hown
    by_cases hlt : k + 1 < N
    · have j1 : (k : Int) + 1 < (N : Int) := by omega
      obtain ⟨H, hH⟩ : ∃ H, ms t k = H := ⟨_, rfl⟩
      obtain ⟨b, hb⟩ : ∃ b, (nx t H).2 = b := ⟨_, rfl⟩
      obtain ⟨X, hX⟩ : ∃ X, (if (nx t H).2 = true then (nx t H).1 else []) = X := ⟨_, rfl⟩
      have hA : Hid (∀ W, Calls Try.prog 47 #[.string s, .string ⟨H.toArray⟩] W fun e w' => e = .returned (.tuple #[.string ⟨X.toArray⟩, .bool b]) ∧ Below W.heap.size W w') := by
        intro W
        have hHs : (⟨H.toArray⟩ : ByteArray).size = H.length := by show H.toArray.size = _; simp
        have hHl : H.length = t.length := by rw [← hH]; exact ms_len t k
        have q := rAfter_any s ⟨H.toArray⟩ W (by rw [hHs, hHl, hsz.out]) h256
        rw [hst.out] at q
        have e : (⟨H.toArray⟩ : ByteArray).data.toList = H := by simp
        rw [e] at q
        unfold aftV at q
        rw [hX, hb] at q
        exact q
      have HH : Hid (ms t k = H) := hH
      have HB : Hid ((nx t H).2 = b) := hb
      have HX : Hid ((if (nx t H).2 = true then (nx t H).1 else []) = X) := hX
      rw [hH]
      clear hH hb hX
      cases b
      · go_wp2_with fail
        refine (hA.out _).mono ?_
        rintro e w3 ⟨rfl, hb3⟩
        go_wp2_with fail
        go_ret
        exact ⟨k + 1, _, rfl, ⟨by omega, by omega, hlv, .inr (by rw [show k + 1 - 1 = k by omega, HH.out]; exact HB.out)⟩, owns_below hown hb3, bel0 hB hb3⟩
      · have hms : Hid (ms t (k + 1) = X) := by
          have q := HX.out
          rw [HB.out] at q
          show (nx t (ms t k)).1 = X
          rw [HH.out]
          exact q
        go_wp2_with fail
        refine (hA.out _).mono ?_
        rintro e w3 ⟨rfl, hb3⟩
        have hown3 := owns_below hown hb3
        have B3 := bel0 hB hb3
        clear hown hB hb3
        go_wp2_with (at_builtin; refine wpList_append_own _ rfl _ _ 44 rfl w.heap.size 9 i0 (.string ⟨#[]⟩) 1 16 Try.underlying44 hi hz0 hz1 hz2 rfl (by decide) _ _ _ rfl (hown3.alloc _) ⟨w3.heap.size, 0, none⟩ 1 1 [.string ⟨X.toArray⟩] rfl rfl (cell_one_new _ _ _) (by simp [Value.oneCell']) (by unfold maxLen; omega) (by omega) (by have := B3.size; simp; omega) ?_; intro v' w4 hown4 hgrow _; obtain ⟨g4, cap4, rfl⟩ := ownsRow_succ hown4)
        have B4 := bel_app B3 hown3 hgrow
        go_roundw
        case rel => exact ⟨k + 1, by omega, ⟨hlv, by rw [HH.out]; exact HB.out⟩, by rw [hms.out], by show World.ownsRow _ _ _ _ _ (k + 1 + 1) (mL t (k + 1) ++ [.string ⟨(ms t (k + 1)).toArray⟩]); rw [hms.out]; exact hown4, B4⟩
        case measure => simp [lenOf]; omega
    · have j1 : ¬ (k : Int) + 1 < (N : Int) := by omega
      have hkN : Hid (k + 1 = N) := by unfold Hid; omega
      go_wp2
      go_ret
      exact ⟨k + 1, _, rfl, ⟨by omega, by omega, hlv, .inl hkN.out⟩, hown, hB⟩

set_option maxRecDepth 100000 in
set_option maxHeartbeats 1000000 in
theorem same_any (m : Nat) (xs : List Value) (v1 v2 : Value) (B1 B2 : Nat) (w : World) (hm : m ≤ 10000) (hx0 : ∀ i, i < m → ∃ s : ByteArray, xs[i]? = some (.string s))
    (h1 : w.ownsRow B1 9 1 v1 m xs) (h2 : w.ownsRow B2 9 1 v2 m xs) :
    Calls Try.prog 28 #[v1, v2] w fun e w' => e = .returned (.bool true) ∧ Below w.heap.size w w' := by
  have hx : Hid (∀ i, i < m → ∃ s : ByteArray, xs[i]? = some (.string s)) := hx0
  clear hx0
  obtain ⟨q1, g1, c1, rfl, hq1, hc1⟩ := own_shapeY h1
  obtain ⟨q2, g2, c2, rfl, hq2, hc2⟩ := own_shapeY h2
  have HC1 : Hid (∀ i, i < m → w.cell? ⟨g1, i, none⟩ = xs[i]?) := fun i hi => by obtain ⟨_, _, h⟩ := hc1 i hi; exact h
  have HC2 : Hid (∀ i, i < m → w.cell? ⟨g2, i, none⟩ = xs[i]?) := fun i hi => by obtain ⟨_, _, h⟩ := hc2 i hi; exact h
  clear hc1 hc2 h1 h2
  go_enter Try.func28, Try.ntmps28
  go_wp2
  go_loopw [5] (fun i wr => ∃ k n : Nat, k ≤ m ∧ i = .int .i64 k ∧ wr = w.drewN n) (fun i _ => m - (intOf i).toNat)
  case atStart => exact ⟨0, 0, Nat.zero_le _, rfl, rfl⟩
  case round =>
    obtain ⟨k, nn, hk, rfl, rfl⟩ := hrel
    by_cases hlt : k < m
    · have j0 : (0 : Int) ≤ (k : Int) := by omega
      have j1 : (k : Int) < (m : Int) := by omega
      obtain ⟨s, hs⟩ := hx.out k hlt
      have d1 := HC1.out k hlt
      have d2 := HC2.out k hlt
      rw [hs] at d1 d2
      obtain rfl := hq1 k hlt
      obtain rfl := hq2 k hlt
      have e0 : (s.toList != s.toList) = false := by simp
      clear hs
      go_wp2
      go_quiet (fail)
      go_wp2
      go_roundw
      case rel => exact ⟨k + 1, nn + nq, by omega, by go_num, rfl⟩
      case measure => simp [intOf]; omega
    · have j1 : ¬ (k : Int) < (m : Int) := by omega
      go_wp2
      go_ret
      exact ⟨rfl, below_drewN _ _ _⟩
end Go.Proofs.Ytmblloddhpcdeac
