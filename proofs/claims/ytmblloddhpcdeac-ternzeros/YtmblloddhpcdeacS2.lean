import Derived.Test.YtmblloddhpcdeacS1
namespace Go.Proofs.Ytmblloddhpcdeac
open Go.RowKit

/-- texts as strings -/
def sts (l : List (List UInt8)) : List Value := l.map (fun t => .string ⟨t.toArray⟩)
theorem sts_snoc (l : List (List UInt8)) (t : List UInt8) : sts (l ++ [t]) = sts l ++ [.string ⟨t.toArray⟩] := by simp [sts]

theorem pcs_skip1 (a b : List UInt8) (k : Nat) (h : qual a b k = false) : pcs a b (k + 1) = pcs a b k := by
  refine pcs_skip a b k (k + 1) (by omega) ?_
  intro j h1 h2
  obtain rfl : j = k := by omega
  exact h

theorem rSplit_no (a b : ByteArray) (w : World) (ga : good a.data.toList = true) (gb : good b.data.toList = true) (hq0 : agB a.data.toList b.data.toList = false) :
    Calls Try.prog 26 #[.string a, .string b] w fun e w' => ∃ v, e = .returned v ∧ w'.ownsRow w.heap.size 9 1 v 1 (sts [a.data.toList]) ∧ Below w.heap.size w w' := by
  have hq : Hid (agB a.data.toList b.data.toList = false) := hq0
  clear hq0
  go_enter Try.func26, Try.ntmps26
  go_wp2_with fail
  refine (rMeet_D a.data.toList b.data.toList _ false _ ga gb rfl hq.out).mono ?_
  rintro e w1 ⟨rfl, hb1⟩
  go_wp2
  go_ret
  refine ⟨_, rfl, ?_, belA hb1 _⟩
  refine ⟨by simp [sts], .inr ⟨w1.heap.size, 1, _, rfl, hb1.size, alloc_get _ _, by omega, by unfold maxLen; omega, by simp, by simp [sts]⟩⟩

set_option maxHeartbeats 1000000 in
theorem rSplit_yes (a b : ByteArray) (w : World) (ga : good a.data.toList = true) (gb : good b.data.toList = true) (hq0 : agB a.data.toList b.data.toList = true) :
    Calls Try.prog 26 #[.string a, .string b] w fun e w' => ∃ v, e = .returned v ∧ w'.ownsRow w.heap.size 9 1 v (pcs a.data.toList b.data.toList a.size).length (sts (pcs a.data.toList b.data.toList a.size)) ∧ Below w.heap.size w w' := by
  have hq : Hid (agB a.data.toList b.data.toList = true) := hq0
  have hll : Hid (a.data.toList.length = b.data.toList.length) := fitB_len (agB_fit hq0)
  have hz : Hid (a.size = b.size) := by unfold Hid; simpa using hll.out
  have hl : a.size ≤ 256 := by simpa using good_len ga
  have LA : Hid (a.data.toList.length = a.size) := by simp [Hid]
  clear hq0
  obtain ⟨i0, hi, hz0, hz1, hz2⟩ := info_parts info_str
  go_enter Try.func26, Try.ntmps26
  go_wp2_with fail
  refine (rMeet_D a.data.toList b.data.toList _ true _ ga gb rfl hq.out).mono ?_
  rintro e w1 ⟨rfl, hb1⟩
  go_wp2
  go_loopw [7, 8] (fun v j wr => ∃ k : Nat, k ≤ a.size ∧ j = .int .i64 k ∧ wr.ownsRow w.heap.size 9 1 v (pcs a.data.toList b.data.toList k).length (sts (pcs a.data.toList b.data.toList k)) ∧ Below w.heap.size w wr) (fun _ j _ => a.size - (intOf j).toNat)
  case atStart => exact ⟨0, Nat.zero_le _, rfl, World.ownsRow_nil _ _ _ _, hb1⟩
  case round =>
    clear hb1
    obtain ⟨k, hk, rfl, hown, hB⟩ := hrel
    by_cases hlt : k < a.size
    · have hkb : k < b.size := by rw [← hz.out]; exact hlt
      have i0' : (0 : Int) ≤ (k : Int) := by omega
      have i1 : (k : Int) < (a.size : Int) := by omega
      have i2 : (k : Int) < (b.size : Int) := by omega
      have hqb := qual_bytes _ _ hll.out k (by rw [LA.out]; exact hlt)
      have hqb : qual a.data.toList b.data.toList k = (!(b[k] == 120) && (a[k] == 120)) := hqb
      obtain ⟨p1, n1⟩ : ∃ p, ((a[k].toNat : Int) == 120) = p := ⟨_, rfl⟩
      obtain ⟨p2, n2⟩ : ∃ p, ((b[k].toNat : Int) != 120) = p := ⟨_, rfl⟩
      have M1 : (a[k] == 120) = p1 := by
        have := byte_bne a[k] 120 (by decide)
        unfold bne at this
        rw [← n1]
        exact (Bool.not_inj this).symm
      have M2 : (!(b[k] == 120)) = p2 := by rw [← n2]; exact (byte_bne b[k] 120 (by decide)).symm
      rw [M1, M2] at hqb
      have hQ : Hid (qual a.data.toList b.data.toList k = (p2 && p1)) := hqb
      clear hqb M1 M2
      have hPl := pcs_len a.data.toList b.data.toList k
      cases p1 <;> cases p2
      · have hs : Hid (pcs a.data.toList b.data.toList (k + 1) = pcs a.data.toList b.data.toList k) := pcs_skip1 _ _ k hQ.out
        go_wp2
        go_roundw
        case rel => exact ⟨k + 1, by omega, by go_num, by rw [hs.out]; exact hown, hB⟩
        case measure => simp [intOf]; omega
      · have hs : Hid (pcs a.data.toList b.data.toList (k + 1) = pcs a.data.toList b.data.toList k) := pcs_skip1 _ _ k hQ.out
        go_wp2
        go_roundw
        case rel => exact ⟨k + 1, by omega, by go_num, by rw [hs.out]; exact hown, hB⟩
        case measure => simp [intOf]; omega
      · have hs : Hid (pcs a.data.toList b.data.toList (k + 1) = pcs a.data.toList b.data.toList k) := pcs_skip1 _ _ k hQ.out
        go_wp2
        go_roundw
        case rel => exact ⟨k + 1, by omega, by go_num, by rw [hs.out]; exact hown, hB⟩
        case measure => simp [intOf]; omega
      · have hs : Hid (pcs a.data.toList b.data.toList (k + 1) = pcs a.data.toList b.data.toList k ++ [pcT a.data.toList b.data.toList k]) := pcs_succ _ _ k hQ.out
        obtain ⟨P, hP⟩ : ∃ P, pcT a.data.toList b.data.toList k = P := ⟨_, rfl⟩
        obtain ⟨L, hL⟩ : ∃ L, pcs a.data.toList b.data.toList k = L := ⟨_, rfl⟩
        have hpa := fun W => part_any a b k W hz.out hl hQ.out
        rw [hP] at hpa hs
        rw [hL] at hown hs hPl
        have HPA : Hid (∀ W, Calls Try.prog 53 #[.string a, .string b, .int .i64 (k : Int)] W fun e w' => e = .returned (.string ⟨P.toArray⟩) ∧ Below W.heap.size W w') := hpa
        clear hpa hP hL
        go_wp2_with fail
        refine (HPA.out _).mono ?_
        rintro e w2 ⟨rfl, hb2⟩
        have hown2 : w2.ownsRow w.heap.size 9 1 u7 L.length (sts L) := owns_below hown hb2
        have hB2 : Below w.heap.size w w2 := bel0 hB hb2
        clear hown hB hb2
        go_wp2_with (at_builtin; refine wpList_append_own _ rfl _ _ 44 rfl w.heap.size 9 i0 (.string ⟨#[]⟩) 1 16 Try.underlying44 hi hz0 hz1 hz2 rfl (by decide) _ _ _ rfl (hown2.alloc _) ⟨w2.heap.size, 0, none⟩ 1 1 [.string ⟨P.toArray⟩] rfl rfl (cell_one_new _ _ _) (by simp [Value.oneCell']) (by unfold maxLen; omega) (by omega) (by have := hB2.size; simp; omega) ?_; intro v' w3 hown' hgrow _)
        go_roundw
        case rel => exact ⟨k + 1, by omega, by go_num, by rw [hs.out, sts_snoc]; simpa using hown', bel_app hB2 hown2 hgrow⟩
        case measure => simp [intOf]; omega
    · have hkn : k = a.size := by omega
      subst hkn
      go_wp2
      go_ret
      exact ⟨_, rfl, hown, hB⟩
end Go.Proofs.Ytmblloddhpcdeac
