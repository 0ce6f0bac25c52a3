import Derived.Test.YtmblloddhpcdeacM6
import Derived.Test.YtmblloddhpcdeacW17
import Derived.Test.YtmblloddhpcdeacR2
import Derived.Test.YtmblloddhpcdeacW8
namespace Go.Proofs.Ytmblloddhpcdeac
open Go.RowKit

theorem info_str : (Try.prog.info? 9).map (fun i => (i.zero, i.size, i.bytes)) = some (some (.string ⟨#[]⟩), 1, 16) := by kernel_rfl

theorem other_any (x : UInt8) (w : World) : Calls Try.prog 57 #[.int .u8 (x.toNat : Int)] w fun e w' => e = .returned (.int .u8 ((oth x).toNat : Int)) ∧ w = w' := by
  obtain ⟨p, hp⟩ : ∃ p, ((x.toNat : Int) == 48) = p := ⟨_, rfl⟩
  have M : Hid ((x == 48) = p) := by
    unfold Hid
    have := byte_bne x 48 (by decide)
    unfold bne at this
    rw [← hp]
    exact (Bool.not_inj this).symm
  cases p
  · have e1 : Hid (oth x = 48) := by unfold Hid oth; rw [M.out]; rfl
    go_enter Try.func57, Try.ntmps57
    go_wp2
    go_ret
    exact ⟨by rw [e1.out]; rfl, rfl⟩
  · have e1 : Hid (oth x = 49) := by unfold Hid oth; rw [M.out]; rfl
    go_enter Try.func57, Try.ntmps57
    go_wp2
    go_ret
    exact ⟨by rw [e1.out]; rfl, rfl⟩

theorem own_snocP {W : World} {B k : Nat} {v' : Value} {t : List UInt8} {x : UInt8} (hx : t[k]? = some x)
    (h : W.ownsRow B 5 1 v' (k + 1) (bys (t.take k) ++ [.int .u8 (x.toNat : Int)])) : W.ownsRow B 5 1 v' (k + 1) (bys (t.take (k + 1))) := by
  rw [List.take_add_one, hx]
  show W.ownsRow B _ 1 v' (k + 1) (bys (t.take k ++ [x]))
  rw [← bys_snoc]
  exact h

set_option maxHeartbeats 1000000 in
theorem part_any (a b : ByteArray) (i : Nat) (w : World) (hz0 : a.size = b.size) (hl : a.size ≤ 256) (hq0 : qual a.data.toList b.data.toList i = true) :
    Calls Try.prog 53 #[.string a, .string b, .int .i64 (i : Int)] w fun e w' => e = .returned (.string ⟨(pcT a.data.toList b.data.toList i).toArray⟩) ∧ Below w.heap.size w w' := by
  have hz : Hid (a.size = b.size) := hz0
  have hll : Hid (a.data.toList.length = b.data.toList.length) := by unfold Hid; simp; exact hz0
  have LA : Hid (a.data.toList.length = a.size) := by simp [Hid]
  have hpc : Hid (∀ k (hk : k < a.size) (hk2 : k < b.size), (pcT a.data.toList b.data.toList i)[k]? = some (if k = i then oth b[k] else if k < i then (if a[k] == 120 then b[k] else a[k]) else a[k])) := by
    intro k hk hk2
    rw [pc_get _ _ hll.out i hq0 k (by rw [LA.out]; exact hk)]
    rfl
  have hpl : Hid ((pcT a.data.toList b.data.toList i).length = a.size) := by unfold Hid; rw [pc_len _ _ hll.out, LA.out]
  obtain ⟨P, hP⟩ : ∃ P, pcT a.data.toList b.data.toList i = P := ⟨_, rfl⟩
  rw [hP] at hpc hpl ⊢
  have hi256 : i < 256 := by have := qual_lt _ _ hll.out i hq0; rw [LA.out] at this; omega
  clear hz0 hq0 hP hll LA
  obtain ⟨i0, hi, hz0, hz1, hz2⟩ := info_parts info_u8
  go_enter Try.func53, Try.ntmps53
  go_wp2
  go_loopw [7, 8] (fun v j wr => ∃ k : Nat, k ≤ a.size ∧ j = .int .i64 k ∧ wr.ownsRow w.heap.size 5 1 v k (bys (P.take k)) ∧ Below w.heap.size w wr) (fun _ j _ => a.size - (intOf j).toNat)
  case atStart => exact ⟨0, Nat.zero_le _, rfl, World.ownsRow_nil _ _ _ _, Below.refl _ _⟩
  case round =>
    obtain ⟨k, hk, rfl, hown, hB⟩ := hrel
    by_cases hlt : k < a.size
    · have hkb : k < b.size := by rw [← hz.out]; exact hlt
      have i0' : (0 : Int) ≤ (k : Int) := by omega
      have i1 : (k : Int) < (a.size : Int) := by omega
      have i2 : (k : Int) < (b.size : Int) := by omega
      have hx := hpc.out k hlt hkb
      by_cases hki : k = i
      · rw [if_pos hki] at hx
        have hx' : Hid (P[k]? = some (oth b[k])) := hx
        clear hx hpc
        subst hki
        have m1 : ((k : Int) == (k : Int)) = true := by simp
        go_wp2_with fail
        refine (other_any b[k] _).mono ?_
        rintro e w' ⟨rfl, rfl⟩
        go_wp2_with (at_builtin; refine wpList_append_own _ rfl _ _ 39 rfl w.heap.size 5 i0 (.int .u8 0) 1 1 Try.underlying39 hi hz0 hz1 hz2 rfl (by decide) _ _ _ rfl (hown.alloc _) ⟨wr.heap.size, 0, none⟩ 1 1 [.int .u8 ((oth b[k]).toNat : Int)] rfl rfl (cell_one_new _ _ _) (by simp [Value.oneCell']) (by unfold maxLen; omega) (by omega) (by have := hB.size; simp; omega) ?_; intro v' w1 hown' hgrow _)
        go_roundw
        case rel => exact ⟨k + 1, by omega, by go_num, own_snocP hx'.out hown', bel_app hB hown hgrow⟩
        case measure => simp [intOf]; omega
      · have m1 : ((k : Int) == (i : Int)) = false := by simp; omega
        rw [if_neg hki] at hx
        obtain ⟨p2, n2⟩ : ∃ p, ((a[k].toNat : Int) == 120) = p := ⟨_, rfl⟩
        have M2 : (a[k] == 120) = p2 := by
          have := byte_bne a[k] 120 (by decide)
          unfold bne at this
          rw [← n2]
          exact (Bool.not_inj this).symm
        rw [M2] at hx
        clear M2 hpc
        by_cases hki2 : k < i
        · rw [if_pos hki2] at hx
          have m2 : (k : Int) < (i : Int) := by omega
          cases p2
          · have hx' : Hid (P[k]? = some a[k]) := hx
            clear hx
            go_wp2_with (at_builtin; refine wpList_append_own _ rfl _ _ 39 rfl w.heap.size 5 i0 (.int .u8 0) 1 1 Try.underlying39 hi hz0 hz1 hz2 rfl (by decide) _ _ _ rfl (hown.alloc _) ⟨wr.heap.size, 0, none⟩ 1 1 [.int .u8 (a[k].toNat : Int)] rfl rfl (cell_one_new _ _ _) (by simp [Value.oneCell']) (by unfold maxLen; omega) (by omega) (by have := hB.size; simp; omega) ?_; intro v' w1 hown' hgrow _)
            go_roundw
            case rel => exact ⟨k + 1, by omega, by go_num, own_snocP hx'.out hown', bel_app hB hown hgrow⟩
            case measure => simp [intOf]; omega
          · have hx' : Hid (P[k]? = some b[k]) := hx
            clear hx
            go_wp2_with (at_builtin; refine wpList_append_own _ rfl _ _ 39 rfl w.heap.size 5 i0 (.int .u8 0) 1 1 Try.underlying39 hi hz0 hz1 hz2 rfl (by decide) _ _ _ rfl (hown.alloc _) ⟨wr.heap.size, 0, none⟩ 1 1 [.int .u8 (b[k].toNat : Int)] rfl rfl (cell_one_new _ _ _) (by simp [Value.oneCell']) (by unfold maxLen; omega) (by omega) (by have := hB.size; simp; omega) ?_; intro v' w1 hown' hgrow _)
            go_roundw
            case rel => exact ⟨k + 1, by omega, by go_num, own_snocP hx'.out hown', bel_app hB hown hgrow⟩
            case measure => simp [intOf]; omega
        · rw [if_neg hki2] at hx
          have m2 : ¬ (k : Int) < (i : Int) := by omega
          have hx' : Hid (P[k]? = some a[k]) := hx
          clear hx
          go_wp2_with (at_builtin; refine wpList_append_own _ rfl _ _ 39 rfl w.heap.size 5 i0 (.int .u8 0) 1 1 Try.underlying39 hi hz0 hz1 hz2 rfl (by decide) _ _ _ rfl (hown.alloc _) ⟨wr.heap.size, 0, none⟩ 1 1 [.int .u8 (a[k].toNat : Int)] rfl rfl (cell_one_new _ _ _) (by simp [Value.oneCell']) (by unfold maxLen; omega) (by omega) (by have := hB.size; simp; omega) ?_; intro v' w1 hown' hgrow _)
          go_roundw
          case rel => exact ⟨k + 1, by omega, by go_num, own_snocP hx'.out hown', bel_app hB hown hgrow⟩
          case measure => simp [intOf]; omega
    · have hkn : k = a.size := by omega
      have hT : P.take k = P := List.take_of_length_le (by rw [hpl.out]; omega)
      have hcv := conv_any wr w.heap.size u7 P (by rw [hpl.out, ← hkn]; rw [hT] at hown; exact hown)
      clear hT
      go_wp2
      go_ret
      exact ⟨rfl, hB⟩
end Go.Proofs.Ytmblloddhpcdeac
