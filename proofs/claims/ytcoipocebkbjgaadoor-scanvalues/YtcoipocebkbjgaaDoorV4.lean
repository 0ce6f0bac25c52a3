import Derived.Test.YtcoipocebkbjgaaDoorV3
import Derived.Deep.QuietTactic
namespace Go.Proofs.YtcoipocebkbjgaaDoor
open Go.RowKit
def digs : List UInt8 := [48, 49, 50, 51, 52, 53, 54, 55, 56, 57]
theorem digs_has (c : UInt8) : digs.contains c = isDig c := by
  have h : ∀ n : Fin 256, digs.contains (UInt8.ofNat n.val) = isDig (UInt8.ofNat n.val) := by decide +kernel
  have := h ⟨c.toNat, c.toNat_lt⟩
  rw [UInt8.ofNat_toNat] at this
  exact this
theorem digs_take (k : Nat) (c d : UInt8) (h : digs[k]? = some d) : (digs.take (k + 1)).contains c = ((digs.take k).contains c || c == d) := by
  rw [List.take_add_one, h, List.contains_append]
  show ((digs.take k).contains c || [d].contains c) = _
  rw [List.contains_cons, List.contains_nil, Bool.or_false]
set_option maxRecDepth 100000 in
theorem all_any (l : List UInt8) (w : World) (hs : l.length ≤ 16384) :
    Calls Tryd.prog 72 #[.string ⟨l.toArray⟩, .string ⟨#[48, 49, 50, 51, 52, 53, 54, 55, 56, 57]⟩] w fun e w' => e = .returned (.bool (l.all isDig)) ∧ Below w.heap.size w w' := by
  go_enter Tryd.func72, Tryd.ntmps72
  go_wp2
  go_loopw [5] (fun i wr => ∃ k : Nat, k ≤ l.length ∧ i = .int .i64 k ∧ (∀ j c, j < k → l[j]? = some c → isDig c = true) ∧ Below w.heap.size w wr) (fun i _ => l.length - (intOf i).toNat)
  case atStart => exact ⟨0, Nat.zero_le _, rfl, fun j c hj => by omega, Below.refl _ _⟩
  case round =>
    obtain ⟨k, hk, rfl, hn, hB⟩ := hrel
    by_cases hlt : k < l.length
    · have i1 : (k : Int) < (l.length : Int) := by omega
      obtain ⟨c, hc, hlc⟩ := byte_get l k hlt
      have HN : Hid (∀ j c, j < k → l[j]? = some c → isDig c = true) := hn
      clear hn
      rename World => wq
      go_wp2_with fail
      go_loopw [6, 7] (fun b j wr => ∃ m : Nat, m ≤ 10 ∧ j = .int .i64 m ∧ b = .bool ((digs.take m).contains c) ∧ Below w.heap.size w wr) (fun _ j _ => 10 - (intOf j).toNat)
      case atStart => exact ⟨0, by omega, rfl, rfl, hB⟩
      case round =>
        clear hB
        obtain ⟨m, hm, rfl, rfl, hB⟩ := hrel
        by_cases hlm : m < 10
        · have i2 : (m : Int) < 10 := by omega
          obtain ⟨d, hd0, hld⟩ := byte_get digs m hlm
          have hd : ∀ h', (ByteArray.mk #[48, 49, 50, 51, 52, 53, 54, 55, 56, 57])[m]'h' = d := hd0
          have ht := digs_take m c d hld
          clear hd0
          obtain ⟨x, hx⟩ : ∃ x, (digs.take m).contains c = x := ⟨_, rfl⟩
          obtain ⟨y, hy⟩ : ∃ y, (digs.take (m + 1)).contains c = y := ⟨_, rfl⟩
          rw [hx, hy] at ht
          have HY : Hid ((digs.take (m + 1)).contains c = y) := hy
          rw [hx]
          clear hx hy
          by_cases hcd : c = d
          · subst hcd
            obtain rfl : y = true := by rw [ht]; simp
            clear ht
            go_wp2_with fail
            go_quiet (fail)
            go_wp2_with fail
            go_roundw
            case rel => exact ⟨m + 1, by omega, by go_num, by rw [HY.out], bel_drewN _ hB⟩
            case measure => simp [intOf]; omega
          · have hne := u8_ne hcd
            obtain rfl : y = x := by rw [ht, beq_eq_false_iff_ne.2 hcd]; simp
            clear ht
            go_wp2_with fail
            go_quiet (fail)
            go_wp2_with fail
            go_roundw
            case rel => exact ⟨m + 1, by omega, by go_num, by rw [HY.out], bel_drewN _ hB⟩
            case measure => simp [intOf]; omega
        · have i2 : ¬ (m : Int) < 10 := by omega
          obtain rfl : m = 10 := by omega
          have hx : (digs.take 10).contains c = isDig c := digs_has c
          rw [hx]
          by_cases hcd : isDig c = true
          · rw [hcd]
            have HN2 : Hid (∀ j c, j < k + 1 → l[j]? = some c → isDig c = true) := fun j e hj he => by
              rcases Nat.lt_or_ge j k with h | h
              · exact HN.out j e h he
              · obtain rfl : j = k := by omega
                rw [hlc] at he; injection he with he; rw [← he]; exact hcd
            go_wp2_with fail
            go_roundw
            case rel => exact ⟨k + 1, by omega, by go_num, HN2.out, hB⟩
            case measure => simp [intOf]; omega
          · have hr : Hid (l.all isDig = false) := by
              unfold Hid
              cases ha : l.all isDig with
              | false => rfl
              | true =>
                rw [List.all_eq_true] at ha
                exact absurd (ha c (List.mem_of_getElem? hlc)) hcd
            rw [Bool.eq_false_iff.2 hcd]
            go_wp2_with fail
            go_ret
            exact ⟨by rw [hr.out]; rfl, hB⟩
    · have i1 : ¬ (k : Int) < (l.length : Int) := by omega
      have hr : Hid (l.all isDig = true) := by
        unfold Hid
        rw [List.all_eq_true]
        intro x hx
        obtain ⟨j, hj, rfl⟩ := List.mem_iff_getElem.1 hx
        exact hn j _ (by omega) (List.getElem?_eq_getElem hj)
      clear hn
      go_wp2_with fail
      go_ret
      exact ⟨by rw [hr.out]; rfl, hB⟩
end Go.Proofs.YtcoipocebkbjgaaDoor
