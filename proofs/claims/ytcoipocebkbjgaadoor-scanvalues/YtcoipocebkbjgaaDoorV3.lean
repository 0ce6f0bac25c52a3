import Derived.Test.YtcoipocebkbjgaaDoorV1
import Derived.Test.YtcoipocebkbjgaaDoorG
import Derived.Lib.IndexLaws
namespace Go.Proofs.YtcoipocebkbjgaaDoor
open Go.RowKit
theorem idx_eq {l : List UInt8} {c : UInt8} {k : Nat} (h : l[k]? = some c) (hn : ∀ j, j < k → l[j]? ≠ some c) : Lib.indexByte l c = (k : Int) := by
  have hg := Lib.indexByte_ge l c
  rcases Int.lt_or_le (Lib.indexByte l c) 0 with hi | hi
  · exact absurd h (Lib.indexByte_none (by omega) k)
  · obtain ⟨o, ho⟩ : ∃ o : Nat, Lib.indexByte l c = o := ⟨(Lib.indexByte l c).toNat, by omega⟩
    obtain ⟨h1, h2⟩ := Lib.indexByte_some ho
    rcases Nat.lt_trichotomy o k with hlt | rfl | hgt
    · exact absurd h1 (hn o hlt)
    · exact ho
    · exact absurd h (h2 k hgt)
theorem idx_no {l : List UInt8} {c : UInt8} (hn : ∀ j, j < l.length → l[j]? ≠ some c) : Lib.indexByte l c = -1 := by
  have hg := Lib.indexByte_ge l c
  rcases Int.lt_or_le (Lib.indexByte l c) 0 with hi | hi
  · omega
  · obtain ⟨o, ho⟩ : ∃ o : Nat, Lib.indexByte l c = o := ⟨(Lib.indexByte l c).toNat, by omega⟩
    obtain ⟨h1, _⟩ := Lib.indexByte_some ho
    exact absurd h1 (hn o (List.getElem?_eq_some_iff.1 h1).1)
theorem byte_get (l : List UInt8) (k : Nat) (h : k < l.length) : ∃ c, (∀ h', (ByteArray.mk l.toArray)[k]'h' = c) ∧ l[k]? = some c := ⟨l[k], fun _ => rfl, List.getElem?_eq_getElem h⟩
theorem u8_ne {c d : UInt8} (h : c ≠ d) : ((c.toNat : Int) == (d.toNat : Int)) = false := by
  rw [beq_eq_false_iff_ne]
  intro e
  exact h (UInt8.toNat_inj.1 (by omega))
set_option maxRecDepth 100000 in
theorem dot_any (l : List UInt8) (w : World) (hs : l.length ≤ 16384) :
    Calls Tryd.prog 50 #[.string ⟨l.toArray⟩] w fun e w' => e = .returned (.int .i64 (Lib.indexByte l 46)) ∧ Below w.heap.size w w' := by
  go_enter Tryd.func50, Tryd.ntmps50
  go_wp2
  go_loopw [3] (fun i wr => ∃ k : Nat, k ≤ l.length ∧ i = .int .i64 k ∧ (∀ j, j < k → l[j]? ≠ some 46) ∧ Below w.heap.size w wr) (fun i _ => l.length - (intOf i).toNat)
  case atStart => exact ⟨0, Nat.zero_le _, rfl, fun j hj => by omega, Below.refl _ _⟩
  case round =>
    obtain ⟨k, hk, rfl, hn, hB⟩ := hrel
    by_cases hlt : k < l.length
    · have i1 : (k : Int) < (l.length : Int) := by omega
      obtain ⟨c, hc, hlc⟩ := byte_get l k hlt
      by_cases h46 : c = 46
      · subst h46
        have hr : Hid (Lib.indexByte l 46 = (k : Int)) := idx_eq hlc hn
        go_wp2_with fail
        go_ret
        exact ⟨by rw [hr.out]; rfl, hB⟩
      · have hne : ((c.toNat : Int) == 46) = false := u8_ne (d := 46) h46
        have HN : Hid (∀ j, j < k + 1 → l[j]? ≠ some 46) := fun j hj => by
          rcases Nat.lt_or_ge j k with h | h
          · exact hn j h
          · obtain rfl : j = k := by omega
            rw [hlc]; intro e; injection e with e; exact h46 e
        clear hn
        go_wp2_with fail
        go_roundw
        case rel => exact ⟨k + 1, by omega, by go_num, HN.out, hB⟩
        case measure => simp [intOf]; omega
    · have i1 : ¬ (k : Int) < (l.length : Int) := by omega
      have hr : Hid (Lib.indexByte l 46 = -1) := idx_no (fun j hj => hn j (by omega))
      go_wp2_with fail
      go_ret
      exact ⟨by rw [hr.out]; rfl, hB⟩
end Go.Proofs.YtcoipocebkbjgaaDoor
