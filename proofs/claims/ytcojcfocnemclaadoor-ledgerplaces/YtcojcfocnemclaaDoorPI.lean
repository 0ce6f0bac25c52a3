import Derived.Test.YtcojcfocnemclaaDoorUA
import Derived.Test.YtcojcfocnemclaaDoorLF
namespace Go.Proofs.YtcojcfocnemclaaDoor
open Go.RowKit
set_option maxRecDepth 100000 in
theorem spot_any (k : Int) (n : Nat) (w : World) (h0 : -9223372036854775808 ≤ k) (h1 : k ≤ 9223372036854775807) (hn : 0 < n) (hn2 : n ≤ 281474976710656) :
    Calls Tryd.prog 20 #[.int .i64 k, .int .i64 (n : Int)] w fun e w' => (∃ s : Nat, e = .returned (.int .i64 (s : Int)) ∧ s < n) ∧ w' = w := by
  have hz : ¬ (n : Int) = 0 := by omega
  have hz' : ((n : Int) == 0) = false := by simpa using hz
  by_cases hk : k < 0
  · obtain ⟨m, hm⟩ : ∃ m : Nat, -(k + 1) = (m : Int) := ⟨(-(k + 1)).toNat, by omega⟩
    have e1 : IntKind.i64.wrap (k + 1) = k + 1 := by rw [IntKind.wrap_i64]; omega
    have e2 : IntKind.i64.wrap (m : Int) = (m : Int) := by rw [IntKind.wrap_i64]; omega
    go_enter Tryd.func20, Tryd.ntmps20
    go_wp2_with fail
    go_ret
    exact ⟨⟨m % n, congrArg (fun z => Ending.returned (.int .i64 z)) (Int.natCast_emod m n).symm, Nat.mod_lt m hn⟩, rfl⟩
  · obtain ⟨m, rfl⟩ : ∃ m : Nat, k = (m : Int) := ⟨k.toNat, by omega⟩
    go_enter Tryd.func20, Tryd.ntmps20
    go_wp2_with fail
    go_ret
    exact ⟨⟨m % n, congrArg (fun z => Ending.returned (.int .i64 z)) (Int.natCast_emod m n).symm, Nat.mod_lt m hn⟩, rfl⟩
end Go.Proofs.YtcojcfocnemclaaDoor
