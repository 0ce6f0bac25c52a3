import Derived.Lib.TrimByte
import Derived.Lib.Join
import Derived.Lib.IndexAny
import Derived.Shelf.Strings.Trim
import Derived.Shelf.Strings.IndexAnyAll
import Derived.Shelf.Strings.OnBuilder
import Derived.Ground.NamesProg
import Derived.Test.YtnboehlbcjfndaaGreatDoorProg
import Derived.Test.YtnboehlbcjfndaaGreatDoorYBF
import Derived.Test.YtnboehlbcjfndaaGreatDoorYAG
import Derived.Test.YtnboehlbcjfndaaGreatDoorYBH
import Derived.Test.YtnboehlbcjfndaaGreatDoorYAA
import Derived.Lib.IndexLaws
namespace Go.Proofs.YtnboehlbcjfndaaGreatDoor
end Go.Proofs.YtnboehlbcjfndaaGreatDoor
namespace Go.Proofs
open Go.Shelf
end Go.Proofs
namespace Go.Proofs.YtnboehlbcjfndaaGreatDoor
open Go.RowKit Go.Shelf
def cuB (n : Nat) (s : List UInt8) : Bool := decide (s.length = n) && s.all Tn.tri
theorem cuB_P {n : Nat} {s : List UInt8} (h1 : 1 ≤ n) (h2 : n ≤ 256) : cuB n s = (decide (Tn.refP s = 0) && decide (s.length = n)) := by
  unfold cuB
  by_cases hl : s.length = n
  · rw [decide_eq_true hl, Bool.true_and, Bool.and_true, Bool.eq_iff_iff, decide_eq_true_eq, Tn.refP_zero]
    unfold Tn.good
    rw [Bool.and_eq_true, decide_eq_true_eq]
    exact ⟨fun h => ⟨fun e => by rw [e] at hl; simp at hl; omega, by omega, h⟩, fun h => h.2.2⟩
  · rw [decide_eq_false hl, Bool.false_and, Bool.and_false]
set_option maxRecDepth 100000 in
set_option maxHeartbeats 4000000 in
theorem isCube_any (n : Nat) (s : List UInt8) (w : World) (h1 : 1 ≤ n) (h2 : n ≤ 256) (hs : s.length ≤ 281474976710656) : Calls Tryz.prog 54 #[.string ⟨s.toArray⟩, .int .i64 (n : Int)] w fun e w' => e = .returned (.bool (cuB n s)) ∧ Below w.heap.size w w' := by
  rw [cuB_P h1 h2]
  have HP := Tn.parse_any ⟨s.toArray⟩ w (by unfold maxLen; simp [ByteArray.size]; omega)
  have HP2 : Calls Tryz.prog 83 #[.string ⟨s.toArray⟩] w fun e w' => e = .returned (.tuple #[Tn.cubeV (Tn.cubeT s), .int .i64 (Tn.refP s)]) ∧ Below w.heap.size w w' := HP
  clear HP
  have HP := HP2
  obtain ⟨c0, c1, c2, c3, c4, c5, c6, c7, c8, hcu⟩ : ∃ c0 c1 c2 c3 c4 c5 c6 c7 c8 : Int, Tn.cubeV (Tn.cubeT s) = .agg #[.int .i64 c0, .int .u64 c1, .int .u64 c2, .int .u64 c3, .int .u64 c4, .int .u64 c5, .int .u64 c6, .int .u64 c7, .int .u64 c8] := ⟨_, _, _, _, _, _, _, _, _, rfl⟩
  clear HP2
  obtain ⟨er, her⟩ : ∃ er, Tn.refP s = er := ⟨_, rfl⟩
  rw [hcu, her] at HP
  rw [her]
  have HH : Hid (Calls Tryz.prog 83 #[.string ⟨s.toArray⟩] w fun e w' => e = .returned (.tuple #[.agg #[.int .i64 c0, .int .u64 c1, .int .u64 c2, .int .u64 c3, .int .u64 c4, .int .u64 c5, .int .u64 c6, .int .u64 c7, .int .u64 c8], .int .i64 er]) ∧ Below w.heap.size w w') := HP
  clear HP hcu her
  go_enter Tryz.func54, Tryz.ntmps54
  by_cases e0 : er = 0
  · by_cases el : s.length = n
    · have a1 : (er == 0) = true := by rw [e0]; rfl
      have a2 : ((s.length : Int) == (n : Int)) = true := by rw [el]; simp
      rw [decide_eq_true e0, decide_eq_true el]
      clear e0 el
      go_wp2_with fail
      refine HH.out.mono ?_
      rintro e W1 ⟨rfl, hb⟩
      go_wp2_with fail
      go_ret
      exact ⟨rfl, by first | exact hb | exact hb.alloc hb.size _ | exact Tn.put9_below _ _ _ _ _ _ _ _ _ (hb.alloc hb.size _) hb.size⟩
    · have a1 : (er == 0) = true := by rw [e0]; rfl
      have a2 : ((s.length : Int) == (n : Int)) = false := by rw [beq_eq_false_iff_ne]; omega
      rw [decide_eq_true e0, decide_eq_false el]
      clear e0 el
      go_wp2_with fail
      refine HH.out.mono ?_
      rintro e W1 ⟨rfl, hb⟩
      go_wp2_with fail
      go_ret
      exact ⟨rfl, by first | exact hb | exact hb.alloc hb.size _ | exact Tn.put9_below _ _ _ _ _ _ _ _ _ (hb.alloc hb.size _) hb.size⟩
  · have a1 : (er == 0) = false := by rw [beq_eq_false_iff_ne]; exact e0
    rw [decide_eq_false e0]
    clear e0
    go_wp2_with fail
    refine HH.out.mono ?_
    rintro e W1 ⟨rfl, hb⟩
    go_wp2_with fail
    go_ret
    exact ⟨rfl, by first | exact hb | exact hb.alloc hb.size _ | exact Tn.put9_below _ _ _ _ _ _ _ _ _ (hb.alloc hb.size _) hb.size⟩
end Go.Proofs.YtnboehlbcjfndaaGreatDoor
