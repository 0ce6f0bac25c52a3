import Derived.Test.YtclgjdhobdncjaaDoorU4
import Derived.Laws.IdiomStrings
namespace Go.Proofs.YtclgjdhobdncjaaDoor
open Go.RowKit
/-- the bytes of the character of that number -/
def utfL (n : Nat) : List UInt8 :=
  if n < 128 then [UInt8.ofNat n] else if n < 2048 then [UInt8.ofNat (192 + n / 64), UInt8.ofNat (128 + n % 64)]
  else if n < 65536 then [UInt8.ofNat (224 + n / 4096), UInt8.ofNat (128 + n / 64 % 64), UInt8.ofNat (128 + n % 64)]
  else [UInt8.ofNat (240 + n / 262144), UInt8.ofNat (128 + n / 4096 % 64), UInt8.ofNat (128 + n / 64 % 64), UInt8.ofNat (128 + n % 64)]
theorem ofN (n : Nat) (h : n < 256) : ((UInt8.ofNat n).toNat : Int) = (n : Int) := by rw [UInt8.toNat_ofNat']; omega
/-- a new row of bytes read as a string -/
theorem conv_new (w : World) (l : List UInt8) (c : Nat) (V : World) (hV : ∀ j (hj : j < l.length), V.cell? ⟨w.heap.size, j, none⟩ = some (.int .u8 (l[j].toNat : Int))) :
    Sem.run Tryd.prog (convert 32 9 (.slice (some ⟨w.heap.size, 0, none⟩) l.length c)) V = .ok (.string ⟨l.toArray⟩) V :=
  run_convert_bytes_back V _ _ 5 ⟨w.heap.size, 0, none⟩ c l Tryd.underlying32 Tryd.underlying5 Tryd.underlying9 (fun j hj => by
    rw [← hV j hj]
    simp only [Addr.add]
    split
    · rename_i h; subst h; rfl
    · simp)
theorem cells_new (w : World) (cs : Array Value) (t : TypeId) (j : Nat) : (w.alloc (.cells cs t)).cell? ⟨w.heap.size, j, none⟩ = cs[j]? := by
  unfold World.cell?
  rw [alloc_get]
  simp
set_option maxRecDepth 100000 in
set_option maxHeartbeats 2000000 in
theorem refUtf_any (n : Nat) (w : World) (hn : n ≤ 1114111) :
    Calls Tryd.prog 34 #[.int .i64 (n : Int)] w fun e w' => e = .returned (.string ⟨(utfL n).toArray⟩) ∧ Below w.heap.size w w' := by
  have hb : Below w.heap.size w w := Below.refl _ _
  by_cases h1 : n < 128
  · have hr : Hid (utfL n = [UInt8.ofNat (n)]) := by unfold Hid utfL; rw [if_pos h1]
    have i0 : (n : Int) < 128 := by omega
    have cv := conv_new w [UInt8.ofNat (n)] 1 (w.alloc (.cells #[.int .u8 ((n : Int))] 5)) (fun j hj => by
      rw [cells_new]
      match j, hj with
      | 0, _ =>
        show some (Value.int .u8 ((n : Int))) = some (.int .u8 ((UInt8.ofNat (n)).toNat : Int))
        exact congrArg (fun z => some (Value.int .u8 z)) (by have := ofN (n) (by omega); omega)
      | j + 1, h => simp only [List.length_cons, List.length_nil] at h; omega)
    simp only [List.length_cons, List.length_nil, Nat.reduceAdd] at cv
    go_enter Tryd.func34, Tryd.ntmps34
    go_wp2_with fail
    go_ret
    exact ⟨by rw [hr.out]; first | rfl | simp, hb.alloc (Nat.le_refl _) _⟩
  · by_cases h2 : n < 2048
    · have hr : Hid (utfL n = [UInt8.ofNat (192 + n / 64), UInt8.ofNat (128 + n % 64)]) := by unfold Hid utfL; rw [if_neg h1, if_pos h2]
      have i0 : ¬ (n : Int) < 128 := by omega
      have i1 : (n : Int) < 2048 := by omega
      have cv := conv_new w [UInt8.ofNat (192 + n / 64), UInt8.ofNat (128 + n % 64)] 2 (w.alloc (.cells #[.int .u8 (192 + (n : Int) / 64), .int .u8 (128 + (n : Int) % 64)] 5)) (fun j hj => by
        rw [cells_new]
        match j, hj with
        | 0, _ =>
          show some (Value.int .u8 (192 + (n : Int) / 64)) = some (.int .u8 ((UInt8.ofNat (192 + n / 64)).toNat : Int))
          exact congrArg (fun z => some (Value.int .u8 z)) (by have := ofN (192 + n / 64) (by omega); omega)
        | 1, _ =>
          show some (Value.int .u8 (128 + (n : Int) % 64)) = some (.int .u8 ((UInt8.ofNat (128 + n % 64)).toNat : Int))
          exact congrArg (fun z => some (Value.int .u8 z)) (by have := ofN (128 + n % 64) (by omega); omega)
        | j + 2, h => simp only [List.length_cons, List.length_nil] at h; omega)
      simp only [List.length_cons, List.length_nil, Nat.reduceAdd] at cv
      go_enter Tryd.func34, Tryd.ntmps34
      go_wp2_with fail
      go_ret
      exact ⟨by rw [hr.out]; first | rfl | simp, hb.alloc (Nat.le_refl _) _⟩
    · by_cases h3 : n < 65536
      · have hr : Hid (utfL n = [UInt8.ofNat (224 + n / 4096), UInt8.ofNat (128 + n / 64 % 64), UInt8.ofNat (128 + n % 64)]) := by unfold Hid utfL; rw [if_neg h1, if_neg h2, if_pos h3]
        have i0 : ¬ (n : Int) < 128 := by omega
        have i1 : ¬ (n : Int) < 2048 := by omega
        have i2 : (n : Int) < 65536 := by omega
        have cv := conv_new w [UInt8.ofNat (224 + n / 4096), UInt8.ofNat (128 + n / 64 % 64), UInt8.ofNat (128 + n % 64)] 3 (w.alloc (.cells #[.int .u8 (224 + (n : Int) / 4096), .int .u8 (128 + (n : Int) / 64 % 64), .int .u8 (128 + (n : Int) % 64)] 5)) (fun j hj => by
          rw [cells_new]
          match j, hj with
          | 0, _ =>
            show some (Value.int .u8 (224 + (n : Int) / 4096)) = some (.int .u8 ((UInt8.ofNat (224 + n / 4096)).toNat : Int))
            exact congrArg (fun z => some (Value.int .u8 z)) (by have := ofN (224 + n / 4096) (by omega); omega)
          | 1, _ =>
            show some (Value.int .u8 (128 + (n : Int) / 64 % 64)) = some (.int .u8 ((UInt8.ofNat (128 + n / 64 % 64)).toNat : Int))
            exact congrArg (fun z => some (Value.int .u8 z)) (by have := ofN (128 + n / 64 % 64) (by omega); omega)
          | 2, _ =>
            show some (Value.int .u8 (128 + (n : Int) % 64)) = some (.int .u8 ((UInt8.ofNat (128 + n % 64)).toNat : Int))
            exact congrArg (fun z => some (Value.int .u8 z)) (by have := ofN (128 + n % 64) (by omega); omega)
          | j + 3, h => simp only [List.length_cons, List.length_nil] at h; omega)
        simp only [List.length_cons, List.length_nil, Nat.reduceAdd] at cv
        go_enter Tryd.func34, Tryd.ntmps34
        go_wp2_with fail
        go_ret
        exact ⟨by rw [hr.out]; first | rfl | simp, hb.alloc (Nat.le_refl _) _⟩
      · have hr : Hid (utfL n = [UInt8.ofNat (240 + n / 262144), UInt8.ofNat (128 + n / 4096 % 64), UInt8.ofNat (128 + n / 64 % 64), UInt8.ofNat (128 + n % 64)]) := by unfold Hid utfL; rw [if_neg h1, if_neg h2, if_neg h3]
        have i0 : ¬ (n : Int) < 128 := by omega
        have i1 : ¬ (n : Int) < 2048 := by omega
        have i2 : ¬ (n : Int) < 65536 := by omega
        have cv := conv_new w [UInt8.ofNat (240 + n / 262144), UInt8.ofNat (128 + n / 4096 % 64), UInt8.ofNat (128 + n / 64 % 64), UInt8.ofNat (128 + n % 64)] 4 (w.alloc (.cells #[.int .u8 (240 + (n : Int) / 262144), .int .u8 (128 + (n : Int) / 4096 % 64), .int .u8 (128 + (n : Int) / 64 % 64), .int .u8 (128 + (n : Int) % 64)] 5)) (fun j hj => by
          rw [cells_new]
          match j, hj with
          | 0, _ =>
            show some (Value.int .u8 (240 + (n : Int) / 262144)) = some (.int .u8 ((UInt8.ofNat (240 + n / 262144)).toNat : Int))
            exact congrArg (fun z => some (Value.int .u8 z)) (by have := ofN (240 + n / 262144) (by omega); omega)
          | 1, _ =>
            show some (Value.int .u8 (128 + (n : Int) / 4096 % 64)) = some (.int .u8 ((UInt8.ofNat (128 + n / 4096 % 64)).toNat : Int))
            exact congrArg (fun z => some (Value.int .u8 z)) (by have := ofN (128 + n / 4096 % 64) (by omega); omega)
          | 2, _ =>
            show some (Value.int .u8 (128 + (n : Int) / 64 % 64)) = some (.int .u8 ((UInt8.ofNat (128 + n / 64 % 64)).toNat : Int))
            exact congrArg (fun z => some (Value.int .u8 z)) (by have := ofN (128 + n / 64 % 64) (by omega); omega)
          | 3, _ =>
            show some (Value.int .u8 (128 + (n : Int) % 64)) = some (.int .u8 ((UInt8.ofNat (128 + n % 64)).toNat : Int))
            exact congrArg (fun z => some (Value.int .u8 z)) (by have := ofN (128 + n % 64) (by omega); omega)
          | j + 4, h => simp only [List.length_cons, List.length_nil] at h; omega)
        simp only [List.length_cons, List.length_nil, Nat.reduceAdd] at cv
        go_enter Tryd.func34, Tryd.ntmps34
        go_wp2_with fail
        go_ret
        exact ⟨by rw [hr.out]; first | rfl | simp, hb.alloc (Nat.le_refl _) _⟩
end Go.Proofs.YtclgjdhobdncjaaDoor
