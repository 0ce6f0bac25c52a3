import Derived.Test.YtppmncmhokkfdaaDoorZ14
import Derived.Test.YtppmncmhokkfdaaDoorZ1
import Derived.WalkKit
import Derived.Below
import Derived.BigQuiet
import Derived.Lib.ItoaNum
import Derived.Deep.RegionWith
import Derived.Deep.DeepCutAuto
import Derived.Shelf.Strconv.Itoa3
import Derived.Ground.NamesProg
import Derived.Test.YtppmncmhokkfdaaDoorProg
import Derived.Test.YtppmncmhokkfdaaDoorChecked
import Derived.BigCall
namespace Go.Proofs.YtppmncmhokkfdaaDoor
open Go.RowKit Go.Shelf
def parts (r : List UInt8) : List (List UInt8) :=
  if Lib.indexByte r 46 < 0 then [r] else r.take (Lib.indexByte r 46).toNat :: parts (r.drop ((Lib.indexByte r 46).toNat + 1))
termination_by r.length
decreasing_by
  have := idx_lt r 46
  simp
  omega
theorem parts_neg {r : List UInt8} (h : Lib.indexByte r 46 < 0) : parts r = [r] := by rw [parts, if_pos h]
theorem parts_pos {r : List UInt8} {i : Nat} (h : Lib.indexByte r 46 = i) : parts r = r.take i :: parts (r.drop (i + 1)) := by
  rw [parts, if_neg (by omega), h]; rfl
theorem parts_ne (r : List UInt8) : 0 < (parts r).length := by
  rw [parts]; split <;> simp
theorem parts_len (m : Nat) : ∀ r : List UInt8, r.length ≤ m → (parts r).length ≤ m + 1 := by
  induction m using Nat.strongRecOn with
  | ind m ih =>
  intro r hr
  rw [parts]
  split
  · simp
  · rename_i h
    have h1 := idx_lt r 46
    have h2 := ih (m - 1) (by omega) (r.drop ((Lib.indexByte r 46).toNat + 1)) (by simp; omega)
    simp only [List.length_cons]
    omega
def evalP (n : Nat) : List (List UInt8) → Option Nat
  | [] => some n
  | p :: ps => match decN p 255 with
    | some v => evalP (256 * n + v) ps
    | none => none
theorem decN_dot {r : List UInt8} {i : Nat} (h : Lib.indexByte r 46 = i) (t : Nat) : decN r t = none := by
  unfold decN
  rw [if_neg]
  rintro ⟨_, ha, _⟩
  have h1 := (Lib.indexByte_some h).1
  rw [List.all_eq_true] at ha
  exact absurd (ha 46 (List.mem_of_getElem? h1)) (by decide)
theorem quadK_parts (k : Nat) : ∀ (n : Nat) (r : List UInt8), quadK k n r = if (parts r).length = k + 1 then evalP n (parts r) else none := by
  induction k with
  | zero =>
    intro n r
    rw [quadK]
    by_cases h : Lib.indexByte r 46 < 0
    · rw [parts_neg h, if_pos (show [r].length = 0 + 1 from rfl), evalP]
      cases decN r 255 <;> rfl
    · obtain ⟨i, hi⟩ : ∃ i : Nat, Lib.indexByte r 46 = i := ⟨(Lib.indexByte r 46).toNat, by omega⟩
      rw [decN_dot hi, parts_pos hi, if_neg]
      have := parts_ne (r.drop (i + 1))
      simp only [List.length_cons]
      omega
  | succ k ih =>
    intro n r
    rw [quadK]
    by_cases h : Lib.indexByte r 46 < 0
    · rw [if_pos h, parts_neg h, if_neg (by simp)]
    · obtain ⟨i, hi⟩ : ∃ i : Nat, Lib.indexByte r 46 = i := ⟨(Lib.indexByte r 46).toNat, by omega⟩
      rw [if_neg h, parts_pos hi, hi, show ((i : Int)).toNat = i from Int.toNat_natCast i, evalP]
      cases hd : decN (r.take i) 255 with
      | none =>
        show none = if (r.take i :: parts (r.drop (i + 1))).length = k + 1 + 1 then none else none
        rw [ite_self]
      | some v =>
        show quadK k (256 * n + v) (r.drop (i + 1)) = if (r.take i :: parts (r.drop (i + 1))).length = k + 1 + 1 then evalP (256 * n + v) (parts (r.drop (i + 1))) else none
        rw [ih]
        simp only [List.length_cons, Nat.add_right_cancel_iff]
theorem quad_none {l : List UInt8} (h : (parts l).length = 4 → evalP 0 (parts l) = none) : quadK 3 0 l = none := by
  rw [quadK_parts]
  split
  · rename_i h4; exact h h4
  · rfl
theorem shl_or (m v : Nat) (hm : m < 16777216) (hv : v ≤ 255) : bits .or .i64 (wrap64 ((m : Int) * 256)) (v : Int) = ((256 * m + v : Nat) : Int) := by
  have h1 : wrap64 ((m : Int) * 256) = ((256 * m : Nat) : Int) := by unfold wrap64; omega
  rw [h1]
  have a1 : (BitVec.ofInt 64 ((256 * m : Nat) : Int)).toNat = 256 * m := by
    rw [BitVec.ofInt_natCast, BitVec.toNat_ofNat]; exact Nat.mod_eq_of_lt (by omega)
  have a2 : (BitVec.ofInt 64 (v : Int)).toNat = v := by
    rw [BitVec.ofInt_natCast, BitVec.toNat_ofNat]; exact Nat.mod_eq_of_lt (by omega)
  have a3 : 256 * m ||| v = 256 * m + v := by
    have := Nat.two_pow_add_eq_or_of_lt (i := 8) (b := v) (by omega) m
    rw [show (256 : Nat) = 2 ^ 8 by decide]
    exact this.symm
  show IntKind.i64.wrap ((BitVec.ofInt 64 ((256 * m : Nat) : Int) ||| BitVec.ofInt 64 (v : Int)).toNat : Int) = _
  rw [BitVec.toNat_or, a1, a2, a3, IntKind.wrap_i64]
  omega
end Go.Proofs.YtppmncmhokkfdaaDoor
namespace Go.Proofs.YtppmncmhokkfdaaDoor
open Go.RowKit
theorem dig_slice (d : Nat) (hd : d < 10) (W : World) : Sem.run Tryd.prog (Instr.slice 9 (Value.string { data := #[48, 49, 50, 51, 52, 53, 54, 55, 56, 57, 97, 98, 99, 100, 101, 102] }) (some (.int .i64 (d : Int))) (some (.int .i64 ((d : Int) + 1))) none) W = .ok (.string ⟨#[UInt8.ofNat (48 + d)]⟩) W := by
  rw [run_slice_string _ _ _ _ _ _ _ Tryd.underlying9 (by omega) (by omega) (by show _ ≤ (16 : Int); omega)]
  have h : ∀ d : Fin 10, (ByteArray.mk #[48, 49, 50, 51, 52, 53, 54, 55, 56, 57, 97, 98, 99, 100, 101, 102]).extract d.val (d.val + 1) = ⟨#[UInt8.ofNat (48 + d.val)]⟩ := by decide
  have h2 : ((d : Int) + 1).toNat = d + 1 := by omega
  have h3 : ((d : Int)).toNat = d := by omega
  rw [h2, h3]
  exact congrArg (fun x => Result.ok (Value.string x) W) (h ⟨d, hd⟩)
theorem dec_len (n : Nat) : (Lib.decDigits n).length ≤ n + 1 := by
  induction n using Nat.strongRecOn with
  | ind n ih =>
  rw [Lib.decDigits]
  split
  · simp
  · have := ih (n / 10) (by omega)
    rw [List.length_append, List.length_singleton]
    omega
end Go.Proofs.YtppmncmhokkfdaaDoor
namespace Go.Proofs.YtppmncmhokkfdaaDoor
open Go.RowKit
theorem cat7 (a b c d : List UInt8) : ByteArray.mk a.toArray ++ ByteArray.mk #[46] ++ ByteArray.mk b.toArray ++ ByteArray.mk #[46] ++ ByteArray.mk c.toArray ++ ByteArray.mk #[46] ++ ByteArray.mk d.toArray = ⟨(a ++ [46] ++ b ++ [46] ++ c ++ [46] ++ d).toArray⟩ := ByteArray.ext (by simp)
def quadL (n : Nat) : List UInt8 := Lib.decDigits (n / 16777216) ++ [46] ++ Lib.decDigits (n / 65536 % 256) ++ [46] ++ Lib.decDigits (n / 256 % 256) ++ [46] ++ Lib.decDigits (n % 256)
def numL (v : Int) (d : Bool) : List UInt8 := if v < 0 ∨ 4294967295 < v then [] else if d then quadL v.toNat else Lib.decDigits v.toNat
def numE (v : Int) : Int := if v < 0 ∨ 4294967295 < v then 31 else 0
end Go.Proofs.YtppmncmhokkfdaaDoor
namespace Go.Proofs
open Go.Shelf
def Tryd.l171_ren : Go.Shelf.Ren := ⟨fun | 171 => 23 | 243 => 34 | 246 => 52 | 283 => 61 | 284 => 62 | 285 => 63 | 286 => 64 | 129 => 72 | 317 => 71 | 318 => 73 | 319 => 74 | 320 => 75 | 337 => 96 | 338 => 97 | n => n, fun | 3 => 3 | 9 => 9 | 2 => 2 | 4 => 4 | 171 => 102 | 0 => 0 | 53 => 87 | 37 => 52 | 5 => 5 | 173 => 105 | 212 => 111 | 51 => 83 | 20 => 20 | 213 => 112 | 46 => 59 | 232 => 138 | 233 => 139 | n => n, fun | 17 => 3 | 18 => 7 | 19 => 8 | n => n⟩
theorem Tryd.l171 : Go.Proofs.LaysM.n171 Tryd.prog Tryd.l171_ren := {
  mixed := by kernel_rfl
  f129 := Tryd.func72.trans (congrArg some (by kernel_rfl))
  f171 := Tryd.func23.trans (congrArg some (by kernel_rfl))
  f243 := Tryd.func34.trans (congrArg some (by kernel_rfl))
  f246 := Tryd.func52.trans (congrArg some (by kernel_rfl))
  f283 := Tryd.func61.trans (congrArg some (by kernel_rfl))
  f284 := Tryd.func62.trans (congrArg some (by kernel_rfl))
  f285 := Tryd.func63.trans (congrArg some (by kernel_rfl))
  f286 := Tryd.func64.trans (congrArg some (by kernel_rfl))
  f317 := Tryd.func71.trans (congrArg some (by kernel_rfl))
  f318 := Tryd.func73.trans (congrArg some (by kernel_rfl))
  f319 := Tryd.func74.trans (congrArg some (by kernel_rfl))
  f320 := Tryd.func75.trans (congrArg some (by kernel_rfl))
  f337 := Tryd.func96.trans (congrArg some (by kernel_rfl))
  f338 := Tryd.func97.trans (congrArg some (by kernel_rfl))
  t0 := Tryd.underlying0
  a0 := Tryd.isAgg0
  z0 := Tryd.sizeOf0
  v0 := Tryd.zeroValue0
  t2 := Tryd.underlying2
  a2 := Tryd.isAgg2
  z2 := Tryd.sizeOf2
  v2 := Tryd.zeroValue2
  t3 := Tryd.underlying3
  a3 := Tryd.isAgg3
  z3 := Tryd.sizeOf3
  v3 := Tryd.zeroValue3
  t4 := Tryd.underlying4
  a4 := Tryd.isAgg4
  z4 := Tryd.sizeOf4
  v4 := Tryd.zeroValue4
  t5 := Tryd.underlying5
  a5 := Tryd.isAgg5
  z5 := Tryd.sizeOf5
  v5 := Tryd.zeroValue5
  t9 := Tryd.underlying9
  a9 := Tryd.isAgg9
  z9 := Tryd.sizeOf9
  v9 := Tryd.zeroValue9
  t20 := Tryd.underlying20
  a20 := Tryd.isAgg20
  z20 := Tryd.sizeOf20
  v20 := Tryd.zeroValue20
  t37 := Tryd.underlying52
  a37 := Tryd.isAgg52
  z37 := Tryd.sizeOf52
  v37 := Tryd.zeroValue52
  t46 := Tryd.underlying59
  a46 := Tryd.isAgg59
  z46 := Tryd.sizeOf59
  v46 := Tryd.zeroValue59
  t51 := Tryd.underlying83
  a51 := Tryd.isAgg83
  z51 := Tryd.sizeOf83
  v51 := Tryd.zeroValue83
  t53 := Tryd.underlying87
  a53 := Tryd.isAgg87
  z53 := Tryd.sizeOf87
  v53 := Tryd.zeroValue87
  t171 := Tryd.underlying102
  a171 := Tryd.isAgg102
  z171 := Tryd.sizeOf102
  v171 := Tryd.zeroValue102
  t173 := Tryd.underlying105
  a173 := Tryd.isAgg105
  z173 := Tryd.sizeOf105
  v173 := Tryd.zeroValue105
  t212 := Tryd.underlying111
  a212 := Tryd.isAgg111
  z212 := Tryd.sizeOf111
  v212 := Tryd.zeroValue111
  t213 := Tryd.underlying112
  a213 := Tryd.isAgg112
  z213 := Tryd.sizeOf112
  t232 := Tryd.underlying138
  a232 := Tryd.isAgg138
  z232 := Tryd.sizeOf138
  v232 := Tryd.zeroValue138
  t233 := Tryd.underlying139
  a233 := Tryd.isAgg139
  z233 := Tryd.sizeOf139
  v233 := Tryd.zeroValue139
  g17 := by kernel_rfl
  g18 := by kernel_rfl
  g19 := by kernel_rfl
  i0 := by kernel_rfl
  i2 := by kernel_rfl
  i3 := by kernel_rfl
  i4 := by kernel_rfl
  i5 := by kernel_rfl
  i9 := by kernel_rfl
  i20 := by kernel_rfl
  i37 := by kernel_rfl
  i46 := by kernel_rfl
  i51 := by kernel_rfl
  i53 := by kernel_rfl
  i171 := by kernel_rfl
  i173 := by kernel_rfl
  i212 := by kernel_rfl
  i232 := by kernel_rfl
  i233 := by kernel_rfl
  m17 := by kernel_rfl
  m18 := by kernel_rfl
  m19 := by kernel_rfl }
end Go.Proofs
namespace Go.Proofs.YtppmncmhokkfdaaDoor
open Go.Shelf Go.RowKit

theorem itoa_laid (n : Int) (h0 : -9223372036854775808 ≤ n) (h1 : n ≤ 9223372036854775807) (w : World)
    (htab : Lib.TabIs Tryd.prog w "internal/strconv.uint64pow10" .u64 Lib.pow10Tab) :
    Calls Tryd.prog 23 #[.int .i64 n] w fun e w' => e = .returned (.string ⟨(Lib.itoa n).toArray⟩) ∧ ∃ k os, w' = Sort.grow (w.drewN k) os := Any.strconv_Itoa Tryd.l171 n h0 h1 w htab
end Go.Proofs.YtppmncmhokkfdaaDoor
