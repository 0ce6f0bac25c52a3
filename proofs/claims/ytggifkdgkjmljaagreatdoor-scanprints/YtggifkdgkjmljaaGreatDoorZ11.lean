import Derived.Test.YtggifkdgkjmljaaGreatDoorZ10
import Derived.Test.YtggifkdgkjmljaaGreatDoorZ1
import Derived.WalkKit
import Derived.Below
import Derived.BigQuiet
import Derived.Lib.ItoaNum
import Derived.Deep.RegionWith
import Derived.Deep.DeepCutAuto
import Derived.Shelf.Strconv.Itoa3
import Derived.Ground.NamesProg
import Derived.Test.YtggifkdgkjmljaaGreatDoorProg
import Derived.Test.YtggifkdgkjmljaaGreatDoorChecked
import Derived.BigCall
import Derived.Lib.AppendIntMem
import Derived.Laws.BitsAllLaws
namespace Go.Proofs.YtggifkdgkjmljaaGreatDoor
open Go.RowKit Go.Shelf
def parts (r : List UInt8) : List (List UInt8) :=
  if Lib.indexByte r 46 < 0 then [r] else r.take (Lib.indexByte r 46).toNat :: parts (r.drop ((Lib.indexByte r 46).toNat + 1))
termination_by r.length
decreasing_by
  have := idx_lt r 46
  simp
  omega
theorem parts_neg {r : List UInt8} (h : Lib.indexByte r 46 < 0) : parts r = [r] := by rw [parts, if_pos h]
theorem parts_pos {r : List UInt8} {i : Nat} (h : Lib.indexByte r 46 = i) : parts r = r.take i :: parts (r.drop (i + 1)) := by
  rw [parts, if_neg (by omega), h]; rfl
theorem parts_ne (r : List UInt8) : 0 < (parts r).length := by
  rw [parts]; split <;> simp
theorem parts_len (m : Nat) : ∀ r : List UInt8, r.length ≤ m → (parts r).length ≤ m + 1 := by
  induction m using Nat.strongRecOn with
  | ind m ih =>
  intro r hr
  rw [parts]
  split
  · simp
  · rename_i h
    have h1 := idx_lt r 46
    have h2 := ih (m - 1) (by omega) (r.drop ((Lib.indexByte r 46).toNat + 1)) (by simp; omega)
    simp only [List.length_cons]
    omega
def evalP (n : Nat) : List (List UInt8) → Option Nat
  | [] => some n
  | p :: ps => match decN p 255 with
    | some v => evalP (256 * n + v) ps
    | none => none
theorem decN_dot {r : List UInt8} {i : Nat} (h : Lib.indexByte r 46 = i) (t : Nat) : decN r t = none := by
  unfold decN
  rw [if_neg]
  rintro ⟨_, ha, _⟩
  have h1 := (Lib.indexByte_some h).1
  rw [List.all_eq_true] at ha
  exact absurd (ha 46 (List.mem_of_getElem? h1)) (by decide)
theorem quadK_parts (k : Nat) : ∀ (n : Nat) (r : List UInt8), quadK k n r = if (parts r).length = k + 1 then evalP n (parts r) else none := by
  induction k with
  | zero =>
    intro n r
    rw [quadK]
    by_cases h : Lib.indexByte r 46 < 0
    · rw [parts_neg h, if_pos (show [r].length = 0 + 1 from rfl), evalP]
      cases decN r 255 <;> rfl
    · obtain ⟨i, hi⟩ : ∃ i : Nat, Lib.indexByte r 46 = i := ⟨(Lib.indexByte r 46).toNat, by omega⟩
      rw [decN_dot hi, parts_pos hi, if_neg]
      have := parts_ne (r.drop (i + 1))
      simp only [List.length_cons]
      omega
  | succ k ih =>
    intro n r
    rw [quadK]
    by_cases h : Lib.indexByte r 46 < 0
    · rw [if_pos h, parts_neg h, if_neg (by simp)]
    · obtain ⟨i, hi⟩ : ∃ i : Nat, Lib.indexByte r 46 = i := ⟨(Lib.indexByte r 46).toNat, by omega⟩
      rw [if_neg h, parts_pos hi, hi, show ((i : Int)).toNat = i from Int.toNat_natCast i, evalP]
      cases hd : decN (r.take i) 255 with
      | none =>
        show none = if (r.take i :: parts (r.drop (i + 1))).length = k + 1 + 1 then none else none
        rw [ite_self]
      | some v =>
        show quadK k (256 * n + v) (r.drop (i + 1)) = if (r.take i :: parts (r.drop (i + 1))).length = k + 1 + 1 then evalP (256 * n + v) (parts (r.drop (i + 1))) else none
        rw [ih]
        simp only [List.length_cons, Nat.add_right_cancel_iff]
theorem quad_none {l : List UInt8} (h : (parts l).length = 4 → evalP 0 (parts l) = none) : quadK 3 0 l = none := by
  rw [quadK_parts]
  split
  · rename_i h4; exact h h4
  · rfl
theorem shl_or (m v : Nat) (hm : m < 16777216) (hv : v ≤ 255) : bits .or .i64 (wrap64 ((m : Int) * 256)) (v : Int) = ((256 * m + v : Nat) : Int) := by
  have h1 : wrap64 ((m : Int) * 256) = ((256 * m : Nat) : Int) := by unfold wrap64; omega
  rw [h1]
  have a1 : (BitVec.ofInt 64 ((256 * m : Nat) : Int)).toNat = 256 * m := by
    rw [BitVec.ofInt_natCast, BitVec.toNat_ofNat]; exact Nat.mod_eq_of_lt (by omega)
  have a2 : (BitVec.ofInt 64 (v : Int)).toNat = v := by
    rw [BitVec.ofInt_natCast, BitVec.toNat_ofNat]; exact Nat.mod_eq_of_lt (by omega)
  have a3 : 256 * m ||| v = 256 * m + v := by
    have := Nat.two_pow_add_eq_or_of_lt (i := 8) (b := v) (by omega) m
    rw [show (256 : Nat) = 2 ^ 8 by decide]
    exact this.symm
  show IntKind.i64.wrap ((BitVec.ofInt 64 ((256 * m : Nat) : Int) ||| BitVec.ofInt 64 (v : Int)).toNat : Int) = _
  rw [BitVec.toNat_or, a1, a2, a3, IntKind.wrap_i64]
  omega
end Go.Proofs.YtggifkdgkjmljaaGreatDoor
namespace Go.Proofs.YtggifkdgkjmljaaGreatDoor
open Go.RowKit
theorem dig_slice (d : Nat) (hd : d < 10) (W : World) : Sem.run Tryz.prog (Instr.slice 9 (Value.string { data := #[48, 49, 50, 51, 52, 53, 54, 55, 56, 57, 97, 98, 99, 100, 101, 102] }) (some (.int .i64 (d : Int))) (some (.int .i64 ((d : Int) + 1))) none) W = .ok (.string ⟨#[UInt8.ofNat (48 + d)]⟩) W := by
  rw [run_slice_string _ _ _ _ _ _ _ Tryz.underlying9 (by omega) (by omega) (by show _ ≤ (16 : Int); omega)]
  have h : ∀ d : Fin 10, (ByteArray.mk #[48, 49, 50, 51, 52, 53, 54, 55, 56, 57, 97, 98, 99, 100, 101, 102]).extract d.val (d.val + 1) = ⟨#[UInt8.ofNat (48 + d.val)]⟩ := by decide
  have h2 : ((d : Int) + 1).toNat = d + 1 := by omega
  have h3 : ((d : Int)).toNat = d := by omega
  rw [h2, h3]
  exact congrArg (fun x => Result.ok (Value.string x) W) (h ⟨d, hd⟩)
theorem dec_len (n : Nat) : (Lib.decDigits n).length ≤ n + 1 := by
  induction n using Nat.strongRecOn with
  | ind n ih =>
  rw [Lib.decDigits]
  split
  · simp
  · have := ih (n / 10) (by omega)
    rw [List.length_append, List.length_singleton]
    omega
end Go.Proofs.YtggifkdgkjmljaaGreatDoor
namespace Go.Proofs.YtggifkdgkjmljaaGreatDoor
open Go.RowKit
theorem cat7 (a b c d : List UInt8) : ByteArray.mk a.toArray ++ ByteArray.mk #[46] ++ ByteArray.mk b.toArray ++ ByteArray.mk #[46] ++ ByteArray.mk c.toArray ++ ByteArray.mk #[46] ++ ByteArray.mk d.toArray = ⟨(a ++ [46] ++ b ++ [46] ++ c ++ [46] ++ d).toArray⟩ := ByteArray.ext (by simp)
def quadL (n : Nat) : List UInt8 := Lib.decDigits (n / 16777216) ++ [46] ++ Lib.decDigits (n / 65536 % 256) ++ [46] ++ Lib.decDigits (n / 256 % 256) ++ [46] ++ Lib.decDigits (n % 256)
def numL (v : Int) (d : Bool) : List UInt8 := if v < 0 ∨ 4294967295 < v then [] else if d then quadL v.toNat else Lib.decDigits v.toNat
def numE (v : Int) : Int := if v < 0 ∨ 4294967295 < v then 31 else 0
end Go.Proofs.YtggifkdgkjmljaaGreatDoor
namespace Go.Proofs
open Go.Shelf
def Tryz.l171_ren : Go.Shelf.Ren := ⟨fun | 171 => 92 | 243 => 102 | 246 => 113 | 283 => 115 | 284 => 116 | 285 => 117 | 286 => 118 | 129 => 120 | 317 => 119 | 318 => 121 | 319 => 122 | 320 => 123 | 337 => 124 | 338 => 125 | n => n, fun | 3 => 3 | 9 => 9 | 2 => 2 | 4 => 4 | 171 => 141 | 0 => 0 | 53 => 114 | 37 => 34 | 5 => 5 | 173 => 144 | 212 => 150 | 51 => 101 | 20 => 20 | 213 => 151 | 46 => 112 | 232 => 154 | 233 => 155 | n => n, fun | 17 => 9 | 18 => 10 | 19 => 11 | n => n⟩
theorem Tryz.l171 : Go.Proofs.LaysM.n171 Tryz.prog Tryz.l171_ren := {
  mixed := by kernel_rfl
  f129 := Tryz.func120.trans (congrArg some (by kernel_rfl))
  f171 := Tryz.func92.trans (congrArg some (by kernel_rfl))
  f243 := Tryz.func102.trans (congrArg some (by kernel_rfl))
  f246 := Tryz.func113.trans (congrArg some (by kernel_rfl))
  f283 := Tryz.func115.trans (congrArg some (by kernel_rfl))
  f284 := Tryz.func116.trans (congrArg some (by kernel_rfl))
  f285 := Tryz.func117.trans (congrArg some (by kernel_rfl))
  f286 := Tryz.func118.trans (congrArg some (by kernel_rfl))
  f317 := Tryz.func119.trans (congrArg some (by kernel_rfl))
  f318 := Tryz.func121.trans (congrArg some (by kernel_rfl))
  f319 := Tryz.func122.trans (congrArg some (by kernel_rfl))
  f320 := Tryz.func123.trans (congrArg some (by kernel_rfl))
  f337 := Tryz.func124.trans (congrArg some (by kernel_rfl))
  f338 := Tryz.func125.trans (congrArg some (by kernel_rfl))
  t0 := Tryz.underlying0
  a0 := Tryz.isAgg0
  z0 := Tryz.sizeOf0
  v0 := Tryz.zeroValue0
  t2 := Tryz.underlying2
  a2 := Tryz.isAgg2
  z2 := Tryz.sizeOf2
  v2 := Tryz.zeroValue2
  t3 := Tryz.underlying3
  a3 := Tryz.isAgg3
  z3 := Tryz.sizeOf3
  v3 := Tryz.zeroValue3
  t4 := Tryz.underlying4
  a4 := Tryz.isAgg4
  z4 := Tryz.sizeOf4
  v4 := Tryz.zeroValue4
  t5 := Tryz.underlying5
  a5 := Tryz.isAgg5
  z5 := Tryz.sizeOf5
  v5 := Tryz.zeroValue5
  t9 := Tryz.underlying9
  a9 := Tryz.isAgg9
  z9 := Tryz.sizeOf9
  v9 := Tryz.zeroValue9
  t20 := Tryz.underlying20
  a20 := Tryz.isAgg20
  z20 := Tryz.sizeOf20
  v20 := Tryz.zeroValue20
  t37 := Tryz.underlying34
  a37 := Tryz.isAgg34
  z37 := Tryz.sizeOf34
  v37 := Tryz.zeroValue34
  t46 := Tryz.underlying112
  a46 := Tryz.isAgg112
  z46 := Tryz.sizeOf112
  v46 := Tryz.zeroValue112
  t51 := Tryz.underlying101
  a51 := Tryz.isAgg101
  z51 := Tryz.sizeOf101
  v51 := Tryz.zeroValue101
  t53 := Tryz.underlying114
  a53 := Tryz.isAgg114
  z53 := Tryz.sizeOf114
  v53 := Tryz.zeroValue114
  t171 := Tryz.underlying141
  a171 := Tryz.isAgg141
  z171 := Tryz.sizeOf141
  v171 := Tryz.zeroValue141
  t173 := Tryz.underlying144
  a173 := Tryz.isAgg144
  z173 := Tryz.sizeOf144
  v173 := Tryz.zeroValue144
  t212 := Tryz.underlying150
  a212 := Tryz.isAgg150
  z212 := Tryz.sizeOf150
  v212 := Tryz.zeroValue150
  t213 := Tryz.underlying151
  a213 := Tryz.isAgg151
  z213 := Tryz.sizeOf151
  t232 := Tryz.underlying154
  a232 := Tryz.isAgg154
  z232 := Tryz.sizeOf154
  v232 := Tryz.zeroValue154
  t233 := Tryz.underlying155
  a233 := Tryz.isAgg155
  z233 := Tryz.sizeOf155
  v233 := Tryz.zeroValue155
  g17 := by kernel_rfl
  g18 := by kernel_rfl
  g19 := by kernel_rfl
  i0 := by kernel_rfl
  i2 := by kernel_rfl
  i3 := by kernel_rfl
  i4 := by kernel_rfl
  i5 := by kernel_rfl
  i9 := by kernel_rfl
  i20 := by kernel_rfl
  i37 := by kernel_rfl
  i46 := by kernel_rfl
  i51 := by kernel_rfl
  i53 := by kernel_rfl
  i171 := by kernel_rfl
  i173 := by kernel_rfl
  i212 := by kernel_rfl
  i232 := by kernel_rfl
  i233 := by kernel_rfl
  m17 := by kernel_rfl
  m18 := by kernel_rfl
  m19 := by kernel_rfl }
end Go.Proofs
namespace Go.Proofs.YtggifkdgkjmljaaGreatDoor
open Go.Shelf Go.RowKit

theorem itoa_laid (n : Int) (h0 : -9223372036854775808 ≤ n) (h1 : n ≤ 9223372036854775807) (w : World)
    (htab : Lib.TabIs Tryz.prog w "internal/strconv.uint64pow10" .u64 Lib.pow10Tab) :
    Calls Tryz.prog 92 #[.int .i64 n] w fun e w' => e = .returned (.string ⟨(Lib.itoa n).toArray⟩) ∧ ∃ k os, w' = Sort.grow (w.drewN k) os := Any.strconv_Itoa Tryz.l171 n h0 h1 w htab
end Go.Proofs.YtggifkdgkjmljaaGreatDoor
namespace Go.Proofs.YtggifkdgkjmljaaGreatDoor
open Go.RowKit
theorem tab_below {w W : World} (h : Lib.TabIs Tryz.prog w "internal/strconv.uint64pow10" .u64 Lib.pow10Tab) (hb : Below w.heap.size w W) : Lib.TabIs Tryz.prog W "internal/strconv.uint64pow10" .u64 Lib.pow10Tab := by
  unfold Lib.TabIs World.var? at h ⊢
  cases hg : Tryz.prog.globalNamed "internal/strconv.uint64pow10" with
  | none => rw [hg] at h; cases h
  | some g =>
    rw [hg] at h
    simp only [Option.bind_some] at h ⊢
    cases hw : w.heap[g]? with
    | none => rw [hw] at h; cases h
    | some o => rw [keepblk hb hw]; rw [hw] at h; exact h
theorem grow_below (w : World) (k : Nat) (os : Array Obj) : Below w.heap.size w (Sort.grow (w.drewN k) os) := Lib.below_grow _ w (Nat.le_refl _) k os
theorem itoa_any (n : Nat) (hn : n < 4294967296) (w : World) (htab : Lib.TabIs Tryz.prog w "internal/strconv.uint64pow10" .u64 Lib.pow10Tab) :
    Calls Tryz.prog 92 #[.int .i64 (n : Int)] w fun e w' => e = .returned (.string ⟨(Lib.decDigits n).toArray⟩) ∧ Below w.heap.size w w' :=
  (itoa_laid n (by omega) (by omega) w htab).mono fun e w' ⟨he, k, os, hw⟩ => ⟨by rw [he]; unfold Lib.itoa; rw [if_neg (by omega)]; rfl, by rw [hw]; exact grow_below w k os⟩
theorem i64_and255 (x : Nat) (hx : x < 9223372036854775808) : bits .and .i64 (x : Int) 255 = ((x % 256 : Nat) : Int) := by
  have h1 : (BitVec.ofInt 64 (x : Int)).toNat = x := by
    rw [BitVec.ofInt_natCast, BitVec.toNat_ofNat]; exact Nat.mod_eq_of_lt (by omega)
  have h2 : (BitVec.ofInt 64 (255 : Int)).toNat = 255 := by decide
  have h3 : x &&& 255 = x % 256 := Nat.and_two_pow_sub_one_eq_mod x 8
  show IntKind.i64.wrap ((BitVec.ofInt 64 (x : Int) &&& BitVec.ofInt 64 (255 : Int)).toNat : Int) = _
  rw [BitVec.toNat_and, h1, h2, h3, IntKind.wrap_i64]
  omega
theorem and_q (n q r : Nat) (hn : n < 4294967296) (h : n / q = r) : bits .and .i64 ((n : Int) / (q : Int)) 255 = ((r % 256 : Nat) : Int) := by
  have e : (n : Int) / (q : Int) = (r : Int) := by rw [← h]; exact (Int.natCast_ediv n q).symm
  rw [e]
  exact i64_and255 r (by rw [← h]; exact Nat.lt_of_le_of_lt (Nat.div_le_self n q) (by omega))
theorem cat7' (a b c d : List UInt8) : ByteArray.mk a.toArray ++ (ByteArray.mk #[46] ++ ByteArray.mk b.toArray) ++ (ByteArray.mk #[46] ++ ByteArray.mk c.toArray) ++ (ByteArray.mk #[46] ++ ByteArray.mk d.toArray) = ⟨(a ++ [46] ++ b ++ [46] ++ c ++ [46] ++ d).toArray⟩ := ByteArray.ext (by simp)
end Go.Proofs.YtggifkdgkjmljaaGreatDoor
