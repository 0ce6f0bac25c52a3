import Derived.Test.YthlgjdadkmpbbaaDoorXAO
import Derived.Test.YthlgjdadkmpbbaaDoorXAA
import Derived.WalkKit
import Derived.Below
import Derived.BigQuiet
import Derived.Lib.ItoaNum
import Derived.Deep.RegionWith
import Derived.Deep.DeepCutAuto
import Derived.Shelf.Strconv.Itoa3
import Derived.Ground.NamesProg
import Derived.Test.YthlgjdadkmpbbaaDoorProg
import Derived.Test.YthlgjdadkmpbbaaDoorChecked
import Derived.BigCall
import Derived.Lib.AppendIntMem
import Derived.Laws.BitsAllLaws
import Derived.Test.YthlgjdadkmpbbaaDoorXAC
import Derived.Lib.AtoiErrMem
namespace Go.Proofs.YthlgjdadkmpbbaaDoor
open Go.RowKit Go.Shelf
def parts (r : List UInt8) : List (List UInt8) :=
  if Lib.indexByte r 46 < 0 then [r] else r.take (Lib.indexByte r 46).toNat :: parts (r.drop ((Lib.indexByte r 46).toNat + 1))
termination_by r.length
decreasing_by
  have := idx_lt r 46
  simp
  omega
theorem parts_neg {r : List UInt8} (h : Lib.indexByte r 46 < 0) : parts r = [r] := by rw [parts, if_pos h]
theorem parts_pos {r : List UInt8} {i : Nat} (h : Lib.indexByte r 46 = i) : parts r = r.take i :: parts (r.drop (i + 1)) := by
  rw [parts, if_neg (by omega), h]; rfl
theorem parts_ne (r : List UInt8) : 0 < (parts r).length := by
  rw [parts]; split <;> simp
theorem parts_len (m : Nat) : ∀ r : List UInt8, r.length ≤ m → (parts r).length ≤ m + 1 := by
  induction m using Nat.strongRecOn with
  | ind m ih =>
  intro r hr
  rw [parts]
  split
  · simp
  · rename_i h
    have h1 := idx_lt r 46
    have h2 := ih (m - 1) (by omega) (r.drop ((Lib.indexByte r 46).toNat + 1)) (by simp; omega)
    simp only [List.length_cons]
    omega
def evalP (n : Nat) : List (List UInt8) → Option Nat
  | [] => some n
  | p :: ps => match decN p 255 with
    | some v => evalP (256 * n + v) ps
    | none => none
theorem decN_dot {r : List UInt8} {i : Nat} (h : Lib.indexByte r 46 = i) (t : Nat) : decN r t = none := by
  unfold decN
  rw [if_neg]
  rintro ⟨_, ha, _⟩
  have h1 := (Lib.indexByte_some h).1
  rw [List.all_eq_true] at ha
  exact absurd (ha 46 (List.mem_of_getElem? h1)) (by decide)
theorem quadK_parts (k : Nat) : ∀ (n : Nat) (r : List UInt8), quadK k n r = if (parts r).length = k + 1 then evalP n (parts r) else none := by
  induction k with
  | zero =>
    intro n r
    rw [quadK]
    by_cases h : Lib.indexByte r 46 < 0
    · rw [parts_neg h, if_pos (show [r].length = 0 + 1 from rfl), evalP]
      cases decN r 255 <;> rfl
    · obtain ⟨i, hi⟩ : ∃ i : Nat, Lib.indexByte r 46 = i := ⟨(Lib.indexByte r 46).toNat, by omega⟩
      rw [decN_dot hi, parts_pos hi, if_neg]
      have := parts_ne (r.drop (i + 1))
      simp only [List.length_cons]
      omega
  | succ k ih =>
    intro n r
    rw [quadK]
    by_cases h : Lib.indexByte r 46 < 0
    · rw [if_pos h, parts_neg h, if_neg (by simp)]
    · obtain ⟨i, hi⟩ : ∃ i : Nat, Lib.indexByte r 46 = i := ⟨(Lib.indexByte r 46).toNat, by omega⟩
      rw [if_neg h, parts_pos hi, hi, show ((i : Int)).toNat = i from Int.toNat_natCast i, evalP]
      cases hd : decN (r.take i) 255 with
      | none =>
        show none = if (r.take i :: parts (r.drop (i + 1))).length = k + 1 + 1 then none else none
        rw [ite_self]
      | some v =>
        show quadK k (256 * n + v) (r.drop (i + 1)) = if (r.take i :: parts (r.drop (i + 1))).length = k + 1 + 1 then evalP (256 * n + v) (parts (r.drop (i + 1))) else none
        rw [ih]
        simp only [List.length_cons, Nat.add_right_cancel_iff]
theorem quad_none {l : List UInt8} (h : (parts l).length = 4 → evalP 0 (parts l) = none) : quadK 3 0 l = none := by
  rw [quadK_parts]
  split
  · rename_i h4; exact h h4
  · rfl
theorem shl_or (m v : Nat) (hm : m < 16777216) (hv : v ≤ 255) : bits .or .i64 (wrap64 ((m : Int) * 256)) (v : Int) = ((256 * m + v : Nat) : Int) := by
  have h1 : wrap64 ((m : Int) * 256) = ((256 * m : Nat) : Int) := by unfold wrap64; omega
  rw [h1]
  have a1 : (BitVec.ofInt 64 ((256 * m : Nat) : Int)).toNat = 256 * m := by
    rw [BitVec.ofInt_natCast, BitVec.toNat_ofNat]; exact Nat.mod_eq_of_lt (by omega)
  have a2 : (BitVec.ofInt 64 (v : Int)).toNat = v := by
    rw [BitVec.ofInt_natCast, BitVec.toNat_ofNat]; exact Nat.mod_eq_of_lt (by omega)
  have a3 : 256 * m ||| v = 256 * m + v := by
    have := Nat.two_pow_add_eq_or_of_lt (i := 8) (b := v) (by omega) m
    rw [show (256 : Nat) = 2 ^ 8 by decide]
    exact this.symm
  show IntKind.i64.wrap ((BitVec.ofInt 64 ((256 * m : Nat) : Int) ||| BitVec.ofInt 64 (v : Int)).toNat : Int) = _
  rw [BitVec.toNat_or, a1, a2, a3, IntKind.wrap_i64]
  omega
end Go.Proofs.YthlgjdadkmpbbaaDoor
namespace Go.Proofs.YthlgjdadkmpbbaaDoor
open Go.RowKit
end Go.Proofs.YthlgjdadkmpbbaaDoor
namespace Go.Proofs.YthlgjdadkmpbbaaDoor
open Go.RowKit
end Go.Proofs.YthlgjdadkmpbbaaDoor
namespace Go.Proofs
open Go.Shelf
def Tryd.l171_ren : Go.Shelf.Ren := ⟨fun | 171 => 62 | 243 => 72 | 246 => 83 | 283 => 85 | 284 => 86 | 285 => 87 | 286 => 88 | 129 => 90 | 317 => 89 | 318 => 91 | 319 => 92 | 320 => 93 | 337 => 94 | 338 => 95 | n => n, fun | 3 => 3 | 9 => 9 | 2 => 2 | 4 => 4 | 171 => 122 | 0 => 0 | 53 => 94 | 37 => 46 | 5 => 5 | 173 => 125 | 212 => 131 | 51 => 78 | 20 => 20 | 213 => 132 | 46 => 92 | 232 => 135 | 233 => 136 | n => n, fun | 17 => 7 | 18 => 8 | 19 => 9 | n => n⟩
theorem Tryd.l171 : Go.Proofs.LaysM.n171 Tryd.prog Tryd.l171_ren := {
  mixed := by kernel_rfl
  f129 := Tryd.func90.trans (congrArg some (by kernel_rfl))
  f171 := Tryd.func62.trans (congrArg some (by kernel_rfl))
  f243 := Tryd.func72.trans (congrArg some (by kernel_rfl))
  f246 := Tryd.func83.trans (congrArg some (by kernel_rfl))
  f283 := Tryd.func85.trans (congrArg some (by kernel_rfl))
  f284 := Tryd.func86.trans (congrArg some (by kernel_rfl))
  f285 := Tryd.func87.trans (congrArg some (by kernel_rfl))
  f286 := Tryd.func88.trans (congrArg some (by kernel_rfl))
  f317 := Tryd.func89.trans (congrArg some (by kernel_rfl))
  f318 := Tryd.func91.trans (congrArg some (by kernel_rfl))
  f319 := Tryd.func92.trans (congrArg some (by kernel_rfl))
  f320 := Tryd.func93.trans (congrArg some (by kernel_rfl))
  f337 := Tryd.func94.trans (congrArg some (by kernel_rfl))
  f338 := Tryd.func95.trans (congrArg some (by kernel_rfl))
  t0 := Tryd.underlying0
  a0 := Tryd.isAgg0
  z0 := Tryd.sizeOf0
  v0 := Tryd.zeroValue0
  t2 := Tryd.underlying2
  a2 := Tryd.isAgg2
  z2 := Tryd.sizeOf2
  v2 := Tryd.zeroValue2
  t3 := Tryd.underlying3
  a3 := Tryd.isAgg3
  z3 := Tryd.sizeOf3
  v3 := Tryd.zeroValue3
  t4 := Tryd.underlying4
  a4 := Tryd.isAgg4
  z4 := Tryd.sizeOf4
  v4 := Tryd.zeroValue4
  t5 := Tryd.underlying5
  a5 := Tryd.isAgg5
  z5 := Tryd.sizeOf5
  v5 := Tryd.zeroValue5
  t9 := Tryd.underlying9
  a9 := Tryd.isAgg9
  z9 := Tryd.sizeOf9
  v9 := Tryd.zeroValue9
  t20 := Tryd.underlying20
  a20 := Tryd.isAgg20
  z20 := Tryd.sizeOf20
  v20 := Tryd.zeroValue20
  t37 := Tryd.underlying46
  a37 := Tryd.isAgg46
  z37 := Tryd.sizeOf46
  v37 := Tryd.zeroValue46
  t46 := Tryd.underlying92
  a46 := Tryd.isAgg92
  z46 := Tryd.sizeOf92
  v46 := Tryd.zeroValue92
  t51 := Tryd.underlying78
  a51 := Tryd.isAgg78
  z51 := Tryd.sizeOf78
  v51 := Tryd.zeroValue78
  t53 := Tryd.underlying94
  a53 := Tryd.isAgg94
  z53 := Tryd.sizeOf94
  v53 := Tryd.zeroValue94
  t171 := Tryd.underlying122
  a171 := Tryd.isAgg122
  z171 := Tryd.sizeOf122
  v171 := Tryd.zeroValue122
  t173 := Tryd.underlying125
  a173 := Tryd.isAgg125
  z173 := Tryd.sizeOf125
  v173 := Tryd.zeroValue125
  t212 := Tryd.underlying131
  a212 := Tryd.isAgg131
  z212 := Tryd.sizeOf131
  v212 := Tryd.zeroValue131
  t213 := Tryd.underlying132
  a213 := Tryd.isAgg132
  z213 := Tryd.sizeOf132
  t232 := Tryd.underlying135
  a232 := Tryd.isAgg135
  z232 := Tryd.sizeOf135
  v232 := Tryd.zeroValue135
  t233 := Tryd.underlying136
  a233 := Tryd.isAgg136
  z233 := Tryd.sizeOf136
  v233 := Tryd.zeroValue136
  g17 := by kernel_rfl
  g18 := by kernel_rfl
  g19 := by kernel_rfl
  i0 := by kernel_rfl
  i2 := by kernel_rfl
  i3 := by kernel_rfl
  i4 := by kernel_rfl
  i5 := by kernel_rfl
  i9 := by kernel_rfl
  i20 := by kernel_rfl
  i37 := by kernel_rfl
  i46 := by kernel_rfl
  i51 := by kernel_rfl
  i53 := by kernel_rfl
  i171 := by kernel_rfl
  i173 := by kernel_rfl
  i212 := by kernel_rfl
  i232 := by kernel_rfl
  i233 := by kernel_rfl
  m17 := by kernel_rfl
  m18 := by kernel_rfl
  m19 := by kernel_rfl }
end Go.Proofs
namespace Go.Proofs.YthlgjdadkmpbbaaDoor
open Go.Shelf Go.RowKit

theorem itoa_laid (n : Int) (h0 : -9223372036854775808 ≤ n) (h1 : n ≤ 9223372036854775807) (w : World)
    (htab : Lib.TabIs Tryd.prog w "internal/strconv.uint64pow10" .u64 Lib.pow10Tab) :
    Calls Tryd.prog 62 #[.int .i64 n] w fun e w' => e = .returned (.string ⟨(Lib.itoa n).toArray⟩) ∧ ∃ k os, w' = Sort.grow (w.drewN k) os := Any.strconv_Itoa Tryd.l171 n h0 h1 w htab
end Go.Proofs.YthlgjdadkmpbbaaDoor
namespace Go.Proofs.YthlgjdadkmpbbaaDoor
open Go.RowKit
theorem tab_below {w W : World} (h : Lib.TabIs Tryd.prog w "internal/strconv.uint64pow10" .u64 Lib.pow10Tab) (hb : Below w.heap.size w W) : Lib.TabIs Tryd.prog W "internal/strconv.uint64pow10" .u64 Lib.pow10Tab := by
  unfold Lib.TabIs World.var? at h ⊢
  cases hg : Tryd.prog.globalNamed "internal/strconv.uint64pow10" with
  | none => rw [hg] at h; cases h
  | some g =>
    rw [hg] at h
    simp only [Option.bind_some] at h ⊢
    cases hw : w.heap[g]? with
    | none => rw [hw] at h; cases h
    | some o => rw [keepblk hb hw]; rw [hw] at h; exact h
theorem grow_below (w : World) (k : Nat) (os : Array Obj) : Below w.heap.size w (Sort.grow (w.drewN k) os) := Lib.below_grow _ w (Nat.le_refl _) k os
theorem itoa_any (n : Nat) (hn : n < 4294967296) (w : World) (htab : Lib.TabIs Tryd.prog w "internal/strconv.uint64pow10" .u64 Lib.pow10Tab) :
    Calls Tryd.prog 62 #[.int .i64 (n : Int)] w fun e w' => e = .returned (.string ⟨(Lib.decDigits n).toArray⟩) ∧ Below w.heap.size w w' :=
  (itoa_laid n (by omega) (by omega) w htab).mono fun e w' ⟨he, k, os, hw⟩ => ⟨by rw [he]; unfold Lib.itoa; rw [if_neg (by omega)]; rfl, by rw [hw]; exact grow_below w k os⟩
end Go.Proofs.YthlgjdadkmpbbaaDoor
namespace Go.Proofs.YthlgjdadkmpbbaaDoor
open Go.RowKit Go.Shelf
/-- what the texts of numbers need of the world -/
structure VW (w : World) : Prop where
  pow : Lib.TabIs Tryd.prog w "internal/strconv.uint64pow10" .u64 Lib.pow10Tab
  syn : ∃ tp p, w.var? Tryd.prog "strconv.ErrSyntax" = some #[.iface tp p]
  rng : ∃ tp p, w.var? Tryd.prog "strconv.ErrRange" = some #[.iface tp p]
theorem var_below {w W : World} {n : String} {x : Array Value} (h : w.var? Tryd.prog n = some x) (hb : Below w.heap.size w W) : W.var? Tryd.prog n = some x := by
  unfold World.var? at h ⊢
  cases hg : Tryd.prog.globalNamed n with
  | none => rw [hg] at h; cases h
  | some g =>
    rw [hg] at h
    simp only [Option.bind_some] at h ⊢
    cases hw : w.heap[g]? with
    | none => rw [hw] at h; cases h
    | some o => rw [keepblk hb hw]; rw [hw] at h; exact h
theorem VW.below {w W : World} (h : VW w) (hb : Below w.heap.size w W) : VW W := by
  obtain ⟨h1, ⟨t2, p2, h2⟩, ⟨t3, p3, h3⟩⟩ := h
  exact ⟨tab_below h1 hb, ⟨t2, p2, var_below h2 hb⟩, ⟨t3, p3, var_below h3 hb⟩⟩
/-- strconv.Atoi, all ways -/
theorem atoi_any (l : List UInt8) (w : World) (hs : l.length ≤ 16384) (hv : VW w) :
    Calls Tryd.prog 61 #[.string ⟨l.toArray⟩] w fun e w' => (∃ (v : Int) (r : Value), e = .returned (.tuple #[.int .i64 v, r]) ∧ ((Lib.atoiAll l = .ok v ∧ r = .nilIface) ∨ ((∀ u, Lib.atoiAll l ≠ .ok u) ∧ ∃ t p, r = .iface t p))) ∧ Below w.heap.size w w' := by
  have hz : (ByteArray.mk l.toArray).size = l.length := by simp [ByteArray.size]
  cases h : Lib.atoiAll l with
  | ok v =>
    refine (Any.strconv_Atoi_ok Tryd.l172 ⟨l.toArray⟩ (by rw [hz]; omega) v h w).mono fun e w' ⟨he, hw⟩ => ⟨⟨v, .nilIface, he, .inl ⟨rfl, rfl⟩⟩, ?_⟩
    rcases hw with rfl | ⟨t, rfl⟩
    · exact Below.refl _ _
    · exact Lib.bytesWorld_below _ _ _
  | «syntax» =>
    obtain ⟨tp, p, hp⟩ := hv.syn
    exact (Any.strconv_Atoi_syntax_var Tryd.l172 ⟨l.toArray⟩ (by rw [hz]; omega) h tp p w hp).mono fun e w' ⟨N, he, _, _, hb⟩ => ⟨⟨_, _, he, .inr ⟨fun u hu => (by cases hu), ⟨_, _, rfl⟩⟩⟩, hb⟩
  | range =>
    obtain ⟨tp, p, hp⟩ := hv.rng
    exact (Any.strconv_Atoi_range_var Tryd.l172 ⟨l.toArray⟩ (by rw [hz]; omega) h tp p w hp).mono fun e w' ⟨N, he, _, _, hb⟩ => ⟨⟨_, _, he, .inr ⟨fun u hu => (by cases hu), ⟨_, _, rfl⟩⟩⟩, hb⟩
theorem decN_no {l : List UInt8} {m : Nat} (hm : m ≤ 4294967295) (h : ∀ n : Nat, Lib.atoiAll l = .ok (n : Int) → n ≤ m → l = Lib.decDigits n → False) : decN l m = none := by
  cases hd : decN l m with
  | none => rfl
  | some n =>
    obtain ⟨h1, h2⟩ := (decN_iff l m n (by omega)).1 hd
    exact absurd (h n (by rw [h1]; exact atoi_dec n (by omega)) h2 h1) id
set_option maxRecDepth 100000 in
theorem decimalOf_any (l : List UInt8) (m : Nat) (w : World) (hs : l.length ≤ 16384) (hm : m ≤ 4294967295) (hv : VW w) :
    Calls Tryd.prog 52 #[.string ⟨l.toArray⟩, .int .i64 (m : Int)] w fun e w' => (∃ v : Int, e = .returned (.tuple #[.int .i64 v, .bool (decN l m).isSome]) ∧ ∀ n, decN l m = some n → v = n) ∧ Below w.heap.size w w' := by
  have HV : Hid (VW w) := hv
  have HA := atoi_any l w hs hv
  clear hv
  go_enter Tryd.func52, Tryd.ntmps52
  go_wp2_with fail
  refine HA.mono ?_
  rintro e w1 ⟨⟨v, r, rfl, hr⟩, hb1⟩
  rcases hr with ⟨ho, rfl⟩ | ⟨hn, t, p, rfl⟩
  · by_cases h0 : 0 ≤ v
    · by_cases h1 : v ≤ (m : Int)
      · obtain ⟨k, rfl⟩ : ∃ k : Nat, v = k := ⟨v.toNat, by omega⟩
        go_wp2_with fail
        refine (itoa_any k (by omega) w1 (HV.out.below hb1).pow).mono ?_
        rintro e w2 ⟨rfl, hb2⟩
        by_cases hE : Lib.decDigits k = l
        · have hd : Hid (decN l m = some k) := by unfold Hid; rw [decN_iff _ _ _ (by omega), ← hE]; exact ⟨rfl, by omega⟩
          go_wp2
          go_ret2
          rw [hd.out]
          exact ⟨⟨_, rfl, fun n hn => by injection hn with hn; rw [hn]⟩, bel0 hb1 hb2⟩
        · have hd : Hid (decN l m = none) := decN_no hm (fun n a b c => hE (by
            rw [ho] at a
            injection a with a
            have : k = n := by omega
            subst this
            exact c.symm))
          have hE2 : (Lib.decDigits k == l) = false := beq_eq_false_iff_ne.2 hE
          go_wp2
          go_ret2
          rw [hd.out]
          exact ⟨⟨_, rfl, fun n hn => by cases hn⟩, bel0 hb1 hb2⟩
      · have hd : Hid (decN l m = none) := decN_no hm (fun n a b c => by
          rw [ho] at a
          injection a with a
          omega)
        go_wp2
        go_ret2
        rw [hd.out]
        exact ⟨⟨_, rfl, fun n hn => by cases hn⟩, hb1⟩
    · have hd : Hid (decN l m = none) := decN_no hm (fun n a b c => by
        rw [ho] at a
        injection a with a
        omega)
      go_wp2
      go_ret2
      rw [hd.out]
      exact ⟨⟨_, rfl, fun n hn => by cases hn⟩, hb1⟩
  · have hd : Hid (decN l m = none) := decN_no hm (fun n a b c => hn _ a)
    go_wp2
    go_ret2
    rw [hd.out]
    exact ⟨⟨_, rfl, fun n hn => by cases hn⟩, hb1⟩
end Go.Proofs.YthlgjdadkmpbbaaDoor
