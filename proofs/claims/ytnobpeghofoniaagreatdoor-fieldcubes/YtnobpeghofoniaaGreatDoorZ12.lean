import Derived.Test.YtnobpeghofoniaaGreatDoorZ11
import Derived.Test.YtnobpeghofoniaaGreatDoorZ4
import Derived.Laws.Strings3
import Derived.Test.YtnobpeghofoniaaGreatDoorZ1
import Derived.WalkKit
import Derived.Below
import Derived.BigQuiet
import Derived.Lib.ItoaNum
import Derived.Deep.RegionWith
import Derived.Deep.DeepCutAuto
import Derived.Shelf.Strconv.Itoa3
import Derived.Ground.NamesProg
import Derived.Test.YtnobpeghofoniaaGreatDoorProg
namespace Go.Proofs.YtnobpeghofoniaaGreatDoor
open Go.RowKit
theorem decV_take (l : List UInt8) (k : Nat) (c : UInt8) (h : l[k]? = some c) : decV (l.take (k + 1)) = 10 * decV (l.take k) + (c.toNat - 48) := by
  rw [List.take_add_one, h]
  exact decV_snoc _ _
theorem decV_lt (l : List UInt8) (h : l.all isDig = true) : decV l < 10 ^ l.length := by
  suffices ∀ m : Nat, ∀ l : List UInt8, l.length = m → l.all isDig = true → decV l < 10 ^ l.length from this _ l rfl h
  intro m
  induction m with
  | zero => intro l hl _; rw [List.length_eq_zero_iff.1 hl]; decide
  | succ m ih =>
    intro l hl ha
    have hn : l ≠ [] := fun e => by subst e; cases hl
    obtain ⟨l', c, rfl⟩ : ∃ l' c, l = l' ++ [c] := ⟨l.dropLast, l.getLast hn, (List.dropLast_concat_getLast hn).symm⟩
    rw [List.all_append, Bool.and_eq_true] at ha
    have hl' : l'.length = m := by simpa using hl
    have h1 := ih l' hl' ha.1
    have hc : isDig c = true := by simpa using ha.2
    simp only [isDig, Bool.and_eq_true, decide_eq_true_eq] at hc
    rw [decV_snoc, List.length_append, List.length_singleton, Nat.pow_succ]
    omega
theorem decV_lt10 (l : List UInt8) (h : l.all isDig = true) (hl : l.length ≤ 10) : decV l < 10000000000 :=
  Nat.lt_of_lt_of_le (decV_lt l h) (Nat.pow_le_pow_right (by decide) hl)
theorem dig_wrap (c : UInt8) (h : isDig c = true) : IntKind.u8.wrap ((c.toNat : Int) - 48) = ((c.toNat - 48 : Nat) : Int) := by
  simp only [isDig, Bool.and_eq_true, decide_eq_true_eq] at h
  rw [IntKind.wrap_u8]
  omega
end Go.Proofs.YtnobpeghofoniaaGreatDoor
namespace Go.Proofs.YtnobpeghofoniaaGreatDoor
open Go.RowKit
def quadK : Nat → Nat → List UInt8 → Option Nat
  | 0, n, l => match decN l 255 with
    | some v => some (256 * n + v)
    | none => none
  | k + 1, n, l => if Lib.indexByte l 46 < 0 then none else match decN (l.take (Lib.indexByte l 46).toNat) 255 with
    | some v => quadK k (256 * n + v) (l.drop ((Lib.indexByte l 46).toNat + 1))
    | none => none
theorem decN_le {l : List UInt8} {t v : Nat} (h : decN l t = some v) : v ≤ t := by
  unfold decN at h
  split at h
  · rename_i hc; obtain rfl := Option.some.inj h; exact hc.2.2.2.2
  · cases h
theorem idx_lt (l : List UInt8) (c : UInt8) : Lib.indexByte l c < l.length := by
  rcases Int.lt_or_le (Lib.indexByte l c) 0 with hi | hi
  · omega
  · obtain ⟨o, ho⟩ : ∃ o : Nat, Lib.indexByte l c = o := ⟨(Lib.indexByte l c).toNat, by omega⟩
    have := (List.getElem?_eq_some_iff.1 (Lib.indexByte_some ho).1).1
    omega
theorem ext_take (l : List UInt8) (i : Nat) : (ByteArray.mk l.toArray).extract 0 i = ⟨(l.take i).toArray⟩ := ByteArray.ext (by simp)
end Go.Proofs.YtnobpeghofoniaaGreatDoor
namespace Go.Proofs.YtnobpeghofoniaaGreatDoor
open Go.RowKit Go.Shelf

attribute [local go_sem] Oper.semAt_some

theorem index_dot (r : List UInt8) (w : World) : Calls Tryz.prog 107 #[.string ⟨r.toArray⟩, .string ⟨#[46]⟩] w fun e w' => e = .returned (.int .i64 (Lib.indexByte r 46)) ∧ w' = w := Any.strings_Index_one Tryz.l143 ⟨r.toArray⟩ 46 w
theorem cell_of {W : World} {b : Nat} {v : Value} {t : TypeId} {m : Nat × Nat} (h : W.heap[b]? = some (.cells #[v] t m)) : W.cell? ⟨b, 0, none⟩ = some v := by
  unfold World.cell?; rw [h]; simp
theorem froz_of {W : World} {b : Nat} {v : Value} {t : TypeId} (h : W.heap[b]? = some (.cells #[v] t (0, 0))) : W.frozen? ⟨b, 0, none⟩ = false := by
  simp [World.frozen?, h]
def sLen (b : Nat) (W : World) : Nat := match W.cell? ⟨b, 0, none⟩ with
  | some (.string s) => s.size
  | _ => 0
theorem sLen_of {W : World} {b : Nat} {r : List UInt8} (h : W.cell? ⟨b, 0, none⟩ = some (.string ⟨r.toArray⟩)) : sLen b W = r.length := by
  unfold sLen; rw [h]; simp [ByteArray.size]
theorem splitSeq_in (r : List UInt8) (w : World) : Calls Tryz.prog 162 #[.string ⟨r.toArray⟩, .string ⟨#[46]⟩] w fun e w' => e = .returned (.func (.func 175) #[] #[.pointer (some ⟨w.heap.size + 1, 0, none⟩), .pointer (some ⟨w.heap.size, 0, none⟩), .pointer (some ⟨w.heap.size + 1 + 1, 0, none⟩)]) ∧ w' = ((w.alloc (.cells #[.string ⟨r.toArray⟩] 9)).alloc (.cells #[.string ⟨#[46]⟩] 9)).alloc (.cells #[.int .i64 0] 3) := by
  go_enter Tryz.func162, Tryz.ntmps162
  go_wp2
  go_ret
  exact ⟨rfl, rfl⟩

set_option maxRecDepth 100000 in
set_option maxHeartbeats 1000000 in
/-- strings.splitSeq's closure at a dot: the pieces, one behind the other -/
theorem split_in (n : Nat) (hn : 1 ≤ n) (l b : Nat) (J : List UInt8 → World → Prop) (Jx Je : World → Prop)
    (hbox : ∀ r W, J r W → W.heap[b]? = some (.cells #[.string ⟨r.toArray⟩] 9 (0, 0)) ∧ W.heap[b + 1]? = some (.cells #[.string ⟨#[46]⟩] 9 (0, 0)) ∧ W.heap[b + 1 + 1]? = some (.cells #[.int .i64 0] 3 (0, 0)) ∧ r.length ≤ 16384)
    (hY1 : ∀ r W (i : Nat), J r W → Lib.indexByte r 46 = i → YieldAt Fence.wide (n - 1) Tryz.prog l #[.string ⟨(r.take i).toArray⟩] W fun e W' =>
      (e = .returned (.bool true) ∧ W'.heap[b]? = some (.cells #[.string ⟨r.toArray⟩] 9 (0, 0)) ∧ W'.heap[b + 1]? = some (.cells #[.string ⟨#[46]⟩] 9 (0, 0)) ∧ J (r.drop (i + 1)) (W'.setCell ⟨b, 0, none⟩ (.string ⟨(r.drop (i + 1)).toArray⟩))) ∨ (e = .returned (.bool false) ∧ Jx W'))
    (hY2 : ∀ r W, J r W → Lib.indexByte r 46 < 0 → YieldAt Fence.wide (n - 1) Tryz.prog l #[.string ⟨r.toArray⟩] W fun e W' => (∃ x, e = .returned (.bool x)) ∧ Je W')
    (r0 : List UInt8) (W0 : World) (h0 : J r0 W0) :
    CallsIn Fence.wide n Tryz.prog 175 #[.func (.yield l) #[] #[], .pointer (some ⟨b + 1, 0, none⟩), .pointer (some ⟨b, 0, none⟩), .pointer (some ⟨b + 1 + 1, 0, none⟩)] W0 fun e W' => (∃ v, e = .returned v) ∧ (Jx W' ∨ Je W') := by
  obtain ⟨z1, z2, z3, z4⟩ := hbox _ _ h0
  have c2 := cell_of z2
  refine callsIn_of_wp Tryz.func175 rfl trivial ?_ rfl
  simp only [Tryz.ntmps175, List.size_toArray, List.length_cons, List.length_nil, Nat.reduceAdd, Nat.reduceSub, Array.replicate_succ, Array.replicate_zero, List.push_toArray, List.append_toArray, List.nil_append, List.cons_append]
  gi_wp2
  gi_loopw [7] (fun _ wr => ∃ r, J r wr) (fun _ wr => sLen b wr)
  case atStart => exact ⟨r0, h0⟩
  case round =>
    clear z1 z2 z3 z4 c2
    obtain ⟨r, hJ⟩ := hrel
    obtain ⟨z1, z2, z3, z4⟩ := hbox _ _ hJ
    have c1 := cell_of z1
    have c2 := cell_of z2
    have c3 := cell_of z3
    have hI := index_dot r wr
    obtain ⟨di, hdi⟩ : ∃ di, Lib.indexByte r 46 = di := ⟨_, rfl⟩
    have hd1 : -1 ≤ di := by rw [← hdi]; exact Lib.indexByte_ge _ _
    have hd2 : di < r.length := by rw [← hdi]; exact idx_lt _ _
    rw [hdi] at hI
    by_cases hneg : di < 0
    · obtain ⟨fn, tmps, assign, body, hy, hR⟩ := hY2 r wr hJ (by rw [hdi]; exact hneg)
      gi_wp2_with (refine ⟨trivial, ?_⟩; gi_at_call 107; refine (callsIn_wide.2 hI).mono ?_; rintro e w' ⟨rfl, rfl⟩)
      refine hR.mono ?_
      rintro e W3 ⟨⟨x, rfl⟩, hJe⟩
      gi_wp2
      go_end0
      exact ⟨⟨_, rfl⟩, .inr hJe⟩
    · obtain ⟨i, rfl⟩ : ∃ i : Nat, di = i := ⟨di.toNat, by omega⟩
      have hnn : ¬ (i : Int) < 0 := by omega
      obtain ⟨fn, tmps, assign, body, hy, hR⟩ := hY1 r wr i hJ hdi
      have hE1 := ext_take r i
      have hE2 := ext_drop r (i + 1)
      gi_wp2_with (refine ⟨trivial, ?_⟩; gi_at_call 107; refine (callsIn_wide.2 hI).mono ?_; rintro e w' ⟨rfl, rfl⟩)
      refine hR.mono ?_
      rintro e W3 (⟨rfl, y1, y2, hJ3⟩ | ⟨rfl, hJx3⟩)
      · have d1 := cell_of y1
        have d2 := cell_of y2
        have f1 := froz_of y1
        have hm : sLen b (W3.setCell ⟨b, 0, none⟩ (.string ⟨(r.drop (i + 1)).toArray⟩)) < sLen b w' := by
          rw [sLen_of c1, sLen_of (cell_of (hbox _ _ hJ3).1)]
          simp; omega
        have HM : Hid (sLen b (W3.setCell ⟨b, 0, none⟩ (.string ⟨(r.drop (i + 1)).toArray⟩)) < sLen b w') := hm
        clear hm
        gi_wp2
        go_roundw
        case rel => exact ⟨_, hJ3⟩
        case measure => exact HM.out
      · gi_wp2
        refine bodyPost_ret (results_none rfl _ _ _) rfl ?_
        exact ⟨⟨_, rfl⟩, .inl hJx3⟩
end Go.Proofs.YtnobpeghofoniaaGreatDoor
namespace Go.Proofs.YtnobpeghofoniaaGreatDoor
open Go.RowKit Go.Shelf
def parts (r : List UInt8) : List (List UInt8) :=
  if Lib.indexByte r 46 < 0 then [r] else r.take (Lib.indexByte r 46).toNat :: parts (r.drop ((Lib.indexByte r 46).toNat + 1))
termination_by r.length
decreasing_by
  have := idx_lt r 46
  simp
  omega
theorem parts_neg {r : List UInt8} (h : Lib.indexByte r 46 < 0) : parts r = [r] := by rw [parts, if_pos h]
theorem parts_pos {r : List UInt8} {i : Nat} (h : Lib.indexByte r 46 = i) : parts r = r.take i :: parts (r.drop (i + 1)) := by
  rw [parts, if_neg (by omega), h]; rfl
theorem parts_ne (r : List UInt8) : 0 < (parts r).length := by
  rw [parts]; split <;> simp
theorem parts_len (m : Nat) : ∀ r : List UInt8, r.length ≤ m → (parts r).length ≤ m + 1 := by
  induction m using Nat.strongRecOn with
  | ind m ih =>
  intro r hr
  rw [parts]
  split
  · simp
  · rename_i h
    have h1 := idx_lt r 46
    have h2 := ih (m - 1) (by omega) (r.drop ((Lib.indexByte r 46).toNat + 1)) (by simp; omega)
    simp only [List.length_cons]
    omega
def evalP (n : Nat) : List (List UInt8) → Option Nat
  | [] => some n
  | p :: ps => match decN p 255 with
    | some v => evalP (256 * n + v) ps
    | none => none
theorem decN_dot {r : List UInt8} {i : Nat} (h : Lib.indexByte r 46 = i) (t : Nat) : decN r t = none := by
  unfold decN
  rw [if_neg]
  rintro ⟨_, ha, _⟩
  have h1 := (Lib.indexByte_some h).1
  rw [List.all_eq_true] at ha
  exact absurd (ha 46 (List.mem_of_getElem? h1)) (by decide)
theorem quadK_parts (k : Nat) : ∀ (n : Nat) (r : List UInt8), quadK k n r = if (parts r).length = k + 1 then evalP n (parts r) else none := by
  induction k with
  | zero =>
    intro n r
    rw [quadK]
    by_cases h : Lib.indexByte r 46 < 0
    · rw [parts_neg h, if_pos (show [r].length = 0 + 1 from rfl), evalP]
      cases decN r 255 <;> rfl
    · obtain ⟨i, hi⟩ : ∃ i : Nat, Lib.indexByte r 46 = i := ⟨(Lib.indexByte r 46).toNat, by omega⟩
      rw [decN_dot hi, parts_pos hi, if_neg]
      have := parts_ne (r.drop (i + 1))
      simp only [List.length_cons]
      omega
  | succ k ih =>
    intro n r
    rw [quadK]
    by_cases h : Lib.indexByte r 46 < 0
    · rw [if_pos h, parts_neg h, if_neg (by simp)]
    · obtain ⟨i, hi⟩ : ∃ i : Nat, Lib.indexByte r 46 = i := ⟨(Lib.indexByte r 46).toNat, by omega⟩
      rw [if_neg h, parts_pos hi, hi, show ((i : Int)).toNat = i from Int.toNat_natCast i, evalP]
      cases hd : decN (r.take i) 255 with
      | none =>
        show none = if (r.take i :: parts (r.drop (i + 1))).length = k + 1 + 1 then none else none
        rw [ite_self]
      | some v =>
        show quadK k (256 * n + v) (r.drop (i + 1)) = if (r.take i :: parts (r.drop (i + 1))).length = k + 1 + 1 then evalP (256 * n + v) (parts (r.drop (i + 1))) else none
        rw [ih]
        simp only [List.length_cons, Nat.add_right_cancel_iff]
theorem quad_none {l : List UInt8} (h : (parts l).length = 4 → evalP 0 (parts l) = none) : quadK 3 0 l = none := by
  rw [quadK_parts]
  split
  · rename_i h4; exact h h4
  · rfl
theorem shl_or (m v : Nat) (hm : m < 16777216) (hv : v ≤ 255) : bits .or .i64 (wrap64 ((m : Int) * 256)) (v : Int) = ((256 * m + v : Nat) : Int) := by
  have h1 : wrap64 ((m : Int) * 256) = ((256 * m : Nat) : Int) := by unfold wrap64; omega
  rw [h1]
  have a1 : (BitVec.ofInt 64 ((256 * m : Nat) : Int)).toNat = 256 * m := by
    rw [BitVec.ofInt_natCast, BitVec.toNat_ofNat]; exact Nat.mod_eq_of_lt (by omega)
  have a2 : (BitVec.ofInt 64 (v : Int)).toNat = v := by
    rw [BitVec.ofInt_natCast, BitVec.toNat_ofNat]; exact Nat.mod_eq_of_lt (by omega)
  have a3 : 256 * m ||| v = 256 * m + v := by
    have := Nat.two_pow_add_eq_or_of_lt (i := 8) (b := v) (by omega) m
    rw [show (256 : Nat) = 2 ^ 8 by decide]
    exact this.symm
  show IntKind.i64.wrap ((BitVec.ofInt 64 ((256 * m : Nat) : Int) ||| BitVec.ofInt 64 (v : Int)).toNat : Int) = _
  rw [BitVec.toNat_or, a1, a2, a3, IntKind.wrap_i64]
  omega
end Go.Proofs.YtnobpeghofoniaaGreatDoor
namespace Go.Proofs.YtnobpeghofoniaaGreatDoor
open Go.RowKit
theorem dig_slice (d : Nat) (hd : d < 10) (W : World) : Sem.run Tryz.prog (Instr.slice 9 (Value.string { data := #[48, 49, 50, 51, 52, 53, 54, 55, 56, 57, 97, 98, 99, 100, 101, 102] }) (some (.int .i64 (d : Int))) (some (.int .i64 ((d : Int) + 1))) none) W = .ok (.string ⟨#[UInt8.ofNat (48 + d)]⟩) W := by
  rw [run_slice_string _ _ _ _ _ _ _ Tryz.underlying9 (by omega) (by omega) (by show _ ≤ (16 : Int); omega)]
  have h : ∀ d : Fin 10, (ByteArray.mk #[48, 49, 50, 51, 52, 53, 54, 55, 56, 57, 97, 98, 99, 100, 101, 102]).extract d.val (d.val + 1) = ⟨#[UInt8.ofNat (48 + d.val)]⟩ := by decide
  have h2 : ((d : Int) + 1).toNat = d + 1 := by omega
  have h3 : ((d : Int)).toNat = d := by omega
  rw [h2, h3]
  exact congrArg (fun x => Result.ok (Value.string x) W) (h ⟨d, hd⟩)
theorem dec_len (n : Nat) : (Lib.decDigits n).length ≤ n + 1 := by
  induction n using Nat.strongRecOn with
  | ind n ih =>
  rw [Lib.decDigits]
  split
  · simp
  · have := ih (n / 10) (by omega)
    rw [List.length_append, List.length_singleton]
    omega
end Go.Proofs.YtnobpeghofoniaaGreatDoor
namespace Go.Proofs.YtnobpeghofoniaaGreatDoor
open Go.RowKit
theorem cat7 (a b c d : List UInt8) : ByteArray.mk a.toArray ++ ByteArray.mk #[46] ++ ByteArray.mk b.toArray ++ ByteArray.mk #[46] ++ ByteArray.mk c.toArray ++ ByteArray.mk #[46] ++ ByteArray.mk d.toArray = ⟨(a ++ [46] ++ b ++ [46] ++ c ++ [46] ++ d).toArray⟩ := ByteArray.ext (by simp)
def quadL (n : Nat) : List UInt8 := Lib.decDigits (n / 16777216) ++ [46] ++ Lib.decDigits (n / 65536 % 256) ++ [46] ++ Lib.decDigits (n / 256 % 256) ++ [46] ++ Lib.decDigits (n % 256)
def numL (v : Int) (d : Bool) : List UInt8 := if v < 0 ∨ 4294967295 < v then [] else if d then quadL v.toNat else Lib.decDigits v.toNat
def numE (v : Int) : Int := if v < 0 ∨ 4294967295 < v then 31 else 0
end Go.Proofs.YtnobpeghofoniaaGreatDoor
namespace Go.Proofs
open Go.Shelf
def Tryz.l171_ren : Go.Shelf.Ren := ⟨fun | 171 => 83 | 243 => 109 | 246 => 131 | 283 => 143 | 284 => 144 | 285 => 145 | 286 => 146 | 129 => 122 | 317 => 157 | 318 => 158 | 319 => 159 | 320 => 93 | 337 => 119 | 338 => 120 | n => n, fun | 3 => 3 | 9 => 9 | 2 => 2 | 4 => 4 | 171 => 182 | 0 => 0 | 53 => 70 | 37 => 32 | 5 => 5 | 173 => 184 | 212 => 191 | 51 => 159 | 20 => 20 | 213 => 192 | 46 => 103 | 232 => 180 | 233 => 181 | n => n, fun | 17 => 4 | 18 => 1 | 19 => 2 | n => n⟩
theorem Tryz.l171 : Go.Proofs.LaysM.n171 Tryz.prog Tryz.l171_ren := {
  mixed := by kernel_rfl
  f129 := Tryz.func122.trans (congrArg some (by kernel_rfl))
  f171 := Tryz.func83.trans (congrArg some (by kernel_rfl))
  f243 := Tryz.func109.trans (congrArg some (by kernel_rfl))
  f246 := Tryz.func131.trans (congrArg some (by kernel_rfl))
  f283 := Tryz.func143.trans (congrArg some (by kernel_rfl))
  f284 := Tryz.func144.trans (congrArg some (by kernel_rfl))
  f285 := Tryz.func145.trans (congrArg some (by kernel_rfl))
  f286 := Tryz.func146.trans (congrArg some (by kernel_rfl))
  f317 := Tryz.func157.trans (congrArg some (by kernel_rfl))
  f318 := Tryz.func158.trans (congrArg some (by kernel_rfl))
  f319 := Tryz.func159.trans (congrArg some (by kernel_rfl))
  f320 := Tryz.func93.trans (congrArg some (by kernel_rfl))
  f337 := Tryz.func119.trans (congrArg some (by kernel_rfl))
  f338 := Tryz.func120.trans (congrArg some (by kernel_rfl))
  t0 := Tryz.underlying0
  a0 := Tryz.isAgg0
  z0 := Tryz.sizeOf0
  v0 := Tryz.zeroValue0
  t2 := Tryz.underlying2
  a2 := Tryz.isAgg2
  z2 := Tryz.sizeOf2
  v2 := Tryz.zeroValue2
  t3 := Tryz.underlying3
  a3 := Tryz.isAgg3
  z3 := Tryz.sizeOf3
  v3 := Tryz.zeroValue3
  t4 := Tryz.underlying4
  a4 := Tryz.isAgg4
  z4 := Tryz.sizeOf4
  v4 := Tryz.zeroValue4
  t5 := Tryz.underlying5
  a5 := Tryz.isAgg5
  z5 := Tryz.sizeOf5
  v5 := Tryz.zeroValue5
  t9 := Tryz.underlying9
  a9 := Tryz.isAgg9
  z9 := Tryz.sizeOf9
  v9 := Tryz.zeroValue9
  t20 := Tryz.underlying20
  a20 := Tryz.isAgg20
  z20 := Tryz.sizeOf20
  v20 := Tryz.zeroValue20
  t37 := Tryz.underlying32
  a37 := Tryz.isAgg32
  z37 := Tryz.sizeOf32
  v37 := Tryz.zeroValue32
  t46 := Tryz.underlying103
  a46 := Tryz.isAgg103
  z46 := Tryz.sizeOf103
  v46 := Tryz.zeroValue103
  t51 := Tryz.underlying159
  a51 := Tryz.isAgg159
  z51 := Tryz.sizeOf159
  v51 := Tryz.zeroValue159
  t53 := Tryz.underlying70
  a53 := Tryz.isAgg70
  z53 := Tryz.sizeOf70
  v53 := Tryz.zeroValue70
  t171 := Tryz.underlying182
  a171 := Tryz.isAgg182
  z171 := Tryz.sizeOf182
  v171 := Tryz.zeroValue182
  t173 := Tryz.underlying184
  a173 := Tryz.isAgg184
  z173 := Tryz.sizeOf184
  v173 := Tryz.zeroValue184
  t212 := Tryz.underlying191
  a212 := Tryz.isAgg191
  z212 := Tryz.sizeOf191
  v212 := Tryz.zeroValue191
  t213 := Tryz.underlying192
  a213 := Tryz.isAgg192
  z213 := Tryz.sizeOf192
  t232 := Tryz.underlying180
  a232 := Tryz.isAgg180
  z232 := Tryz.sizeOf180
  v232 := Tryz.zeroValue180
  t233 := Tryz.underlying181
  a233 := Tryz.isAgg181
  z233 := Tryz.sizeOf181
  v233 := Tryz.zeroValue181
  g17 := by kernel_rfl
  g18 := by kernel_rfl
  g19 := by kernel_rfl
  i0 := by kernel_rfl
  i2 := by kernel_rfl
  i3 := by kernel_rfl
  i4 := by kernel_rfl
  i5 := by kernel_rfl
  i9 := by kernel_rfl
  i20 := by kernel_rfl
  i37 := by kernel_rfl
  i46 := by kernel_rfl
  i51 := by kernel_rfl
  i53 := by kernel_rfl
  i171 := by kernel_rfl
  i173 := by kernel_rfl
  i212 := by kernel_rfl
  i232 := by kernel_rfl
  i233 := by kernel_rfl
  m17 := by kernel_rfl
  m18 := by kernel_rfl
  m19 := by kernel_rfl }
end Go.Proofs
