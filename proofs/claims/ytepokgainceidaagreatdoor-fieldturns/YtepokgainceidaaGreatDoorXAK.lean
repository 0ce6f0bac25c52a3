import Derived.Shelf.Strconv.Itoa3
import Derived.Ground.NamesProg
import Derived.Test.YtepokgainceidaaGreatDoorProg
import Derived.Test.YtepokgainceidaaGreatDoorChecked
import Derived.WalkKit
import Derived.BigCall
import Derived.Below
import Derived.Test.YtepokgainceidaaGreatDoorXAJ
import Derived.Lib.AppendIntMem
import Derived.Laws.BitsAllLaws
import Derived.Test.YtepokgainceidaaGreatDoorXAC
import Derived.Lib.AtoiErrMem
namespace Go.Proofs
open Go.Shelf
def Tryz.l171_ren : Go.Shelf.Ren := ⟨fun | 171 => 90 | 243 => 118 | 246 => 144 | 283 => 157 | 284 => 158 | 285 => 159 | 286 => 160 | 129 => 131 | 317 => 171 | 318 => 172 | 319 => 173 | 320 => 101 | 337 => 128 | 338 => 129 | n => n, fun | 3 => 3 | 9 => 9 | 2 => 2 | 4 => 4 | 171 => 202 | 0 => 0 | 53 => 119 | 37 => 81 | 5 => 5 | 173 => 204 | 212 => 211 | 51 => 178 | 20 => 20 | 213 => 212 | 46 => 106 | 232 => 200 | 233 => 201 | n => n, fun | 17 => 4 | 18 => 1 | 19 => 2 | n => n⟩
theorem Tryz.l171 : Go.Proofs.LaysM.n171 Tryz.prog Tryz.l171_ren := {
  mixed := by kernel_rfl
  f129 := Tryz.func131.trans (congrArg some (by kernel_rfl))
  f171 := Tryz.func90.trans (congrArg some (by kernel_rfl))
  f243 := Tryz.func118.trans (congrArg some (by kernel_rfl))
  f246 := Tryz.func144.trans (congrArg some (by kernel_rfl))
  f283 := Tryz.func157.trans (congrArg some (by kernel_rfl))
  f284 := Tryz.func158.trans (congrArg some (by kernel_rfl))
  f285 := Tryz.func159.trans (congrArg some (by kernel_rfl))
  f286 := Tryz.func160.trans (congrArg some (by kernel_rfl))
  f317 := Tryz.func171.trans (congrArg some (by kernel_rfl))
  f318 := Tryz.func172.trans (congrArg some (by kernel_rfl))
  f319 := Tryz.func173.trans (congrArg some (by kernel_rfl))
  f320 := Tryz.func101.trans (congrArg some (by kernel_rfl))
  f337 := Tryz.func128.trans (congrArg some (by kernel_rfl))
  f338 := Tryz.func129.trans (congrArg some (by kernel_rfl))
  t0 := Tryz.underlying0
  a0 := Tryz.isAgg0
  z0 := Tryz.sizeOf0
  v0 := Tryz.zeroValue0
  t2 := Tryz.underlying2
  a2 := Tryz.isAgg2
  z2 := Tryz.sizeOf2
  v2 := Tryz.zeroValue2
  t3 := Tryz.underlying3
  a3 := Tryz.isAgg3
  z3 := Tryz.sizeOf3
  v3 := Tryz.zeroValue3
  t4 := Tryz.underlying4
  a4 := Tryz.isAgg4
  z4 := Tryz.sizeOf4
  v4 := Tryz.zeroValue4
  t5 := Tryz.underlying5
  a5 := Tryz.isAgg5
  z5 := Tryz.sizeOf5
  v5 := Tryz.zeroValue5
  t9 := Tryz.underlying9
  a9 := Tryz.isAgg9
  z9 := Tryz.sizeOf9
  v9 := Tryz.zeroValue9
  t20 := Tryz.underlying20
  a20 := Tryz.isAgg20
  z20 := Tryz.sizeOf20
  v20 := Tryz.zeroValue20
  t37 := Tryz.underlying81
  a37 := Tryz.isAgg81
  z37 := Tryz.sizeOf81
  v37 := Tryz.zeroValue81
  t46 := Tryz.underlying106
  a46 := Tryz.isAgg106
  z46 := Tryz.sizeOf106
  v46 := Tryz.zeroValue106
  t51 := Tryz.underlying178
  a51 := Tryz.isAgg178
  z51 := Tryz.sizeOf178
  v51 := Tryz.zeroValue178
  t53 := Tryz.underlying119
  a53 := Tryz.isAgg119
  z53 := Tryz.sizeOf119
  v53 := Tryz.zeroValue119
  t171 := Tryz.underlying202
  a171 := Tryz.isAgg202
  z171 := Tryz.sizeOf202
  v171 := Tryz.zeroValue202
  t173 := Tryz.underlying204
  a173 := Tryz.isAgg204
  z173 := Tryz.sizeOf204
  v173 := Tryz.zeroValue204
  t212 := Tryz.underlying211
  a212 := Tryz.isAgg211
  z212 := Tryz.sizeOf211
  v212 := Tryz.zeroValue211
  t213 := Tryz.underlying212
  a213 := Tryz.isAgg212
  z213 := Tryz.sizeOf212
  t232 := Tryz.underlying200
  a232 := Tryz.isAgg200
  z232 := Tryz.sizeOf200
  v232 := Tryz.zeroValue200
  t233 := Tryz.underlying201
  a233 := Tryz.isAgg201
  z233 := Tryz.sizeOf201
  v233 := Tryz.zeroValue201
  g17 := by kernel_rfl
  g18 := by kernel_rfl
  g19 := by kernel_rfl
  i0 := by kernel_rfl
  i2 := by kernel_rfl
  i3 := by kernel_rfl
  i4 := by kernel_rfl
  i5 := by kernel_rfl
  i9 := by kernel_rfl
  i20 := by kernel_rfl
  i37 := by kernel_rfl
  i46 := by kernel_rfl
  i51 := by kernel_rfl
  i53 := by kernel_rfl
  i171 := by kernel_rfl
  i173 := by kernel_rfl
  i212 := by kernel_rfl
  i232 := by kernel_rfl
  i233 := by kernel_rfl
  m17 := by kernel_rfl
  m18 := by kernel_rfl
  m19 := by kernel_rfl }
end Go.Proofs
namespace Go.Proofs.YtepokgainceidaaGreatDoor
open Go.Shelf Go.RowKit

theorem itoa_laid (n : Int) (h0 : -9223372036854775808 ≤ n) (h1 : n ≤ 9223372036854775807) (w : World)
    (htab : Lib.TabIs Tryz.prog w "internal/strconv.uint64pow10" .u64 Lib.pow10Tab) :
    Calls Tryz.prog 90 #[.int .i64 n] w fun e w' => e = .returned (.string ⟨(Lib.itoa n).toArray⟩) ∧ ∃ k os, w' = Sort.grow (w.drewN k) os := Any.strconv_Itoa Tryz.l171 n h0 h1 w htab
end Go.Proofs.YtepokgainceidaaGreatDoor
namespace Go.Proofs.YtepokgainceidaaGreatDoor
open Go.RowKit
theorem tab_below {w W : World} (h : Lib.TabIs Tryz.prog w "internal/strconv.uint64pow10" .u64 Lib.pow10Tab) (hb : Below w.heap.size w W) : Lib.TabIs Tryz.prog W "internal/strconv.uint64pow10" .u64 Lib.pow10Tab := by
  unfold Lib.TabIs World.var? at h ⊢
  cases hg : Tryz.prog.globalNamed "internal/strconv.uint64pow10" with
  | none => rw [hg] at h; cases h
  | some g =>
    rw [hg] at h
    simp only [Option.bind_some] at h ⊢
    cases hw : w.heap[g]? with
    | none => rw [hw] at h; cases h
    | some o => rw [keepblk hb hw]; rw [hw] at h; exact h
theorem grow_below (w : World) (k : Nat) (os : Array Obj) : Below w.heap.size w (Sort.grow (w.drewN k) os) := Lib.below_grow _ w (Nat.le_refl _) k os
theorem itoa_any (n : Nat) (hn : n < 4294967296) (w : World) (htab : Lib.TabIs Tryz.prog w "internal/strconv.uint64pow10" .u64 Lib.pow10Tab) :
    Calls Tryz.prog 90 #[.int .i64 (n : Int)] w fun e w' => e = .returned (.string ⟨(Lib.decDigits n).toArray⟩) ∧ Below w.heap.size w w' :=
  (itoa_laid n (by omega) (by omega) w htab).mono fun e w' ⟨he, k, os, hw⟩ => ⟨by rw [he]; unfold Lib.itoa; rw [if_neg (by omega)]; rfl, by rw [hw]; exact grow_below w k os⟩
theorem i64_and255 (x : Nat) (hx : x < 9223372036854775808) : bits .and .i64 (x : Int) 255 = ((x % 256 : Nat) : Int) := by
  have h1 : (BitVec.ofInt 64 (x : Int)).toNat = x := by
    rw [BitVec.ofInt_natCast, BitVec.toNat_ofNat]; exact Nat.mod_eq_of_lt (by omega)
  have h2 : (BitVec.ofInt 64 (255 : Int)).toNat = 255 := by decide
  have h3 : x &&& 255 = x % 256 := Nat.and_two_pow_sub_one_eq_mod x 8
  show IntKind.i64.wrap ((BitVec.ofInt 64 (x : Int) &&& BitVec.ofInt 64 (255 : Int)).toNat : Int) = _
  rw [BitVec.toNat_and, h1, h2, h3, IntKind.wrap_i64]
  omega
theorem and_q (n q r : Nat) (hn : n < 4294967296) (h : n / q = r) : bits .and .i64 ((n : Int) / (q : Int)) 255 = ((r % 256 : Nat) : Int) := by
  have e : (n : Int) / (q : Int) = (r : Int) := by rw [← h]; exact (Int.natCast_ediv n q).symm
  rw [e]
  exact i64_and255 r (by rw [← h]; exact Nat.lt_of_le_of_lt (Nat.div_le_self n q) (by omega))
set_option maxRecDepth 100000 in
theorem idx0 (W : World) : Sem.run Tryz.prog (Instr.index 191 (Value.agg #[Value.int IntKind.i64 16, Value.int IntKind.i64 8, Value.int IntKind.i64 0]) (Value.int IntKind.i64 0)) W = .ok (.int .i64 16) W := by kernel_rfl
set_option maxRecDepth 100000 in
theorem idx1 (W : World) : Sem.run Tryz.prog (Instr.index 191 (Value.agg #[Value.int IntKind.i64 16, Value.int IntKind.i64 8, Value.int IntKind.i64 0]) (Value.int IntKind.i64 1)) W = .ok (.int .i64 8) W := by kernel_rfl
set_option maxRecDepth 100000 in
theorem idx2 (W : World) : Sem.run Tryz.prog (Instr.index 191 (Value.agg #[Value.int IntKind.i64 16, Value.int IntKind.i64 8, Value.int IntKind.i64 0]) (Value.int IntKind.i64 2)) W = .ok (.int .i64 0) W := by kernel_rfl
theorem cat7' (a b c d : List UInt8) : ByteArray.mk a.toArray ++ (ByteArray.mk #[46] ++ ByteArray.mk b.toArray) ++ (ByteArray.mk #[46] ++ ByteArray.mk c.toArray) ++ (ByteArray.mk #[46] ++ ByteArray.mk d.toArray) = ⟨(a ++ [46] ++ b ++ [46] ++ c ++ [46] ++ d).toArray⟩ := ByteArray.ext (by simp)
set_option maxRecDepth 100000 in
theorem number_any (v : Int) (d : Bool) (w : World) (htab0 : Lib.TabIs Tryz.prog w "internal/strconv.uint64pow10" .u64 Lib.pow10Tab) :
    Calls Tryz.prog 117 #[.int .i64 v, .bool d] w fun e w' => e = .returned (.tuple #[.string ⟨(numL v d).toArray⟩, .int .i64 (numE v)]) ∧ Below w.heap.size w w' := by
  have htab : Hid (Lib.TabIs Tryz.prog w "internal/strconv.uint64pow10" .u64 Lib.pow10Tab) := htab0
  clear htab0
  by_cases h : v < 0 ∨ 4294967295 < v
  · have e1 : numL v d = [] := if_pos h
    have e2 : numE v = 31 := if_pos h
    rw [e1, e2]
    go_enter Tryz.func117, Tryz.ntmps117
    rcases h with h | h
    · go_wp2
      go_ret2
      exact ⟨rfl, Below.refl _ _⟩
    · have h0 : ¬ v < 0 := by omega
      go_wp2
      go_ret2
      exact ⟨rfl, Below.refl _ _⟩
  · obtain ⟨n, rfl⟩ : ∃ n : Nat, v = n := ⟨v.toNat, by omega⟩
    have e2 : numE n = 0 := if_neg h
    have h0 : ¬ (n : Int) < 0 := by omega
    have h1 : ¬ (4294967295 : Int) < (n : Int) := by omega
    have hc : Hid (∀ (m : Nat) W, m ≤ n → Below w.heap.size w W → Calls Tryz.prog 90 #[.int .i64 (m : Int)] W fun e w' => e = .returned (.string ⟨(Lib.decDigits m).toArray⟩) ∧ Below w.heap.size w w') := fun m W hm hW => (itoa_any m (by omega) W (tab_below htab.out hW)).mono (fun e w' h => ⟨h.1, bel0 hW h.2⟩)
    cases d
    · have e1 : numL n false = Lib.decDigits n := by unfold numL; rw [if_neg h]; simp
      rw [e1, e2]
      go_enter Tryz.func117, Tryz.ntmps117
      go_wp2_with fail
      refine (hc.out n _ (Nat.le_refl _) (by first | exact Below.refl _ _ | exact (Below.refl _ _).drew)).mono ?_
      rintro e W1 ⟨rfl, hb⟩
      go_wp2
      go_ret2
      exact ⟨rfl, hb⟩
    · have e1 : numL n true = quadL n := by unfold numL; rw [if_neg h]; simp
      have eq : quadL n = Lib.decDigits (n / 16777216) ++ [46] ++ Lib.decDigits (n / 65536 % 256) ++ [46] ++ Lib.decDigits (n / 256 % 256) ++ [46] ++ Lib.decDigits (n % 256) := rfl
      obtain ⟨A, hA⟩ : ∃ A, Lib.decDigits (n / 16777216) = A := ⟨_, rfl⟩
      have lA : A.length ≤ 4294967296 := by have := dec_len (n / 16777216); rw [hA] at this; omega
      have cA : Hid (∀ W, Below w.heap.size w W → Calls Tryz.prog 90 #[.int .i64 ((n : Int) / 16777216)] W fun e w' => e = .returned (.string ⟨A.toArray⟩) ∧ Below w.heap.size w w') := fun W hW => by
        have e : ((n : Int) / 16777216) = ((n / 16777216 : Nat) : Int) := by omega
        rw [e, ← hA]
        exact hc.out _ W (by omega) hW
      obtain ⟨B, hB⟩ : ∃ B, Lib.decDigits (n / 65536 % 256) = B := ⟨_, rfl⟩
      have lB : B.length ≤ 4294967296 := by have := dec_len (n / 65536 % 256); rw [hB] at this; omega
      have cB : Hid (∀ W, Below w.heap.size w W → Calls Tryz.prog 90 #[.int .i64 ((n : Int) / 65536 % 256)] W fun e w' => e = .returned (.string ⟨B.toArray⟩) ∧ Below w.heap.size w w') := fun W hW => by
        have e : ((n : Int) / 65536 % 256) = ((n / 65536 % 256 : Nat) : Int) := by omega
        rw [e, ← hB]
        exact hc.out _ W (by omega) hW
      obtain ⟨C, hC⟩ : ∃ C, Lib.decDigits (n / 256 % 256) = C := ⟨_, rfl⟩
      have lC : C.length ≤ 4294967296 := by have := dec_len (n / 256 % 256); rw [hC] at this; omega
      have cC : Hid (∀ W, Below w.heap.size w W → Calls Tryz.prog 90 #[.int .i64 ((n : Int) / 256 % 256)] W fun e w' => e = .returned (.string ⟨C.toArray⟩) ∧ Below w.heap.size w w') := fun W hW => by
        have e : ((n : Int) / 256 % 256) = ((n / 256 % 256 : Nat) : Int) := by omega
        rw [e, ← hC]
        exact hc.out _ W (by omega) hW
      obtain ⟨D, hD⟩ : ∃ D, Lib.decDigits (n % 256) = D := ⟨_, rfl⟩
      have lD : D.length ≤ 4294967296 := by have := dec_len (n % 256); rw [hD] at this; omega
      have cD : Hid (∀ W, Below w.heap.size w W → Calls Tryz.prog 90 #[.int .i64 ((n : Int) % 256)] W fun e w' => e = .returned (.string ⟨D.toArray⟩) ∧ Below w.heap.size w w') := fun W hW => by
        have e : ((n : Int) % 256) = ((n % 256 : Nat) : Int) := by omega
        rw [e, ← hD]
        exact hc.out _ W (by omega) hW
      rw [e1, e2, eq, hA, hB, hC, hD]
      clear hA hB hC hD eq e1 e2 hc
      go_enter Tryz.func117, Tryz.ntmps117
      go_wp2_with fail
      refine (cA.out _ (Below.refl _ _)).mono ?_
      rintro e W1 ⟨rfl, hb1⟩
      go_wp2_with fail
      go_loopw [6, 23] (fun t i wr => Below w.heap.size w wr ∧ ((i = .int .i64 0 ∧ t = .string ⟨A.toArray⟩) ∨ (i = .int .i64 1 ∧ t = .string (⟨A.toArray⟩ ++ (⟨#[46]⟩ ++ ⟨B.toArray⟩))) ∨ (i = .int .i64 2 ∧ t = .string (⟨A.toArray⟩ ++ (⟨#[46]⟩ ++ ⟨B.toArray⟩) ++ (⟨#[46]⟩ ++ ⟨C.toArray⟩))) ∨ (i = .int .i64 3 ∧ t = .string (⟨A.toArray⟩ ++ (⟨#[46]⟩ ++ ⟨B.toArray⟩) ++ (⟨#[46]⟩ ++ ⟨C.toArray⟩) ++ (⟨#[46]⟩ ++ ⟨D.toArray⟩))))) (fun _ i _ => 3 - (intOf i).toNat)
      case atStart => exact ⟨hb1, .inl ⟨rfl, rfl⟩⟩
      case round =>
        obtain ⟨hB2, hr⟩ := hrel
        rcases hr with ⟨rfl, rfl⟩ | ⟨rfl, rfl⟩ | ⟨rfl, rfl⟩ | ⟨rfl, rfl⟩
        · have ix := idx0
          have eb : bits BinOp.and IntKind.i64 ((n : Int) / 65536) 255 = (n : Int) / 65536 % 256 := by
            have := and_q n 65536 _ (by omega) rfl
            skip
            refine this.trans ?_
            omega
          go_wp2_with fail
          refine (cB.out _ hB2).mono ?_
          rintro e W2 ⟨rfl, hb2⟩
          go_wp2
          go_roundw
          case rel => exact ⟨hb2, .inr (.inl ⟨by go_num, rfl⟩)⟩
          case measure => simp [intOf]
        · have ix := idx1
          have eb : bits BinOp.and IntKind.i64 ((n : Int) / 256) 255 = (n : Int) / 256 % 256 := by
            have := and_q n 256 _ (by omega) rfl
            skip
            refine this.trans ?_
            omega
          go_wp2_with fail
          refine (cC.out _ hB2).mono ?_
          rintro e W2 ⟨rfl, hb2⟩
          go_wp2
          go_roundw
          case rel => exact ⟨hb2, .inr (.inr (.inl ⟨by go_num, rfl⟩))⟩
          case measure => simp [intOf]
        · have ix := idx2
          have eb : bits BinOp.and IntKind.i64 ((n : Int)) 255 = (n : Int) % 256 := by
            have := and_q n 1 _ (by omega) rfl
            rw [Int.natCast_one, Int.ediv_one] at this
            refine this.trans ?_
            omega
          go_wp2_with fail
          refine (cD.out _ hB2).mono ?_
          rintro e W2 ⟨rfl, hb2⟩
          go_wp2
          go_roundw
          case rel => exact ⟨hb2, .inr (.inr (.inr ⟨by go_num, rfl⟩))⟩
          case measure => simp [intOf]
        · go_wp2
          go_ret2
          exact ⟨by rw [← cat7']; rfl, hB2⟩
end Go.Proofs.YtepokgainceidaaGreatDoor
namespace Go.Proofs.YtepokgainceidaaGreatDoor
open Go.RowKit Go.Shelf
structure VW (w : World) : Prop where
  pow : Lib.TabIs Tryz.prog w "internal/strconv.uint64pow10" .u64 Lib.pow10Tab
  syn : ∃ tp p, w.var? Tryz.prog "strconv.ErrSyntax" = some #[.iface tp p]
  rng : ∃ tp p, w.var? Tryz.prog "strconv.ErrRange" = some #[.iface tp p]
theorem var_below {w W : World} {n : String} {x : Array Value} (h : w.var? Tryz.prog n = some x) (hb : Below w.heap.size w W) : W.var? Tryz.prog n = some x := by
  unfold World.var? at h ⊢
  cases hg : Tryz.prog.globalNamed n with
  | none => rw [hg] at h; cases h
  | some g =>
    rw [hg] at h
    simp only [Option.bind_some] at h ⊢
    cases hw : w.heap[g]? with
    | none => rw [hw] at h; cases h
    | some o => rw [keepblk hb hw]; rw [hw] at h; exact h
theorem VW.below {w W : World} (h : VW w) (hb : Below w.heap.size w W) : VW W := by
  obtain ⟨h1, ⟨t2, p2, h2⟩, ⟨t3, p3, h3⟩⟩ := h
  exact ⟨tab_below h1 hb, ⟨t2, p2, var_below h2 hb⟩, ⟨t3, p3, var_below h3 hb⟩⟩
theorem atoi_any (l : List UInt8) (w : World) (hs : l.length ≤ 16384) (hv : VW w) :
    Calls Tryz.prog 197 #[.string ⟨l.toArray⟩] w fun e w' => (∃ (v : Int) (r : Value), e = .returned (.tuple #[.int .i64 v, r]) ∧ ((Lib.atoiAll l = .ok v ∧ r = .nilIface) ∨ ((∀ u, Lib.atoiAll l ≠ .ok u) ∧ ∃ t p, r = .iface t p))) ∧ Below w.heap.size w w' := by
  have hz : (ByteArray.mk l.toArray).size = l.length := by simp [ByteArray.size]
  cases h : Lib.atoiAll l with
  | ok v =>
    refine (Any.strconv_Atoi_ok Tryz.l172 ⟨l.toArray⟩ (by rw [hz]; omega) v h w).mono fun e w' ⟨he, hw⟩ => ⟨⟨v, .nilIface, he, .inl ⟨rfl, rfl⟩⟩, ?_⟩
    rcases hw with rfl | ⟨t, rfl⟩
    · exact Below.refl _ _
    · exact Lib.bytesWorld_below _ _ _
  | «syntax» =>
    obtain ⟨tp, p, hp⟩ := hv.syn
    exact (Any.strconv_Atoi_syntax_var Tryz.l172 ⟨l.toArray⟩ (by rw [hz]; omega) h tp p w hp).mono fun e w' ⟨N, he, _, _, hb⟩ => ⟨⟨_, _, he, .inr ⟨fun u hu => (by cases hu), ⟨_, _, rfl⟩⟩⟩, hb⟩
  | range =>
    obtain ⟨tp, p, hp⟩ := hv.rng
    exact (Any.strconv_Atoi_range_var Tryz.l172 ⟨l.toArray⟩ (by rw [hz]; omega) h tp p w hp).mono fun e w' ⟨N, he, _, _, hb⟩ => ⟨⟨_, _, he, .inr ⟨fun u hu => (by cases hu), ⟨_, _, rfl⟩⟩⟩, hb⟩
theorem decN_no {l : List UInt8} {m : Nat} (hm : m ≤ 4294967295) (h : ∀ n : Nat, Lib.atoiAll l = .ok (n : Int) → n ≤ m → l = Lib.decDigits n → False) : decN l m = none := by
  cases hd : decN l m with
  | none => rfl
  | some n =>
    obtain ⟨h1, h2⟩ := (decN_iff l m n (by omega)).1 hd
    exact absurd (h n (by rw [h1]; exact atoi_dec n (by omega)) h2 h1) id
set_option maxRecDepth 100000 in
theorem decimalOf_any (l : List UInt8) (m : Nat) (w : World) (hs : l.length ≤ 16384) (hm : m ≤ 4294967295) (hv : VW w) :
    Calls Tryz.prog 193 #[.string ⟨l.toArray⟩, .int .i64 (m : Int)] w fun e w' => (∃ v : Int, e = .returned (.tuple #[.int .i64 v, .bool (decN l m).isSome]) ∧ ∀ n, decN l m = some n → v = n) ∧ Below w.heap.size w w' := by
  have HV : Hid (VW w) := hv
  have HA := atoi_any l w hs hv
  clear hv
  go_enter Tryz.func193, Tryz.ntmps193
  go_wp2_with fail
  refine HA.mono ?_
  rintro e w1 ⟨⟨v, r, rfl, hr⟩, hb1⟩
  rcases hr with ⟨ho, rfl⟩ | ⟨hn, t, p, rfl⟩
  · by_cases h0 : 0 ≤ v
    · by_cases h1 : v ≤ (m : Int)
      · obtain ⟨k, rfl⟩ : ∃ k : Nat, v = k := ⟨v.toNat, by omega⟩
        go_wp2_with fail
        refine (itoa_any k (by omega) w1 (HV.out.below hb1).pow).mono ?_
        rintro e w2 ⟨rfl, hb2⟩
        by_cases hE : Lib.decDigits k = l
        · have hd : Hid (decN l m = some k) := by unfold Hid; rw [decN_iff _ _ _ (by omega), ← hE]; exact ⟨rfl, by omega⟩
          go_wp2
          go_ret2
          rw [hd.out]
          exact ⟨⟨_, rfl, fun n hn => by injection hn with hn; rw [hn]⟩, bel0 hb1 hb2⟩
        · have hd : Hid (decN l m = none) := decN_no hm (fun n a b c => hE (by
            rw [ho] at a
            injection a with a
            have : k = n := by omega
            subst this
            exact c.symm))
          have hE2 : (Lib.decDigits k == l) = false := beq_eq_false_iff_ne.2 hE
          go_wp2
          go_ret2
          rw [hd.out]
          exact ⟨⟨_, rfl, fun n hn => by cases hn⟩, bel0 hb1 hb2⟩
      · have hd : Hid (decN l m = none) := decN_no hm (fun n a b c => by
          rw [ho] at a
          injection a with a
          omega)
        go_wp2
        go_ret2
        rw [hd.out]
        exact ⟨⟨_, rfl, fun n hn => by cases hn⟩, hb1⟩
    · have hd : Hid (decN l m = none) := decN_no hm (fun n a b c => by
        rw [ho] at a
        injection a with a
        omega)
      go_wp2
      go_ret2
      rw [hd.out]
      exact ⟨⟨_, rfl, fun n hn => by cases hn⟩, hb1⟩
  · have hd : Hid (decN l m = none) := decN_no hm (fun n a b c => hn _ a)
    go_wp2
    go_ret2
    rw [hd.out]
    exact ⟨⟨_, rfl, fun n hn => by cases hn⟩, hb1⟩
end Go.Proofs.YtepokgainceidaaGreatDoor
