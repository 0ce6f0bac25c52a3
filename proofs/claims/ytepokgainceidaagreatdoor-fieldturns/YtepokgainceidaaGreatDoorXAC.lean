import Derived.Test.YtepokgainceidaaGreatDoorXAB
import Derived.Laws.OwnMore
import Derived.Deep.AppendLies
import Derived.Lib.DecodeN
import Derived.Lib.MapLaws
import Derived.Shelf.Strconv.AtoiAll
import Derived.Shelf.Strconv.ErrVarAll
import Derived.Shelf.Strings.Search3
import Derived.Shelf.Strings.Prefix
import Derived.Shelf.Small.Wraps
import Derived.Shelf.Small.Utf8
import Derived.Ground.NamesProg
import Derived.Test.YtepokgainceidaaGreatDoorProg
namespace Go.Proofs.YtepokgainceidaaGreatDoor
open Go.RowKit Go.Shelf
def DB (w : World) : Prop := TabAt 2 Lib.deBruijn64tab w
theorem DB.below {w W : World} (h : DB w) (hb : Below w.heap.size w W) : DB W := fun j hj => (hb.cell (World.block_lt_of_cell? w _ (h j hj))).trans (h j hj)
theorem tz_any (a : Nat) (ha : a < 18446744073709551616) (w : World) (h : DB w) : Calls Tryz.prog 101 #[.int .u64 (a : Int)] w fun e w' => e = .returned (.int .i64 (cz a : Int)) ∧ w' = w :=
  Any7.bits_TrailingZeros Tryz.l7n27 a ha w (fun _ => h)
theorem len_any (a : Nat) (ha : a < 18446744073709551616) (w : World) : Calls Tryz.prog 102 #[.int .u64 (a : Int)] w fun e w' => e = .returned (.int .i64 (Lib.bitLen a : Int)) ∧ w' = w := by
  have h := Any.bits_Len Tryz.l125 (a : Int) w (by omega) (by omega)
  rw [Int.toNat_natCast] at h
  exact h
def stx (L : List (List UInt8)) : List Value := L.map fun t => Value.string ⟨t.toArray⟩
theorem stx_snoc (L : List (List UInt8)) (t : List UInt8) : stx (L ++ [t]) = stx L ++ [Value.string ⟨t.toArray⟩] := by simp [stx]
theorem info_str : (Tryz.prog.info? 9).map (fun i => (i.zero, i.size, i.bytes)) = some (some (.string ⟨#[]⟩), 1, 16) := by kernel_rfl
def cov (b lo hi : Nat) : List (List UInt8) := (gr lo hi).map fun p => digL b p.1 p.2
theorem cov_le {b a e : Nat} (h : a ≤ e) : cov b a e = digL b a (fre a e) :: cov b (a + 2 ^ fre a e) e := by unfold cov; rw [gr_le h]; rfl
theorem cov_end {b a e : Nat} (h : ¬ a ≤ e) : cov b a e = [] := by unfold cov; rw [gr_end h]; rfl
theorem bitLen_pos {n : Nat} (h : 0 < n) (h2 : n < 2 ^ 64) : 1 ≤ Lib.bitLen n := by
  obtain ⟨_, b⟩ := bitLen_spec n h h2
  refine Classical.byContradiction (fun hn => ?_)
  rw [show Lib.bitLen n = 0 by omega] at b
  simp at b
  omega
theorem add_wrap (a G : Nat) (h : a + G ≤ 8589934592) : wrap64 ((a : Int) + wrap64 (G : Int)) = ((a + G : Nat) : Int) := by
  rw [w64 (x := (G : Int)) (by omega) (by omega), w64 (by omega) (by omega)]
  omega
theorem add_pow (a F G : Nat) (hG : 2 ^ F = G) (h : a + G ≤ 8589934592) : wrap64 ((a : Int) + wrap64 (2 ^ F)) = ((a + G : Nat) : Int) := by
  rw [pow_cast, hG]
  exact add_wrap a G h
set_option maxRecDepth 100000 in
set_option maxHeartbeats 1000000 in
theorem prefixes_any (b lo hi : Nat) (hb1 : 1 ≤ b) (hb : b ≤ 32) (hh : hi < 2 ^ b) (hl : lo ≤ hi + 1) (w : World) (hdb0 : DB w) :
    Calls Tryz.prog 80 #[.int .i64 (b : Int), .int .i64 (lo : Int), .int .i64 (hi : Int)] w fun e w' => ∃ v, e = .returned v ∧ w'.ownsRow w.heap.size 9 1 v (cov b lo hi).length (stx (cov b lo hi)) ∧ Below w.heap.size w w' := by
  have hp : 2 ^ b ≤ 2 ^ 32 := Nat.pow_le_pow_right (by decide) hb
  obtain ⟨i0, hi0, hz0, hz1, hz2⟩ := info_parts info_str
  have hdb : Hid (DB w) := hdb0
  clear hdb0
  go_enter Tryz.func80, Tryz.ntmps80
  go_wp2_with fail
  go_loopw [1, 7] (fun va v wr => ∃ (a : Nat) (D : List (List UInt8)), va = .int .i64 a ∧ a ≤ hi + 1 ∧ D.length ≤ a ∧ D ++ cov b a hi = cov b lo hi ∧ wr.ownsRow w.heap.size 9 1 v D.length (stx D) ∧ Below w.heap.size w wr) (fun va _ _ => hi + 1 - (intOf va).toNat)
  case atStart => exact ⟨lo, [], rfl, hl, Nat.zero_le _, rfl, World.ownsRow_nil _ _ _ _, Below.refl _ _⟩
  case round =>
    obtain ⟨a, D, rfl, ha, hD, hcov, hown, hB⟩ := hrel
    have hsz := hB.size
    by_cases hle : a ≤ hi
    · have i1 : (a : Int) ≤ (hi : Int) := by omega
      have e1 : IntKind.u64.wrap (a : Int) = (a : Int) := by rw [IntKind.wrap_u64]; omega
      have e2 : IntKind.i64.wrap ((hi : Int) - (a : Int)) = ((hi - a : Nat) : Int) := by rw [IntKind.wrap_i64]; omega
      have e3 : IntKind.i64.wrap (((hi - a : Nat) : Int) + 1) = ((hi - a + 1 : Nat) : Int) := by rw [IntKind.wrap_i64]; omega
      have e4 : IntKind.u64.wrap ((hi - a + 1 : Nat) : Int) = ((hi - a + 1 : Nat) : Int) := by rw [IntKind.wrap_u64]; omega
      have HT := tz_any a (by omega) wr (hdb.out.below hB)
      have HL := fun W => len_any (hi - a + 1) (by omega) W
      have hbl := bitLen_pos (n := hi - a + 1) (by omega) (by omega)
      rw [cov_le hle] at hcov
      have hfp := fre_le (a := a) (e := hi) hle (by omega)
      have hfb : fre a hi ≤ b := (Nat.pow_le_pow_iff_right (a := 2) (by decide)).1 (by omega)
      have hfd : fre a hi = min (cz a) (Lib.bitLen (hi - a + 1) - 1) := rfl
      have hl64 := Lib.bitLen_le (hi - a + 1) 64 (Nat.le_refl _) (by omega)
      obtain ⟨F, hF⟩ : ∃ F, fre a hi = F := ⟨_, rfl⟩
      obtain ⟨C, hC⟩ : ∃ C, cz a = C := ⟨_, rfl⟩
      obtain ⟨L, hL⟩ : ∃ L, Lib.bitLen (hi - a + 1) = L := ⟨_, rfl⟩
      rw [hF] at hcov hfp hfb hfd
      rw [hC] at hfd HT
      rw [hL] at hfd hbl hl64
      simp only [hL] at HL
      have e5 : wrap64 ((L : Int) - 1) = ((L - 1 : Nat) : Int) := by rw [w64 (by omega) (by omega)]; omega
      have e6 : min (C : Int) ((L - 1 : Nat) : Int) = (F : Int) := by rw [hfd]; omega
      obtain ⟨G, hG⟩ : ∃ G, 2 ^ F = G := ⟨_, rfl⟩
      have hpp : 0 < 2 ^ F := Nat.pow_pos (by decide)
      rw [hG] at hcov hfp hpp
      have hag : a + G ≤ 8589934592 := by omega
      have e8 : Hid (wrap64 ((a : Int) + wrap64 (2 ^ F)) = ((a + G : Nat) : Int)) := add_pow a F G hG hag
      clear hG
      have HD := fun W => digits_any b a F hb1 hb hfb (by omega) W
      have hlen : (digL b a F).length = b := digL_len b a F hfb
      obtain ⟨S, hS⟩ : ∃ S, digL b a F = S := ⟨_, rfl⟩
      rw [hS] at hcov
      simp only [hS] at HD
      have HC : Hid ((D ++ [S]) ++ cov b (a + G) hi = cov b lo hi) := by unfold Hid; rw [List.append_assoc]; exact hcov
      obtain ⟨qv, cv, rfl⟩ := shapeP hown
      have P32 : hi ≤ 4294967296 := by omega
      have F32 : F ≤ 32 := Nat.le_trans hfb hb
      clear hcov hC hL hF hS hlen hfd hfb hl64 hbl hh hp
      go_wp2_with fail
      refine HT.mono ?_
      rintro e w1 ⟨rfl, rfl⟩
      go_wp2_with fail
      refine (HL _).mono ?_
      rintro e w2 ⟨rfl, rfl⟩
      go_wp2_with fail
      refine (HD _).mono ?_
      rintro e w3 ⟨rfl, hb3⟩
      have hown3 := owns_below hown hb3
      have hB3 := bel0 hB hb3
      have hs3 := hB3.size
      clear hown hB HT HL HD
      go_wp2_with (at_builtin; refine wpList_append_own _ rfl _ _ 25 rfl w.heap.size 9 i0 _ 1 16 Tryz.underlying25 hi0 hz0 hz1 hz2 rfl (by decide) _ _ _ rfl (hown3.alloc _) ⟨w3.heap.size, 0, none⟩ 1 1 [Value.string ⟨S.toArray⟩] rfl rfl (World.news_of_block (cs := #[.string ⟨S.toArray⟩]) (t := 9) (fr := (0, 0)) (alloc_get _ _)) (by simp [Value.oneCell']) (by unfold maxLen; omega) (by omega) (by simp; omega) ?_; intro v5 w5 oB hg5 _)
      have b5 : Below w.heap.size w w5 := (hB3.alloc hs3 _).grown hg5 (by simp; omega) (fun k e => (hown3.lt k e).1)
      have o5 : w5.ownsRow w.heap.size 9 1 v5 (D ++ [S]).length (stx (D ++ [S])) := by rw [List.length_append, stx_snoc]; exact oB
      clear oB hg5 hown3 hB3
      go_roundw
      case rel => exact ⟨a + G, D ++ [S], by rw [e8.out], by omega, by rw [List.length_append]; simp; omega, HC.out, o5, b5⟩
      case measure => rw [e8.out]; simp [intOf]; omega
    · have i1 : ¬ (a : Int) ≤ (hi : Int) := by omega
      rw [cov_end hle, List.append_nil] at hcov
      have HC : Hid (D = cov b lo hi) := hcov
      clear hcov hh hp
      go_wp2_with fail
      go_ret
      refine ⟨_, rfl, ?_, hB⟩
      rw [← HC.out]
      exact hown
end Go.Proofs.YtepokgainceidaaGreatDoor
namespace Go.Proofs.YtepokgainceidaaGreatDoor
open Go.RowKit
def bt (l : List UInt8) (i : Nat) : Nat := (l.getD i 0).toNat
def dc (l : List UInt8) (i : Nat) : Nat × Nat := Lib.decodeN (l.length - i) (bt l i) (bt l (i + 1)) (bt l (i + 2)) (bt l (i + 3))
theorem bt_lt (l : List UInt8) (i : Nat) : bt l i < 256 := UInt8.toNat_lt _
theorem bt_of {l : List UInt8} {i : Nat} {c : UInt8} (h : l[i]? = some c) : bt l i = c.toNat := by simp [bt, List.getD, h]
theorem dc_decode (l : List UInt8) (i : Nat) : Utf8.decode ⟨l.toArray⟩ i = dc l i := by
  have hg : ∀ j, (ByteArray.mk l.toArray).get! j = l.getD j 0 := by
    intro j
    simp [ByteArray.get!, List.getD, Array.getElem!_eq_getD]
    rfl
  rw [Lib.decode_at, hg, hg, hg, hg]
  unfold dc bt
  rw [show (ByteArray.mk l.toArray).size = l.length by simp [ByteArray.size]]
def wi (l : List UInt8) (j lo hi : Nat) : Bool := decide (j < l.length) && (decide (lo ≤ bt l j) && decide (bt l j ≤ hi))
def lo1 (l : List UInt8) (i : Nat) : Bool := decide (dc l i = (65533, 1))
end Go.Proofs.YtepokgainceidaaGreatDoor
namespace Go.Proofs
open Go.Shelf
def Tryz.l172_ren : Go.Shelf.Ren := ⟨fun | 172 => 197 | 244 => 200 | 245 => 199 | 247 => 207 | 279 => 203 | 280 => 204 | 281 => 205 | 282 => 206 | 287 => 198 | 316 => 148 | 171 => 90 | 205 => 208 | 321 => 201 | 322 => 202 | 243 => 118 | 246 => 144 | 283 => 157 | 284 => 158 | 285 => 159 | 286 => 160 | 129 => 131 | 317 => 171 | 318 => 172 | 319 => 173 | 320 => 101 | 337 => 128 | 338 => 129 | n => n, fun | 9 => 9 | 3 => 3 | 75 => 134 | 76 => 135 | 4 => 4 | 5 => 5 | 167 => 241 | 37 => 81 | 0 => 0 | 85 => 246 | 2 => 2 | 168 => 243 | 53 => 119 | 175 => 238 | 46 => 106 | 210 => 249 | 127 => 168 | 145 => 253 | 143 => 251 | 21 => 21 | 171 => 202 | 173 => 204 | 212 => 211 | 51 => 178 | 20 => 20 | 213 => 212 | 232 => 200 | 233 => 201 | 80 => 137 | n => n, fun | 15 => 9 | 16 => 10 | 17 => 4 | 18 => 1 | 19 => 2 | n => n⟩
theorem Tryz.l172 : Go.Proofs.LaysC.n172 Tryz.prog Tryz.l172_ren := {
  mixed := by kernel_rfl
  f129 := Tryz.func131.trans (congrArg some (by kernel_rfl))
  f171 := Tryz.func90.trans (congrArg some (by kernel_rfl))
  f172 := Tryz.func197.trans (congrArg some (by kernel_rfl))
  f205 := Tryz.func208.trans (congrArg some (by kernel_rfl))
  f243 := Tryz.func118.trans (congrArg some (by kernel_rfl))
  f244 := Tryz.func200.trans (congrArg some (by kernel_rfl))
  f245 := Tryz.func199.trans (congrArg some (by kernel_rfl))
  f246 := Tryz.func144.trans (congrArg some (by kernel_rfl))
  f247 := Tryz.func207.trans (congrArg some (by kernel_rfl))
  f279 := Tryz.func203.trans (congrArg some (by kernel_rfl))
  f280 := Tryz.func204.trans (congrArg some (by kernel_rfl))
  f281 := Tryz.func205.trans (congrArg some (by kernel_rfl))
  f282 := Tryz.func206.trans (congrArg some (by kernel_rfl))
  f283 := Tryz.func157.trans (congrArg some (by kernel_rfl))
  f284 := Tryz.func158.trans (congrArg some (by kernel_rfl))
  f285 := Tryz.func159.trans (congrArg some (by kernel_rfl))
  f286 := Tryz.func160.trans (congrArg some (by kernel_rfl))
  f287 := Tryz.func198.trans (congrArg some (by kernel_rfl))
  f316 := Tryz.func148.trans (congrArg some (by kernel_rfl))
  f317 := Tryz.func171.trans (congrArg some (by kernel_rfl))
  f318 := Tryz.func172.trans (congrArg some (by kernel_rfl))
  f319 := Tryz.func173.trans (congrArg some (by kernel_rfl))
  f320 := Tryz.func101.trans (congrArg some (by kernel_rfl))
  f321 := Tryz.func201.trans (congrArg some (by kernel_rfl))
  f322 := Tryz.func202.trans (congrArg some (by kernel_rfl))
  f337 := Tryz.func128.trans (congrArg some (by kernel_rfl))
  f338 := Tryz.func129.trans (congrArg some (by kernel_rfl))
  t0 := Tryz.underlying0
  a0 := Tryz.isAgg0
  z0 := Tryz.sizeOf0
  v0 := Tryz.zeroValue0
  t2 := Tryz.underlying2
  a2 := Tryz.isAgg2
  z2 := Tryz.sizeOf2
  v2 := Tryz.zeroValue2
  t3 := Tryz.underlying3
  a3 := Tryz.isAgg3
  z3 := Tryz.sizeOf3
  v3 := Tryz.zeroValue3
  t4 := Tryz.underlying4
  a4 := Tryz.isAgg4
  z4 := Tryz.sizeOf4
  v4 := Tryz.zeroValue4
  t5 := Tryz.underlying5
  a5 := Tryz.isAgg5
  z5 := Tryz.sizeOf5
  v5 := Tryz.zeroValue5
  t9 := Tryz.underlying9
  a9 := Tryz.isAgg9
  z9 := Tryz.sizeOf9
  v9 := Tryz.zeroValue9
  t20 := Tryz.underlying20
  a20 := Tryz.isAgg20
  z20 := Tryz.sizeOf20
  v20 := Tryz.zeroValue20
  t21 := Tryz.underlying21
  a21 := Tryz.isAgg21
  z21 := Tryz.sizeOf21
  v21 := Tryz.zeroValue21
  t37 := Tryz.underlying81
  a37 := Tryz.isAgg81
  z37 := Tryz.sizeOf81
  v37 := Tryz.zeroValue81
  t46 := Tryz.underlying106
  a46 := Tryz.isAgg106
  z46 := Tryz.sizeOf106
  v46 := Tryz.zeroValue106
  t51 := Tryz.underlying178
  a51 := Tryz.isAgg178
  z51 := Tryz.sizeOf178
  v51 := Tryz.zeroValue178
  t53 := Tryz.underlying119
  a53 := Tryz.isAgg119
  z53 := Tryz.sizeOf119
  v53 := Tryz.zeroValue119
  t75 := Tryz.underlying134
  a75 := Tryz.isAgg134
  z75 := Tryz.sizeOf134
  v75 := Tryz.zeroValue134
  t76 := Tryz.underlying135
  a76 := Tryz.isAgg135
  z76 := Tryz.sizeOf135
  v76 := Tryz.zeroValue135
  t85 := Tryz.underlying246
  a85 := Tryz.isAgg246
  z85 := Tryz.sizeOf246
  v85 := Tryz.zeroValue246
  t127 := Tryz.underlying168
  a127 := Tryz.isAgg168
  z127 := Tryz.sizeOf168
  v127 := Tryz.zeroValue168
  t143 := Tryz.underlying251
  a143 := Tryz.isAgg251
  z143 := Tryz.sizeOf251
  v143 := Tryz.zeroValue251
  t145 := Tryz.underlying253
  a145 := Tryz.isAgg253
  z145 := Tryz.sizeOf253
  v145 := Tryz.zeroValue253
  t167 := Tryz.underlying241
  a167 := Tryz.isAgg241
  z167 := Tryz.sizeOf241
  v167 := Tryz.zeroValue241
  t168 := Tryz.underlying243
  a168 := Tryz.isAgg243
  z168 := Tryz.sizeOf243
  v168 := Tryz.zeroValue243
  t171 := Tryz.underlying202
  a171 := Tryz.isAgg202
  z171 := Tryz.sizeOf202
  v171 := Tryz.zeroValue202
  t173 := Tryz.underlying204
  a173 := Tryz.isAgg204
  z173 := Tryz.sizeOf204
  v173 := Tryz.zeroValue204
  t175 := Tryz.underlying238
  a175 := Tryz.isAgg238
  z175 := Tryz.sizeOf238
  v175 := Tryz.zeroValue238
  t210 := Tryz.underlying249
  a210 := Tryz.isAgg249
  z210 := Tryz.sizeOf249
  v210 := Tryz.zeroValue249
  t212 := Tryz.underlying211
  a212 := Tryz.isAgg211
  z212 := Tryz.sizeOf211
  v212 := Tryz.zeroValue211
  t213 := Tryz.underlying212
  a213 := Tryz.isAgg212
  z213 := Tryz.sizeOf212
  t232 := Tryz.underlying200
  a232 := Tryz.isAgg200
  z232 := Tryz.sizeOf200
  v232 := Tryz.zeroValue200
  t233 := Tryz.underlying201
  a233 := Tryz.isAgg201
  z233 := Tryz.sizeOf201
  v233 := Tryz.zeroValue201
  g15 := by kernel_rfl
  g16 := by kernel_rfl
  g17 := by kernel_rfl
  g18 := by kernel_rfl
  g19 := by kernel_rfl
  t80 := Tryz.underlying137
  a80 := Tryz.isAgg137
  z80 := Tryz.sizeOf137
  v80 := Tryz.zeroValue137
  i0 := by kernel_rfl
  i2 := by kernel_rfl
  i3 := by kernel_rfl
  i4 := by kernel_rfl
  i5 := by kernel_rfl
  i9 := by kernel_rfl
  i20 := by kernel_rfl
  i21 := by kernel_rfl
  i37 := by kernel_rfl
  i46 := by kernel_rfl
  i51 := by kernel_rfl
  i53 := by kernel_rfl
  i75 := by kernel_rfl
  i76 := by kernel_rfl
  i80 := by kernel_rfl
  i85 := by kernel_rfl
  i127 := by kernel_rfl
  i143 := by kernel_rfl
  i145 := by kernel_rfl
  i167 := by kernel_rfl
  i168 := by kernel_rfl
  i171 := by kernel_rfl
  i173 := by kernel_rfl
  i175 := by kernel_rfl
  i210 := by kernel_rfl
  i212 := by kernel_rfl
  i232 := by kernel_rfl
  i233 := by kernel_rfl
  m15 := by kernel_rfl
  m16 := by kernel_rfl
  m17 := by kernel_rfl
  m18 := by kernel_rfl
  m19 := by kernel_rfl
  c0 := by kernel_rfl
  c2 := by kernel_rfl
  c3 := by kernel_rfl
  c4 := by kernel_rfl
  c5 := by kernel_rfl
  c9 := by kernel_rfl
  c20 := by kernel_rfl
  c21 := by kernel_rfl
  c37 := by kernel_rfl
  c46 := by kernel_rfl
  c51 := by kernel_rfl
  c53 := by kernel_rfl
  c75 := by kernel_rfl
  c76 := by kernel_rfl
  c80 := by kernel_rfl
  c85 := by kernel_rfl
  c127 := by kernel_rfl
  c143 := by kernel_rfl
  c145 := by kernel_rfl
  c167 := by kernel_rfl
  c168 := by kernel_rfl
  c171 := by kernel_rfl
  c173 := by kernel_rfl
  c175 := by kernel_rfl
  c210 := by kernel_rfl
  c212 := by kernel_rfl
  c213 := by kernel_rfl
  c232 := by kernel_rfl
  c233 := by kernel_rfl }
def Tryz.l103_ren : Go.Shelf.Ren := ⟨fun | 103 => 190 | 210 => 195 | 206 => 136 | n => n, fun | 9 => 9 | 4 => 4 | 24 => 233 | 3 => 3 | n => n, fun | n => n⟩
theorem Tryz.l103 : Go.Proofs.Lays.n103 Tryz.prog Tryz.l103_ren := {
  mixed := by kernel_rfl
  f103 := Tryz.func190.trans (congrArg some (by kernel_rfl))
  f206 := Tryz.func136.trans (congrArg some (by kernel_rfl))
  f210 := Tryz.func195.trans (congrArg some (by kernel_rfl))
  t3 := Tryz.underlying3
  a3 := Tryz.isAgg3
  z3 := Tryz.sizeOf3
  v3 := Tryz.zeroValue3
  t4 := Tryz.underlying4
  a4 := Tryz.isAgg4
  z4 := Tryz.sizeOf4
  v4 := Tryz.zeroValue4
  t9 := Tryz.underlying9
  a9 := Tryz.isAgg9
  z9 := Tryz.sizeOf9
  v9 := Tryz.zeroValue9
  t24 := Tryz.underlying233
  a24 := Tryz.isAgg233
  z24 := Tryz.sizeOf233
  v24 := Tryz.zeroValue233 }
def Tryz.l143_ren : Go.Shelf.Ren := ⟨fun | 143 => 116 | 219 => 143 | 217 => 153 | 225 => 140 | 224 => 139 | 267 => 156 | 266 => 168 | 314 => 170 | n => n, fun | 9 => 9 | 3 => 3 | 4 => 4 | 5 => 5 | 46 => 106 | 146 => 182 | 51 => 178 | n => n, fun | 1 => 3 | n => n⟩
theorem Tryz.l143 : Go.Proofs.Lays.n143 Tryz.prog Tryz.l143_ren := {
  mixed := by kernel_rfl
  f143 := Tryz.func116.trans (congrArg some (by kernel_rfl))
  f217 := Tryz.func153.trans (congrArg some (by kernel_rfl))
  f219 := Tryz.func143.trans (congrArg some (by kernel_rfl))
  f224 := Tryz.func139.trans (congrArg some (by kernel_rfl))
  f225 := Tryz.func140.trans (congrArg some (by kernel_rfl))
  f266 := Tryz.func168.trans (congrArg some (by kernel_rfl))
  f267 := Tryz.func156.trans (congrArg some (by kernel_rfl))
  f314 := Tryz.func170.trans (congrArg some (by kernel_rfl))
  t3 := Tryz.underlying3
  a3 := Tryz.isAgg3
  z3 := Tryz.sizeOf3
  v3 := Tryz.zeroValue3
  t4 := Tryz.underlying4
  a4 := Tryz.isAgg4
  z4 := Tryz.sizeOf4
  v4 := Tryz.zeroValue4
  t5 := Tryz.underlying5
  a5 := Tryz.isAgg5
  z5 := Tryz.sizeOf5
  v5 := Tryz.zeroValue5
  t9 := Tryz.underlying9
  a9 := Tryz.isAgg9
  z9 := Tryz.sizeOf9
  v9 := Tryz.zeroValue9
  t46 := Tryz.underlying106
  a46 := Tryz.isAgg106
  z46 := Tryz.sizeOf106
  v46 := Tryz.zeroValue106
  t51 := Tryz.underlying178
  a51 := Tryz.isAgg178
  z51 := Tryz.sizeOf178
  v51 := Tryz.zeroValue178
  t146 := Tryz.underlying182
  a146 := Tryz.isAgg182
  z146 := Tryz.sizeOf182
  v146 := Tryz.zeroValue182
  g1 := by kernel_rfl }
def Tryz.l144_ren : Go.Shelf.Ren := ⟨fun | 144 => 88 | 143 => 116 | 219 => 143 | 217 => 153 | 225 => 140 | 224 => 139 | 267 => 156 | 266 => 168 | 314 => 170 | n => n, fun | 9 => 9 | 4 => 4 | 3 => 3 | 5 => 5 | 46 => 106 | 146 => 182 | 51 => 178 | n => n, fun | 1 => 3 | n => n⟩
theorem Tryz.l144 : Go.Proofs.Lays.n144 Tryz.prog Tryz.l144_ren := {
  mixed := by kernel_rfl
  f143 := Tryz.func116.trans (congrArg some (by kernel_rfl))
  f144 := Tryz.func88.trans (congrArg some (by kernel_rfl))
  f217 := Tryz.func153.trans (congrArg some (by kernel_rfl))
  f219 := Tryz.func143.trans (congrArg some (by kernel_rfl))
  f224 := Tryz.func139.trans (congrArg some (by kernel_rfl))
  f225 := Tryz.func140.trans (congrArg some (by kernel_rfl))
  f266 := Tryz.func168.trans (congrArg some (by kernel_rfl))
  f267 := Tryz.func156.trans (congrArg some (by kernel_rfl))
  f314 := Tryz.func170.trans (congrArg some (by kernel_rfl))
  t3 := Tryz.underlying3
  a3 := Tryz.isAgg3
  z3 := Tryz.sizeOf3
  v3 := Tryz.zeroValue3
  t4 := Tryz.underlying4
  a4 := Tryz.isAgg4
  z4 := Tryz.sizeOf4
  v4 := Tryz.zeroValue4
  t5 := Tryz.underlying5
  a5 := Tryz.isAgg5
  z5 := Tryz.sizeOf5
  v5 := Tryz.zeroValue5
  t9 := Tryz.underlying9
  a9 := Tryz.isAgg9
  z9 := Tryz.sizeOf9
  v9 := Tryz.zeroValue9
  t46 := Tryz.underlying106
  a46 := Tryz.isAgg106
  z46 := Tryz.sizeOf106
  v46 := Tryz.zeroValue106
  t51 := Tryz.underlying178
  a51 := Tryz.isAgg178
  z51 := Tryz.sizeOf178
  v51 := Tryz.zeroValue178
  t146 := Tryz.underlying182
  a146 := Tryz.isAgg182
  z146 := Tryz.sizeOf182
  v146 := Tryz.zeroValue182
  g1 := by kernel_rfl }
def Tryz.l99_ren : Go.Shelf.Ren := ⟨fun | 99 => 106 | 206 => 136 | n => n, fun | 9 => 9 | 4 => 4 | 3 => 3 | n => n, fun | n => n⟩
theorem Tryz.l99 : Go.Proofs.Lays.n99 Tryz.prog Tryz.l99_ren := {
  mixed := by kernel_rfl
  f99 := Tryz.func106.trans (congrArg some (by kernel_rfl))
  f206 := Tryz.func136.trans (congrArg some (by kernel_rfl))
  t3 := Tryz.underlying3
  a3 := Tryz.isAgg3
  z3 := Tryz.sizeOf3
  v3 := Tryz.zeroValue3
  t4 := Tryz.underlying4
  a4 := Tryz.isAgg4
  z4 := Tryz.sizeOf4
  v4 := Tryz.zeroValue4
  t9 := Tryz.underlying9
  a9 := Tryz.isAgg9
  z9 := Tryz.sizeOf9
  v9 := Tryz.zeroValue9 }
def Tryz.l119_ren : Go.Shelf.Ren := ⟨fun | 119 => 138 | n => n, fun | 21 => 21 | 4 => 4 | n => n, fun | n => n⟩
theorem Tryz.l119 : Go.Proofs.Lays.n119 Tryz.prog Tryz.l119_ren := {
  mixed := by kernel_rfl
  f119 := Tryz.func138.trans (congrArg some (by kernel_rfl))
  t4 := Tryz.underlying4
  a4 := Tryz.isAgg4
  z4 := Tryz.sizeOf4
  v4 := Tryz.zeroValue4
  t21 := Tryz.underlying21
  a21 := Tryz.isAgg21
  z21 := Tryz.sizeOf21
  v21 := Tryz.zeroValue21 }
end Go.Proofs
