import Derived.Test.YtdkhdkfjadalpaaDoorH3
import Derived.Test.YtdkhdkfjadalpaaDoorTL
import Derived.Laws.OwnMore
import Derived.Deep.AppendLies
namespace Go.Proofs.YtdkhdkfjadalpaaDoor
open Go.RowKit Go.Shelf
/-- the table of math/bits lies there -/
def DB (w : World) : Prop := TabAt 1 Lib.deBruijn64tab w
theorem DB.below {w W : World} (h : DB w) (hb : Below w.heap.size w W) : DB W := fun j hj => (hb.cell (World.block_lt_of_cell? w _ (h j hj))).trans (h j hj)
theorem tz_any (a : Nat) (ha : a < 18446744073709551616) (w : World) (h : DB w) : Calls Tryd.prog 15 #[.int .u64 (a : Int)] w fun e w' => e = .returned (.int .i64 (cz a : Int)) ∧ w' = w :=
  Any7.bits_TrailingZeros Tryd.l7n27 a ha w (fun _ => h)
theorem len_any (a : Nat) (ha : a < 18446744073709551616) (w : World) : Calls Tryd.prog 16 #[.int .u64 (a : Int)] w fun e w' => e = .returned (.int .i64 (Lib.bitLen a : Int)) ∧ w' = w := by
  have h := Any.bits_Len Tryd.l125 (a : Int) w (by omega) (by omega)
  rw [Int.toNat_natCast] at h
  exact h
/-- a list of texts as cells -/
def stx (L : List (List UInt8)) : List Value := L.map fun t => Value.string ⟨t.toArray⟩
theorem stx_snoc (L : List (List UInt8)) (t : List UInt8) : stx (L ++ [t]) = stx L ++ [Value.string ⟨t.toArray⟩] := by simp [stx]
theorem info_str : (Tryd.prog.info? 9).map (fun i => (i.zero, i.size, i.bytes)) = some (some (.string ⟨#[]⟩), 1, 16) := by kernel_rfl
/-- the texts of a range's prefixes -/
def cov (b lo hi : Nat) : List (List UInt8) := (gr lo hi).map fun p => digL b p.1 p.2
theorem cov_le {b a e : Nat} (h : a ≤ e) : cov b a e = digL b a (fre a e) :: cov b (a + 2 ^ fre a e) e := by unfold cov; rw [gr_le h]; rfl
theorem cov_end {b a e : Nat} (h : ¬ a ≤ e) : cov b a e = [] := by unfold cov; rw [gr_end h]; rfl
theorem bitLen_pos {n : Nat} (h : 0 < n) (h2 : n < 2 ^ 64) : 1 ≤ Lib.bitLen n := by
  obtain ⟨_, b⟩ := bitLen_spec n h h2
  refine Classical.byContradiction (fun hn => ?_)
  rw [show Lib.bitLen n = 0 by omega] at b
  simp at b
  omega
theorem add_wrap (a G : Nat) (h : a + G ≤ 8589934592) : wrap64 ((a : Int) + wrap64 (G : Int)) = ((a + G : Nat) : Int) := by
  rw [w64 (x := (G : Int)) (by omega) (by omega), w64 (by omega) (by omega)]
  omega
theorem add_pow (a F G : Nat) (hG : 2 ^ F = G) (h : a + G ≤ 8589934592) : wrap64 ((a : Int) + wrap64 (2 ^ F)) = ((a + G : Nat) : Int) := by
  rw [pow_cast, hG]
  exact add_wrap a G h
set_option maxRecDepth 100000 in
set_option maxHeartbeats 1000000 in
theorem prefixes_any (b lo hi : Nat) (hb1 : 1 ≤ b) (hb : b ≤ 32) (hh : hi < 2 ^ b) (hl : lo ≤ hi + 1) (w : World) (hdb0 : DB w) :
    Calls Tryd.prog 13 #[.int .i64 (b : Int), .int .i64 (lo : Int), .int .i64 (hi : Int)] w fun e w' => ∃ v, e = .returned v ∧ w'.ownsRow w.heap.size 9 1 v (cov b lo hi).length (stx (cov b lo hi)) ∧ Below w.heap.size w w' := by
  have hp : 2 ^ b ≤ 2 ^ 32 := Nat.pow_le_pow_right (by decide) hb
  obtain ⟨i0, hi0, hz0, hz1, hz2⟩ := info_parts info_str
  have hdb : Hid (DB w) := hdb0
  clear hdb0
  go_enter Tryd.func13, Tryd.ntmps13
  go_wp2_with fail
  go_loopw [1, 7] (fun va v wr => ∃ (a : Nat) (D : List (List UInt8)), va = .int .i64 a ∧ a ≤ hi + 1 ∧ D.length ≤ a ∧ D ++ cov b a hi = cov b lo hi ∧ wr.ownsRow w.heap.size 9 1 v D.length (stx D) ∧ Below w.heap.size w wr) (fun va _ _ => hi + 1 - (intOf va).toNat)
  case atStart => exact ⟨lo, [], rfl, hl, Nat.zero_le _, rfl, World.ownsRow_nil _ _ _ _, Below.refl _ _⟩
  case round =>
    obtain ⟨a, D, rfl, ha, hD, hcov, hown, hB⟩ := hrel
    have hsz := hB.size
    by_cases hle : a ≤ hi
    · have i1 : (a : Int) ≤ (hi : Int) := by omega
      have e1 : IntKind.u64.wrap (a : Int) = (a : Int) := by rw [IntKind.wrap_u64]; omega
      have e2 : IntKind.i64.wrap ((hi : Int) - (a : Int)) = ((hi - a : Nat) : Int) := by rw [IntKind.wrap_i64]; omega
      have e3 : IntKind.i64.wrap (((hi - a : Nat) : Int) + 1) = ((hi - a + 1 : Nat) : Int) := by rw [IntKind.wrap_i64]; omega
      have e4 : IntKind.u64.wrap ((hi - a + 1 : Nat) : Int) = ((hi - a + 1 : Nat) : Int) := by rw [IntKind.wrap_u64]; omega
      have HT := tz_any a (by omega) wr (hdb.out.below hB)
      have HL := fun W => len_any (hi - a + 1) (by omega) W
      have hbl := bitLen_pos (n := hi - a + 1) (by omega) (by omega)
      rw [cov_le hle] at hcov
      have hfp := fre_le (a := a) (e := hi) hle (by omega)
      have hfb : fre a hi ≤ b := (Nat.pow_le_pow_iff_right (a := 2) (by decide)).1 (by omega)
      have hfd : fre a hi = min (cz a) (Lib.bitLen (hi - a + 1) - 1) := rfl
      have hl64 := Lib.bitLen_le (hi - a + 1) 64 (Nat.le_refl _) (by omega)
      obtain ⟨F, hF⟩ : ∃ F, fre a hi = F := ⟨_, rfl⟩
      obtain ⟨C, hC⟩ : ∃ C, cz a = C := ⟨_, rfl⟩
      obtain ⟨L, hL⟩ : ∃ L, Lib.bitLen (hi - a + 1) = L := ⟨_, rfl⟩
      rw [hF] at hcov hfp hfb hfd
      rw [hC] at hfd HT
      rw [hL] at hfd hbl hl64
      simp only [hL] at HL
      have e5 : wrap64 ((L : Int) - 1) = ((L - 1 : Nat) : Int) := by rw [w64 (by omega) (by omega)]; omega
      have e6 : min (C : Int) ((L - 1 : Nat) : Int) = (F : Int) := by rw [hfd]; omega
      obtain ⟨G, hG⟩ : ∃ G, 2 ^ F = G := ⟨_, rfl⟩
      have hpp : 0 < 2 ^ F := Nat.pow_pos (by decide)
      rw [hG] at hcov hfp hpp
      have hag : a + G ≤ 8589934592 := by omega
      have e8 : Hid (wrap64 ((a : Int) + wrap64 (2 ^ F)) = ((a + G : Nat) : Int)) := add_pow a F G hG hag
      clear hG
      have HD := fun W => digits_any b a F hb1 hb hfb (by omega) W
      have hlen : (digL b a F).length = b := digL_len b a F hfb
      obtain ⟨S, hS⟩ : ∃ S, digL b a F = S := ⟨_, rfl⟩
      rw [hS] at hcov
      simp only [hS] at HD
      have HC : Hid ((D ++ [S]) ++ cov b (a + G) hi = cov b lo hi) := by unfold Hid; rw [List.append_assoc]; exact hcov
      obtain ⟨qv, cv, rfl⟩ := shapeP hown
      have P32 : hi ≤ 4294967296 := by omega
      have F32 : F ≤ 32 := Nat.le_trans hfb hb
      clear hcov hC hL hF hS hlen hfd hfb hl64 hbl hh hp
      go_wp2_with fail
      refine HT.mono ?_
      rintro e w1 ⟨rfl, rfl⟩
      go_wp2_with fail
      refine (HL _).mono ?_
      rintro e w2 ⟨rfl, rfl⟩
      go_wp2_with fail
      refine (HD _).mono ?_
      rintro e w3 ⟨rfl, hb3⟩
      have hown3 := owns_below hown hb3
      have hB3 := bel0 hB hb3
      have hs3 := hB3.size
      clear hown hB HT HL HD
      go_wp2_with (at_builtin; refine wpList_append_own _ rfl _ _ 23 rfl w.heap.size 9 i0 _ 1 16 Tryd.underlying23 hi0 hz0 hz1 hz2 rfl (by decide) _ _ _ rfl (hown3.alloc _) ⟨w3.heap.size, 0, none⟩ 1 1 [Value.string ⟨S.toArray⟩] rfl rfl (World.news_of_block (cs := #[.string ⟨S.toArray⟩]) (t := 9) (fr := (0, 0)) (alloc_get _ _)) (by simp [Value.oneCell']) (by unfold maxLen; omega) (by omega) (by simp; omega) ?_; intro v5 w5 oB hg5 _)
      have b5 : Below w.heap.size w w5 := (hB3.alloc hs3 _).grown hg5 (by simp; omega) (fun k e => (hown3.lt k e).1)
      have o5 : w5.ownsRow w.heap.size 9 1 v5 (D ++ [S]).length (stx (D ++ [S])) := by rw [List.length_append, stx_snoc]; exact oB
      clear oB hg5 hown3 hB3
      go_roundw
      case rel => exact ⟨a + G, D ++ [S], by rw [e8.out], by omega, by rw [List.length_append]; simp; omega, HC.out, o5, b5⟩
      case measure => rw [e8.out]; simp [intOf]; omega
    · have i1 : ¬ (a : Int) ≤ (hi : Int) := by omega
      rw [cov_end hle, List.append_nil] at hcov
      have HC : Hid (D = cov b lo hi) := hcov
      clear hcov hh hp
      go_wp2_with fail
      go_ret
      refine ⟨_, rfl, ?_, hB⟩
      rw [← HC.out]
      exact hown
end Go.Proofs.YtdkhdkfjadalpaaDoor
