import Derived.Test.YtkmnonkabekclaaDoorPL
import Derived.Test.YtkmnonkabekclaaDoorPB
import Derived.Test.YtkmnonkabekclaaDoorVI
import Derived.Shelf.Strings.Search2
import Derived.Lib.IndexBytes
import Derived.Test.YtkmnonkabekclaaDoorVL
import Derived.Lib.AtoiErrMem
import Derived.Shelf.Strconv.AtoiAll
import Derived.Shelf.Strconv.ErrVarAll
namespace Go.Proofs.YtkmnonkabekclaaDoor
open Go.RowKit Go.Shelf
theorem ext_takeP (l : List UInt8) (i : Nat) : (ByteArray.mk l.toArray).extract 0 i = ⟨(l.take i).toArray⟩ := ByteArray.ext (by simp)
theorem ext_dropP (l : List UInt8) (i : Nat) : (ByteArray.mk l.toArray).extract i l.length = ⟨(l.drop i).toArray⟩ := ByteArray.ext (by simp; exact List.take_of_length_le (by simp))
set_option maxRecDepth 100000 in
set_option maxHeartbeats 2000000 in
theorem cutS_any (l : List UInt8) (w : World) (hl : l.length ≤ 16384) :
    Calls Tryd.prog 46 #[.string ⟨l.toArray⟩, .string ⟨#[58]⟩] w fun e w' => e = .returned (.tuple #[.string ⟨(Lib.cut l [58]).1.toArray⟩, .string ⟨(Lib.cut l [58]).2.1.toArray⟩, .bool (Lib.cut l [58]).2.2]) ∧ Below w.heap.size w w' := by
  have HI := Any.stringslite_Index_one Tryd.l219 ⟨l.toArray⟩ 58 w
  have hix : Lib.indexByte l 58 = if (pre58 l).length < l.length then ((pre58 l).length : Int) else -1 := by rw [← Lib.index_one, index58]
  replace HI : Calls Tryd.prog 53 #[.string ⟨l.toArray⟩, .string ⟨#[58]⟩] w fun e w' => e = .returned (.int .i64 (Lib.indexByte l 58)) ∧ w' = w := HI
  rw [hix] at HI
  clear hix
  by_cases h : (pre58 l).length < l.length
  · rw [if_pos h] at HI
    have HC : Hid (Lib.cut l [58] = (pre58 l, l.drop ((pre58 l).length + 1), true)) := by rw [cut58, if_pos h]; exact rfl
    rw [HC.out]
    have E1 : Hid ((ByteArray.mk l.toArray).extract 0 (pre58 l).length = ⟨(pre58 l).toArray⟩) := by
      have e := ext_takeP l (pre58 l).length
      rw [pre_take] at e
      exact e
    have E2 : Hid ((ByteArray.mk l.toArray).extract ((pre58 l).length + 1) l.length = ⟨(l.drop ((pre58 l).length + 1)).toArray⟩) := ext_dropP l _
    obtain ⟨i, hi⟩ : ∃ i, (pre58 l).length = i := ⟨_, rfl⟩
    rw [hi] at HI h E1 E2
    have HQ : Hid (∀ W : World, Below w.heap.size w W → (Ending.returned (.tuple #[.string ⟨(pre58 l).toArray⟩, .string ⟨(l.drop (i + 1)).toArray⟩, .bool true]) = Ending.returned (.tuple #[.string ⟨(pre58 l).toArray⟩, .string ⟨(l.drop ((pre58 l).length + 1)).toArray⟩, .bool true]) ∧ Below w.heap.size w W)) := fun W hW => ⟨by rw [hi], hW⟩
    clear HC hi
    have j0 : (0 : Int) ≤ (i : Int) := by omega
    have j1 : (i : Int) ≤ (l.length : Int) := by omega
    obtain ⟨i1, hi1⟩ : ∃ i1 : Nat, i + 1 = i1 := ⟨_, rfl⟩
    have j2 : (i : Int) + 1 = (i1 : Int) := by omega
    have j3 : (0 : Int) ≤ (i1 : Int) := by omega
    have j4 : (i1 : Int) ≤ (l.length : Int) := by omega
    have j5 : IntKind.i64.wrap (i1 : Int) = (i1 : Int) := by rw [IntKind.wrap_i64]; omega
    rw [hi1] at E2 HQ
    clear hi1
    go_enter Tryd.func46, Tryd.ntmps46
    go_wp2_with fail
    refine HI.mono ?_
    rintro e w2 ⟨rfl, hw2⟩
    obtain rfl := hw2.symm
    clear HI
    go_wp2_with fail
    go_quiet (fail)
    go_wp2_with fail
    rw [E1.out, E2.out]
    go_ret3
    exact HQ.out _ (bel_drewZ nq (Below.refl _ _))
  · rw [if_neg h] at HI
    have HC : Hid (Lib.cut l [58] = (l, [], false)) := by rw [cut58, if_neg h]; exact rfl
    rw [HC.out]
    clear HC
    go_enter Tryd.func46, Tryd.ntmps46
    go_wp2_with fail
    refine HI.mono ?_
    rintro e w2 ⟨rfl, hw2⟩
    obtain rfl := hw2.symm
    clear HI
    go_wp2_with fail
    go_ret3
    exact ⟨rfl, Below.refl _ _⟩
theorem cut_anyP (l : List UInt8) (w : World) (hl : l.length ≤ 16384) :
    Calls Tryd.prog 41 #[.string ⟨l.toArray⟩, .string ⟨#[58]⟩] w fun e w' => e = .returned (.tuple #[.string ⟨(Lib.cut l [58]).1.toArray⟩, .string ⟨(Lib.cut l [58]).2.1.toArray⟩, .bool (Lib.cut l [58]).2.2]) ∧ Below w.heap.size w w' := by
  have HC := cutS_any l w hl
  go_enter Tryd.func41, Tryd.ntmps41
  go_wp2_with fail
  refine HC.mono ?_
  rintro e w2 ⟨rfl, b2⟩
  go_wp2_with fail
  go_ret3
  exact ⟨rfl, b2⟩
/-- what the texts of numbers need of the world -/
structure VWP (w : World) : Prop where
  pow : Lib.TabIs Tryd.prog w "internal/strconv.uint64pow10" .u64 Lib.pow10Tab
  syn : ∃ tp p, w.var? Tryd.prog "strconv.ErrSyntax" = some #[.iface tp p]
  rng : ∃ tp p, w.var? Tryd.prog "strconv.ErrRange" = some #[.iface tp p]
theorem var_belowP {w W : World} {n : String} {x : Array Value} (h : w.var? Tryd.prog n = some x) (hb : Below w.heap.size w W) : W.var? Tryd.prog n = some x := by
  unfold World.var? at h ⊢
  cases hg : Tryd.prog.globalNamed n with
  | none => rw [hg] at h; cases h
  | some g =>
    rw [hg] at h
    simp only [Option.bind_some] at h ⊢
    cases hw : w.heap[g]? with
    | none => rw [hw] at h; cases h
    | some o => rw [keepZ hb hw]; rw [hw] at h; exact h
theorem VWP.below {w W : World} (h : VWP w) (hb : Below w.heap.size w W) : VWP W := by
  obtain ⟨h1, ⟨t2, p2, h2⟩, ⟨t3, p3, h3⟩⟩ := h
  exact ⟨tab_belowZ h1 hb, ⟨t2, p2, var_belowP h2 hb⟩, ⟨t3, p3, var_belowP h3 hb⟩⟩
/-- strconv.Atoi, all ways -/
theorem atoi_anyP (l : List UInt8) (w : World) (hs : l.length ≤ 16384) (hv : VWP w) :
    Calls Tryd.prog 42 #[.string ⟨l.toArray⟩] w fun e w' => (∃ (v : Int) (r : Value), e = .returned (.tuple #[.int .i64 v, r]) ∧ ((Lib.atoiAll l = .ok v ∧ r = .nilIface) ∨ ((∀ u, Lib.atoiAll l ≠ .ok u) ∧ ∃ t p, r = .iface t p))) ∧ Below w.heap.size w w' := by
  have hz : (ByteArray.mk l.toArray).size = l.length := by simp [ByteArray.size]
  cases h : Lib.atoiAll l with
  | ok v =>
    refine (Any.strconv_Atoi_ok Tryd.l172 ⟨l.toArray⟩ (by rw [hz]; omega) v h w).mono fun e w' ⟨he, hw⟩ => ⟨⟨v, .nilIface, he, .inl ⟨rfl, rfl⟩⟩, ?_⟩
    rcases hw with rfl | ⟨t, rfl⟩
    · exact Below.refl _ _
    · exact Lib.bytesWorld_below _ _ _
  | «syntax» =>
    obtain ⟨tp, p, hp⟩ := hv.syn
    exact (Any.strconv_Atoi_syntax_var Tryd.l172 ⟨l.toArray⟩ (by rw [hz]; omega) h tp p w hp).mono fun e w' ⟨N, he, _, _, hb⟩ => ⟨⟨_, _, he, .inr ⟨fun u hu => (by cases hu), ⟨_, _, rfl⟩⟩⟩, hb⟩
  | range =>
    obtain ⟨tp, p, hp⟩ := hv.rng
    exact (Any.strconv_Atoi_range_var Tryd.l172 ⟨l.toArray⟩ (by rw [hz]; omega) h tp p w hp).mono fun e w' ⟨N, he, _, _, hb⟩ => ⟨⟨_, _, he, .inr ⟨fun u hu => (by cases hu), ⟨_, _, rfl⟩⟩⟩, hb⟩
end Go.Proofs.YtkmnonkabekclaaDoor
