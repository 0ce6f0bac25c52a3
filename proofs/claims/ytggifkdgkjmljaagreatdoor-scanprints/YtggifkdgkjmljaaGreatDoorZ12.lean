import Derived.Test.YtggifkdgkjmljaaGreatDoorZ10
import Derived.Test.YtggifkdgkjmljaaGreatDoorZ11
import Derived.Test.YtggifkdgkjmljaaGreatDoorZ3
import Derived.Lib.AtoiErrMem
namespace Go.Proofs.YtggifkdgkjmljaaGreatDoor
open Go.RowKit Go.Shelf
/-- what the texts of numbers need of the world -/
structure VW (w : World) : Prop where
  pow : Lib.TabIs Tryz.prog w "internal/strconv.uint64pow10" .u64 Lib.pow10Tab
  syn : ∃ tp p, w.var? Tryz.prog "strconv.ErrSyntax" = some #[.iface tp p]
  rng : ∃ tp p, w.var? Tryz.prog "strconv.ErrRange" = some #[.iface tp p]
theorem var_below {w W : World} {n : String} {x : Array Value} (h : w.var? Tryz.prog n = some x) (hb : Below w.heap.size w W) : W.var? Tryz.prog n = some x := by
  unfold World.var? at h ⊢
  cases hg : Tryz.prog.globalNamed n with
  | none => rw [hg] at h; cases h
  | some g =>
    rw [hg] at h
    simp only [Option.bind_some] at h ⊢
    cases hw : w.heap[g]? with
    | none => rw [hw] at h; cases h
    | some o => rw [keepblk hb hw]; rw [hw] at h; exact h
theorem VW.below {w W : World} (h : VW w) (hb : Below w.heap.size w W) : VW W := by
  obtain ⟨h1, ⟨t2, p2, h2⟩, ⟨t3, p3, h3⟩⟩ := h
  exact ⟨tab_below h1 hb, ⟨t2, p2, var_below h2 hb⟩, ⟨t3, p3, var_below h3 hb⟩⟩
/-- strconv.Atoi, all ways -/
theorem atoi_any (l : List UInt8) (w : World) (hs : l.length ≤ 16384) (hv : VW w) :
    Calls Tryz.prog 91 #[.string ⟨l.toArray⟩] w fun e w' => (∃ (v : Int) (r : Value), e = .returned (.tuple #[.int .i64 v, r]) ∧ ((Lib.atoiAll l = .ok v ∧ r = .nilIface) ∨ ((∀ u, Lib.atoiAll l ≠ .ok u) ∧ ∃ t p, r = .iface t p))) ∧ Below w.heap.size w w' := by
  have hz : (ByteArray.mk l.toArray).size = l.length := by simp [ByteArray.size]
  cases h : Lib.atoiAll l with
  | ok v =>
    refine (Any.strconv_Atoi_ok Tryz.l172 ⟨l.toArray⟩ (by rw [hz]; omega) v h w).mono fun e w' ⟨he, hw⟩ => ⟨⟨v, .nilIface, he, .inl ⟨rfl, rfl⟩⟩, ?_⟩
    rcases hw with rfl | ⟨t, rfl⟩
    · exact Below.refl _ _
    · exact Lib.bytesWorld_below _ _ _
  | «syntax» =>
    obtain ⟨tp, p, hp⟩ := hv.syn
    exact (Any.strconv_Atoi_syntax_var Tryz.l172 ⟨l.toArray⟩ (by rw [hz]; omega) h tp p w hp).mono fun e w' ⟨N, he, _, _, hb⟩ => ⟨⟨_, _, he, .inr ⟨fun u hu => (by cases hu), ⟨_, _, rfl⟩⟩⟩, hb⟩
  | range =>
    obtain ⟨tp, p, hp⟩ := hv.rng
    exact (Any.strconv_Atoi_range_var Tryz.l172 ⟨l.toArray⟩ (by rw [hz]; omega) h tp p w hp).mono fun e w' ⟨N, he, _, _, hb⟩ => ⟨⟨_, _, he, .inr ⟨fun u hu => (by cases hu), ⟨_, _, rfl⟩⟩⟩, hb⟩
theorem decN_no {l : List UInt8} {m : Nat} (hm : m ≤ 4294967295) (h : ∀ n : Nat, Lib.atoiAll l = .ok (n : Int) → n ≤ m → l = Lib.decDigits n → False) : decN l m = none := by
  cases hd : decN l m with
  | none => rfl
  | some n =>
    obtain ⟨h1, h2⟩ := (decN_iff l m n (by omega)).1 hd
    exact absurd (h n (by rw [h1]; exact atoi_dec n (by omega)) h2 h1) id
set_option maxRecDepth 100000 in
theorem decimalOf_any (l : List UInt8) (m : Nat) (w : World) (hs : l.length ≤ 16384) (hm : m ≤ 4294967295) (hv : VW w) :
    Calls Tryz.prog 82 #[.string ⟨l.toArray⟩, .int .i64 (m : Int)] w fun e w' => (∃ v : Int, e = .returned (.tuple #[.int .i64 v, .bool (decN l m).isSome]) ∧ ∀ n, decN l m = some n → v = n) ∧ Below w.heap.size w w' := by
  have HV : Hid (VW w) := hv
  have HA := atoi_any l w hs hv
  clear hv
  go_enter Tryz.func82, Tryz.ntmps82
  go_wp2_with fail
  refine HA.mono ?_
  rintro e w1 ⟨⟨v, r, rfl, hr⟩, hb1⟩
  rcases hr with ⟨ho, rfl⟩ | ⟨hn, t, p, rfl⟩
  · by_cases h0 : 0 ≤ v
    · by_cases h1 : v ≤ (m : Int)
      · obtain ⟨k, rfl⟩ : ∃ k : Nat, v = k := ⟨v.toNat, by omega⟩
        go_wp2_with fail
        refine (itoa_any k (by omega) w1 (HV.out.below hb1).pow).mono ?_
        rintro e w2 ⟨rfl, hb2⟩
        by_cases hE : Lib.decDigits k = l
        · have hd : Hid (decN l m = some k) := by unfold Hid; rw [decN_iff _ _ _ (by omega), ← hE]; exact ⟨rfl, by omega⟩
          go_wp2
          go_ret2
          rw [hd.out]
          exact ⟨⟨_, rfl, fun n hn => by injection hn with hn; rw [hn]⟩, bel0 hb1 hb2⟩
        · have hd : Hid (decN l m = none) := decN_no hm (fun n a b c => hE (by
            rw [ho] at a
            injection a with a
            have : k = n := by omega
            subst this
            exact c.symm))
          have hE2 : (Lib.decDigits k == l) = false := beq_eq_false_iff_ne.2 hE
          go_wp2
          go_ret2
          rw [hd.out]
          exact ⟨⟨_, rfl, fun n hn => by cases hn⟩, bel0 hb1 hb2⟩
      · have hd : Hid (decN l m = none) := decN_no hm (fun n a b c => by
          rw [ho] at a
          injection a with a
          omega)
        go_wp2
        go_ret2
        rw [hd.out]
        exact ⟨⟨_, rfl, fun n hn => by cases hn⟩, hb1⟩
    · have hd : Hid (decN l m = none) := decN_no hm (fun n a b c => by
        rw [ho] at a
        injection a with a
        omega)
      go_wp2
      go_ret2
      rw [hd.out]
      exact ⟨⟨_, rfl, fun n hn => by cases hn⟩, hb1⟩
  · have hd : Hid (decN l m = none) := decN_no hm (fun n a b c => hn _ a)
    go_wp2
    go_ret2
    rw [hd.out]
    exact ⟨⟨_, rfl, fun n hn => by cases hn⟩, hb1⟩
end Go.Proofs.YtggifkdgkjmljaaGreatDoor
