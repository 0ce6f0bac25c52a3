import Derived.Test.YthlgjdadkmpbbaaDoorXAS
import Derived.Test.YthlgjdadkmpbbaaDoorXAT
import Derived.Test.YthlgjdadkmpbbaaDoorXAP
import Derived.Test.YthlgjdadkmpbbaaDoorXAU
namespace Go.Proofs.YthlgjdadkmpbbaaDoor
open Go.RowKit Go.Shelf
def digN (b : Nat) (D : UInt8 → Option Nat) (M : Nat) (l : List UInt8) : Option Nat := if l = [] ∨ M < l.length then none else foldN b D l 0
theorem foldN_lt {b : Nat} {D : UInt8 → Option Nat} (hD : ∀ c d, D c = some d → d < b) (l : List UInt8) (m v : Nat) (h : foldN b D l m = some v) : v < (m + 1) * b ^ l.length := by
  induction l generalizing m with
  | nil => obtain rfl := Option.some.inj h; simp
  | cons c l ih =>
    unfold foldN at h
    cases hd : D c with
    | none => rw [hd] at h; cases h
    | some d =>
      rw [hd] at h
      have h1 := ih _ h
      have h2 := hD c d hd
      have h3 : b * m + d + 1 ≤ (m + 1) * b := by rw [Nat.add_mul, Nat.mul_comm m b]; omega
      calc v < (b * m + d + 1) * b ^ l.length := h1
        _ ≤ ((m + 1) * b) * b ^ l.length := Nat.mul_le_mul_right _ h3
        _ = (m + 1) * b ^ (l.length + 1) := by rw [Nat.pow_succ, Nat.mul_assoc, Nat.mul_comm b]
theorem foldN_lt' {b M : Nat} {D : UInt8 → Option Nat} (hb : 0 < b) (hD : ∀ c d, D c = some d → d < b) {l : List UInt8} {v : Nat} (h : foldN b D l 0 = some v) (hl : l.length ≤ M) : v < b ^ M := by
  have := foldN_lt hD l 0 v h
  rw [Nat.zero_add, Nat.one_mul] at this
  exact Nat.lt_of_lt_of_le this (Nat.pow_le_pow_right hb hl)
/-- the errors of the inner functions, told outside -/
theorem toError_any (l : List UInt8) (base : Int) (r : Value) (w : World) (hs : l.length ≤ 16384) (hv : VW w) (hr : r = .iface 111 (.int .i64 2) ∨ r = .iface 111 (.int .i64 1)) :
    Calls Tryd.prog 70 #[.string ⟨#[80, 97, 114, 115, 101, 85, 105, 110, 116]⟩, .string ⟨l.toArray⟩, .int .i64 base, .int .i64 64, r] w fun e w' => (∃ t p, e = .returned (.iface t p)) ∧ Below w.heap.size w w' := by
  have hz : (ByteArray.mk l.toArray).size = l.length := by simp [ByteArray.size]
  rcases hr with rfl | rfl
  · obtain ⟨tp, p, hp⟩ := hv.syn
    exact (Any.strconv_toError_syntax Tryd.l245 _ ⟨l.toArray⟩ base 64 (.iface tp p) w (by rw [hz]; omega) (by have h0 := World.var?_cell Tryd.l245.m15 hp 0; simpa using h0) (Or.inr ⟨tp, p, rfl⟩)).mono fun e w' ⟨N, he, _, _, hb⟩ => ⟨⟨_, _, he⟩, hb⟩
  · obtain ⟨tp, p, hp⟩ := hv.rng
    exact (Any.strconv_toError_range Tryd.l245 _ ⟨l.toArray⟩ base 64 (.iface tp p) w (by rw [hz]; omega) (by have h0 := World.var?_cell Tryd.l245.m16 hp 0; simpa using h0) (Or.inr ⟨tp, p, rfl⟩)).mono fun e w' ⟨N, he, _, _, hb⟩ => ⟨⟨_, _, he⟩, hb⟩

set_option maxRecDepth 100000 in
theorem pu16_empty (w : World) : Calls Tryd.prog 69 #[.string ⟨#[]⟩, .int .i64 16, .int .i64 64] w fun e w' => e = .returned (.tuple #[.int .u64 0, .iface 111 (.int .i64 2)]) ∧ w' = w := by
  go_enter Tryd.func69, Tryd.ntmps69
  go_wp2_with fail
  go_ret2
  exact ⟨rfl, rfl⟩
theorem pu16_any (l : List UInt8) (w : World) (hs : l.length ≤ 16384) :
    Calls Tryd.prog 69 #[.string ⟨l.toArray⟩, .int .i64 16, .int .i64 64] w fun e w' => (∃ (n : Int) (r : Value), e = .returned (.tuple #[.int .u64 n, r]) ∧ ((r = .nilIface ∧ (l.length ≤ 8 → ∃ v : Nat, n = v ∧ digN 16 hexD 8 l = some v)) ∨ ((r = .iface 111 (.int .i64 2) ∨ r = .iface 111 (.int .i64 1)) ∧ digN 16 hexD 8 l = none))) ∧ Below w.heap.size w w' := by
  by_cases h0 : l = []
  · subst h0
    exact (pu16_empty w).mono fun e w' ⟨he, hw⟩ => ⟨⟨_, _, he, .inr ⟨.inl rfl, if_pos (.inl rfl)⟩⟩, by rw [hw]; exact Below.refl _ _⟩
  · refine (pu16 l w hs h0).mono fun e w' ⟨⟨n, r, he, h⟩, hb⟩ => ⟨⟨n, r, he, ?_⟩, hb⟩
    rcases h with ⟨h1, h2⟩ | ⟨h1, h2⟩
    · refine .inl ⟨h1, fun hl => ?_⟩
      obtain ⟨v, hv, hf⟩ := h2 hl
      refine ⟨v, hv, ?_⟩
      unfold digN
      rw [if_neg (fun h => h.elim h0 (by omega))]
      exact hf
    · refine .inr ⟨h1, ?_⟩
      unfold digN
      split
      · rfl
      · rename_i hc
        exact h2 (by omega)
set_option maxRecDepth 100000 in
theorem parse16_any (l : List UInt8) (w : World) (hs : l.length ≤ 16384) (hv : VW w) :
    Calls Tryd.prog 60 #[.string ⟨l.toArray⟩, .int .i64 16, .int .i64 64] w fun e w' => (∃ (n : Int) (r : Value), e = .returned (.tuple #[.int .u64 n, r]) ∧ ((r = .nilIface ∧ (l.length ≤ 8 → ∃ v : Nat, n = v ∧ digN 16 hexD 8 l = some v)) ∨ ((∃ t p, r = .iface t p) ∧ digN 16 hexD 8 l = none))) ∧ Below w.heap.size w w' := by
  have HV : Hid (VW w) := hv
  have HP := pu16_any l w hs
  clear hv
  go_enter Tryd.func60, Tryd.ntmps60
  go_wp2_with fail
  refine HP.mono ?_
  rintro e w1 ⟨⟨n, r, rfl, hr⟩, hb1⟩
  rcases hr with ⟨rfl, hr⟩ | ⟨hr, hn⟩
  · have HR : Hid (l.length ≤ 8 → ∃ v : Nat, n = v ∧ digN 16 hexD 8 l = some v) := hr
    clear hr
    go_wp2_with fail
    go_ret2
    exact ⟨⟨_, _, rfl, .inl ⟨rfl, HR.out⟩⟩, hb1⟩
  · have HN : Hid (digN 16 hexD 8 l = none) := hn
    have HT := toError_any l 16 r w1 hs (HV.out.below hb1) hr
    clear hn
    rcases hr with rfl | rfl
    · go_wp2_with fail
      refine HT.mono ?_
      rintro e w2 ⟨⟨t, p, rfl⟩, hb2⟩
      go_wp2_with fail
      go_ret2
      exact ⟨⟨_, _, rfl, .inr ⟨⟨_, _, rfl⟩, HN.out⟩⟩, bel0 hb1 hb2⟩
    · go_wp2_with fail
      refine HT.mono ?_
      rintro e w2 ⟨⟨t, p, rfl⟩, hb2⟩
      go_wp2_with fail
      go_ret2
      exact ⟨⟨_, _, rfl, .inr ⟨⟨_, _, rfl⟩, HN.out⟩⟩, bel0 hb1 hb2⟩
set_option maxRecDepth 100000 in
theorem digitsOf16_any (l : List UInt8) (w : World) (hs : l.length ≤ 16384) (hv : VW w) :
    Calls Tryd.prog 49 #[.string ⟨l.toArray⟩, .int .i64 16, .int .i64 8] w fun e w' => (∃ v : Int, e = .returned (.tuple #[.int .i64 v, .bool (digN 16 hexD 8 l).isSome]) ∧ ∀ n, digN 16 hexD 8 l = some n → v = n) ∧ Below w.heap.size w w' := by
  have HP := parse16_any l w hs hv
  clear hv
  go_enter Tryd.func49, Tryd.ntmps49
  go_wp2_with fail
  refine HP.mono ?_
  rintro e w1 ⟨⟨n, r, rfl, hr⟩, hb1⟩
  rcases hr with ⟨rfl, hr⟩ | ⟨⟨t, p, rfl⟩, hn⟩
  · by_cases hl : l.length ≤ 8
    · obtain ⟨v, rfl, hd⟩ := hr hl
      have hlt : v < 16 ^ 8 := by
        unfold digN at hd
        split at hd
        · cases hd
        · exact foldN_lt' (by decide) (fun c d h => hexD_lt h) hd hl
      have hlt2 : v < 4294967296 := hlt
      have HD : Hid (digN 16 hexD 8 l = some v) := hd
      have hw : IntKind.i64.wrap (v : Int) = (v : Int) := by rw [IntKind.wrap_i64]; omega
      have i1 : (l.length : Int) ≤ 8 := by omega
      clear hd hr hlt
      go_wp2_with fail
      go_ret2
      rw [HD.out]
      exact ⟨⟨_, rfl, fun n hn => by injection hn with hn; rw [hn]⟩, hb1⟩
    · have i1 : ¬ (l.length : Int) ≤ 8 := by omega
      have hi1 : Hid (decide ((l.length : Int) ≤ 8) = false) := decide_eq_false i1
      have HD : Hid (digN 16 hexD 8 l = none) := if_pos (.inr (by omega))
      clear hr
      go_wp2_with fail
      go_ret2
      rw [HD.out, hi1.out]
      exact ⟨⟨_, rfl, fun n hn => by cases hn⟩, hb1⟩
  · have HD : Hid (digN 16 hexD 8 l = none) := hn
    clear hn
    go_wp2_with fail
    go_ret2
    rw [HD.out]
    exact ⟨⟨_, rfl, fun n hn => by cases hn⟩, hb1⟩


set_option maxRecDepth 100000 in
theorem pu2_empty (w : World) : Calls Tryd.prog 69 #[.string ⟨#[]⟩, .int .i64 2, .int .i64 64] w fun e w' => e = .returned (.tuple #[.int .u64 0, .iface 111 (.int .i64 2)]) ∧ w' = w := by
  go_enter Tryd.func69, Tryd.ntmps69
  go_wp2_with fail
  go_ret2
  exact ⟨rfl, rfl⟩
theorem pu2_any (l : List UInt8) (w : World) (hs : l.length ≤ 16384) :
    Calls Tryd.prog 69 #[.string ⟨l.toArray⟩, .int .i64 2, .int .i64 64] w fun e w' => (∃ (n : Int) (r : Value), e = .returned (.tuple #[.int .u64 n, r]) ∧ ((r = .nilIface ∧ (l.length ≤ 32 → ∃ v : Nat, n = v ∧ digN 2 binD 32 l = some v)) ∨ ((r = .iface 111 (.int .i64 2) ∨ r = .iface 111 (.int .i64 1)) ∧ digN 2 binD 32 l = none))) ∧ Below w.heap.size w w' := by
  by_cases h0 : l = []
  · subst h0
    exact (pu2_empty w).mono fun e w' ⟨he, hw⟩ => ⟨⟨_, _, he, .inr ⟨.inl rfl, if_pos (.inl rfl)⟩⟩, by rw [hw]; exact Below.refl _ _⟩
  · refine (pu2 l w hs h0).mono fun e w' ⟨⟨n, r, he, h⟩, hb⟩ => ⟨⟨n, r, he, ?_⟩, hb⟩
    rcases h with ⟨h1, h2⟩ | ⟨h1, h2⟩
    · refine .inl ⟨h1, fun hl => ?_⟩
      obtain ⟨v, hv, hf⟩ := h2 hl
      refine ⟨v, hv, ?_⟩
      unfold digN
      rw [if_neg (fun h => h.elim h0 (by omega))]
      exact hf
    · refine .inr ⟨h1, ?_⟩
      unfold digN
      split
      · rfl
      · rename_i hc
        exact h2 (by omega)
set_option maxRecDepth 100000 in
theorem parse2_any (l : List UInt8) (w : World) (hs : l.length ≤ 16384) (hv : VW w) :
    Calls Tryd.prog 60 #[.string ⟨l.toArray⟩, .int .i64 2, .int .i64 64] w fun e w' => (∃ (n : Int) (r : Value), e = .returned (.tuple #[.int .u64 n, r]) ∧ ((r = .nilIface ∧ (l.length ≤ 32 → ∃ v : Nat, n = v ∧ digN 2 binD 32 l = some v)) ∨ ((∃ t p, r = .iface t p) ∧ digN 2 binD 32 l = none))) ∧ Below w.heap.size w w' := by
  have HV : Hid (VW w) := hv
  have HP := pu2_any l w hs
  clear hv
  go_enter Tryd.func60, Tryd.ntmps60
  go_wp2_with fail
  refine HP.mono ?_
  rintro e w1 ⟨⟨n, r, rfl, hr⟩, hb1⟩
  rcases hr with ⟨rfl, hr⟩ | ⟨hr, hn⟩
  · have HR : Hid (l.length ≤ 32 → ∃ v : Nat, n = v ∧ digN 2 binD 32 l = some v) := hr
    clear hr
    go_wp2_with fail
    go_ret2
    exact ⟨⟨_, _, rfl, .inl ⟨rfl, HR.out⟩⟩, hb1⟩
  · have HN : Hid (digN 2 binD 32 l = none) := hn
    have HT := toError_any l 2 r w1 hs (HV.out.below hb1) hr
    clear hn
    rcases hr with rfl | rfl
    · go_wp2_with fail
      refine HT.mono ?_
      rintro e w2 ⟨⟨t, p, rfl⟩, hb2⟩
      go_wp2_with fail
      go_ret2
      exact ⟨⟨_, _, rfl, .inr ⟨⟨_, _, rfl⟩, HN.out⟩⟩, bel0 hb1 hb2⟩
    · go_wp2_with fail
      refine HT.mono ?_
      rintro e w2 ⟨⟨t, p, rfl⟩, hb2⟩
      go_wp2_with fail
      go_ret2
      exact ⟨⟨_, _, rfl, .inr ⟨⟨_, _, rfl⟩, HN.out⟩⟩, bel0 hb1 hb2⟩
set_option maxRecDepth 100000 in
theorem digitsOf2_any (l : List UInt8) (w : World) (hs : l.length ≤ 16384) (hv : VW w) :
    Calls Tryd.prog 49 #[.string ⟨l.toArray⟩, .int .i64 2, .int .i64 32] w fun e w' => (∃ v : Int, e = .returned (.tuple #[.int .i64 v, .bool (digN 2 binD 32 l).isSome]) ∧ ∀ n, digN 2 binD 32 l = some n → v = n) ∧ Below w.heap.size w w' := by
  have HP := parse2_any l w hs hv
  clear hv
  go_enter Tryd.func49, Tryd.ntmps49
  go_wp2_with fail
  refine HP.mono ?_
  rintro e w1 ⟨⟨n, r, rfl, hr⟩, hb1⟩
  rcases hr with ⟨rfl, hr⟩ | ⟨⟨t, p, rfl⟩, hn⟩
  · by_cases hl : l.length ≤ 32
    · obtain ⟨v, rfl, hd⟩ := hr hl
      have hlt : v < 2 ^ 32 := by
        unfold digN at hd
        split at hd
        · cases hd
        · exact foldN_lt' (by decide) (fun c d h => by rcases binD_or h with ⟨_, rfl⟩ | ⟨_, rfl⟩ <;> omega) hd hl
      have hlt2 : v < 4294967296 := hlt
      have HD : Hid (digN 2 binD 32 l = some v) := hd
      have hw : IntKind.i64.wrap (v : Int) = (v : Int) := by rw [IntKind.wrap_i64]; omega
      have i1 : (l.length : Int) ≤ 32 := by omega
      clear hd hr hlt
      go_wp2_with fail
      go_ret2
      rw [HD.out]
      exact ⟨⟨_, rfl, fun n hn => by injection hn with hn; rw [hn]⟩, hb1⟩
    · have i1 : ¬ (l.length : Int) ≤ 32 := by omega
      have hi1 : Hid (decide ((l.length : Int) ≤ 32) = false) := decide_eq_false i1
      have HD : Hid (digN 2 binD 32 l = none) := if_pos (.inr (by omega))
      clear hr
      go_wp2_with fail
      go_ret2
      rw [HD.out, hi1.out]
      exact ⟨⟨_, rfl, fun n hn => by cases hn⟩, hb1⟩
  · have HD : Hid (digN 2 binD 32 l = none) := hn
    clear hn
    go_wp2_with fail
    go_ret2
    rw [HD.out]
    exact ⟨⟨_, rfl, fun n hn => by cases hn⟩, hb1⟩

end Go.Proofs.YthlgjdadkmpbbaaDoor
