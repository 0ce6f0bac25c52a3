import Derived.Shelf.Strconv.ToError
import Derived.Shelf.Strconv.ToErrorRange
import Derived.Ground.NamesProg
import Derived.Test.YtggifkdgkjmljaaGreatDoorProg
import Derived.Test.YtggifkdgkjmljaaGreatDoorZ15
import Derived.Test.YtggifkdgkjmljaaGreatDoorZ16
import Derived.Test.YtggifkdgkjmljaaGreatDoorZ12
import Derived.Test.YtggifkdgkjmljaaGreatDoorZ13
import Derived.Test.YtggifkdgkjmljaaGreatDoorZ9
import Derived.Test.YtggifkdgkjmljaaGreatDoorZ5
namespace Go.Proofs
open Go.Shelf
def Tryz.l245_ren : Go.Shelf.Ren := ⟨fun | 245 => 100 | 279 => 108 | 280 => 109 | 281 => 110 | 282 => 111 | 316 => 32 | 171 => 92 | 205 => 114 | 243 => 102 | 246 => 113 | 283 => 115 | 284 => 116 | 285 => 117 | 286 => 118 | 129 => 120 | 317 => 119 | 318 => 121 | 319 => 122 | 320 => 123 | 337 => 124 | 338 => 125 | n => n, fun | 9 => 9 | 3 => 3 | 75 => 116 | 167 => 130 | 4 => 4 | 168 => 132 | 210 => 139 | 37 => 34 | 0 => 0 | 127 => 68 | 145 => 148 | 143 => 146 | 2 => 2 | 171 => 141 | 53 => 114 | 5 => 5 | 173 => 144 | 212 => 150 | 51 => 101 | 20 => 20 | 213 => 151 | 46 => 112 | 232 => 154 | 233 => 155 | 80 => 156 | n => n, fun | 15 => 7 | 16 => 8 | 17 => 9 | 18 => 10 | 19 => 11 | n => n⟩
theorem Tryz.l245 : Go.Proofs.LaysC.n245 Tryz.prog Tryz.l245_ren := {
  mixed := by kernel_rfl
  f129 := Tryz.func120.trans (congrArg some (by kernel_rfl))
  f171 := Tryz.func92.trans (congrArg some (by kernel_rfl))
  f205 := Tryz.func114.trans (congrArg some (by kernel_rfl))
  f243 := Tryz.func102.trans (congrArg some (by kernel_rfl))
  f245 := Tryz.func100.trans (congrArg some (by kernel_rfl))
  f246 := Tryz.func113.trans (congrArg some (by kernel_rfl))
  f279 := Tryz.func108.trans (congrArg some (by kernel_rfl))
  f280 := Tryz.func109.trans (congrArg some (by kernel_rfl))
  f281 := Tryz.func110.trans (congrArg some (by kernel_rfl))
  f282 := Tryz.func111.trans (congrArg some (by kernel_rfl))
  f283 := Tryz.func115.trans (congrArg some (by kernel_rfl))
  f284 := Tryz.func116.trans (congrArg some (by kernel_rfl))
  f285 := Tryz.func117.trans (congrArg some (by kernel_rfl))
  f286 := Tryz.func118.trans (congrArg some (by kernel_rfl))
  f316 := Tryz.func32.trans (congrArg some (by kernel_rfl))
  f317 := Tryz.func119.trans (congrArg some (by kernel_rfl))
  f318 := Tryz.func121.trans (congrArg some (by kernel_rfl))
  f319 := Tryz.func122.trans (congrArg some (by kernel_rfl))
  f320 := Tryz.func123.trans (congrArg some (by kernel_rfl))
  f337 := Tryz.func124.trans (congrArg some (by kernel_rfl))
  f338 := Tryz.func125.trans (congrArg some (by kernel_rfl))
  t0 := Tryz.underlying0
  a0 := Tryz.isAgg0
  z0 := Tryz.sizeOf0
  v0 := Tryz.zeroValue0
  t2 := Tryz.underlying2
  a2 := Tryz.isAgg2
  z2 := Tryz.sizeOf2
  v2 := Tryz.zeroValue2
  t3 := Tryz.underlying3
  a3 := Tryz.isAgg3
  z3 := Tryz.sizeOf3
  v3 := Tryz.zeroValue3
  t4 := Tryz.underlying4
  a4 := Tryz.isAgg4
  z4 := Tryz.sizeOf4
  v4 := Tryz.zeroValue4
  t5 := Tryz.underlying5
  a5 := Tryz.isAgg5
  z5 := Tryz.sizeOf5
  v5 := Tryz.zeroValue5
  t9 := Tryz.underlying9
  a9 := Tryz.isAgg9
  z9 := Tryz.sizeOf9
  v9 := Tryz.zeroValue9
  t20 := Tryz.underlying20
  a20 := Tryz.isAgg20
  z20 := Tryz.sizeOf20
  v20 := Tryz.zeroValue20
  t37 := Tryz.underlying34
  a37 := Tryz.isAgg34
  z37 := Tryz.sizeOf34
  v37 := Tryz.zeroValue34
  t46 := Tryz.underlying112
  a46 := Tryz.isAgg112
  z46 := Tryz.sizeOf112
  v46 := Tryz.zeroValue112
  t51 := Tryz.underlying101
  a51 := Tryz.isAgg101
  z51 := Tryz.sizeOf101
  v51 := Tryz.zeroValue101
  t53 := Tryz.underlying114
  a53 := Tryz.isAgg114
  z53 := Tryz.sizeOf114
  v53 := Tryz.zeroValue114
  t75 := Tryz.underlying116
  a75 := Tryz.isAgg116
  z75 := Tryz.sizeOf116
  v75 := Tryz.zeroValue116
  t127 := Tryz.underlying68
  a127 := Tryz.isAgg68
  z127 := Tryz.sizeOf68
  v127 := Tryz.zeroValue68
  t143 := Tryz.underlying146
  a143 := Tryz.isAgg146
  z143 := Tryz.sizeOf146
  v143 := Tryz.zeroValue146
  t145 := Tryz.underlying148
  a145 := Tryz.isAgg148
  z145 := Tryz.sizeOf148
  v145 := Tryz.zeroValue148
  t167 := Tryz.underlying130
  a167 := Tryz.isAgg130
  z167 := Tryz.sizeOf130
  v167 := Tryz.zeroValue130
  t168 := Tryz.underlying132
  a168 := Tryz.isAgg132
  z168 := Tryz.sizeOf132
  v168 := Tryz.zeroValue132
  t171 := Tryz.underlying141
  a171 := Tryz.isAgg141
  z171 := Tryz.sizeOf141
  v171 := Tryz.zeroValue141
  t173 := Tryz.underlying144
  a173 := Tryz.isAgg144
  z173 := Tryz.sizeOf144
  v173 := Tryz.zeroValue144
  t210 := Tryz.underlying139
  a210 := Tryz.isAgg139
  z210 := Tryz.sizeOf139
  v210 := Tryz.zeroValue139
  t212 := Tryz.underlying150
  a212 := Tryz.isAgg150
  z212 := Tryz.sizeOf150
  v212 := Tryz.zeroValue150
  t213 := Tryz.underlying151
  a213 := Tryz.isAgg151
  z213 := Tryz.sizeOf151
  t232 := Tryz.underlying154
  a232 := Tryz.isAgg154
  z232 := Tryz.sizeOf154
  v232 := Tryz.zeroValue154
  t233 := Tryz.underlying155
  a233 := Tryz.isAgg155
  z233 := Tryz.sizeOf155
  v233 := Tryz.zeroValue155
  g15 := by kernel_rfl
  g16 := by kernel_rfl
  g17 := by kernel_rfl
  g18 := by kernel_rfl
  g19 := by kernel_rfl
  t80 := Tryz.underlying156
  a80 := Tryz.isAgg156
  z80 := Tryz.sizeOf156
  v80 := Tryz.zeroValue156
  i0 := by kernel_rfl
  i2 := by kernel_rfl
  i3 := by kernel_rfl
  i4 := by kernel_rfl
  i5 := by kernel_rfl
  i9 := by kernel_rfl
  i20 := by kernel_rfl
  i37 := by kernel_rfl
  i46 := by kernel_rfl
  i51 := by kernel_rfl
  i53 := by kernel_rfl
  i75 := by kernel_rfl
  i80 := by kernel_rfl
  i127 := by kernel_rfl
  i143 := by kernel_rfl
  i145 := by kernel_rfl
  i167 := by kernel_rfl
  i168 := by kernel_rfl
  i171 := by kernel_rfl
  i173 := by kernel_rfl
  i210 := by kernel_rfl
  i212 := by kernel_rfl
  i232 := by kernel_rfl
  i233 := by kernel_rfl
  m15 := by kernel_rfl
  m16 := by kernel_rfl
  m17 := by kernel_rfl
  m18 := by kernel_rfl
  m19 := by kernel_rfl
  c0 := by kernel_rfl
  c2 := by kernel_rfl
  c3 := by kernel_rfl
  c4 := by kernel_rfl
  c5 := by kernel_rfl
  c9 := by kernel_rfl
  c20 := by kernel_rfl
  c37 := by kernel_rfl
  c46 := by kernel_rfl
  c51 := by kernel_rfl
  c53 := by kernel_rfl
  c75 := by kernel_rfl
  c80 := by kernel_rfl
  c127 := by kernel_rfl
  c143 := by kernel_rfl
  c145 := by kernel_rfl
  c167 := by kernel_rfl
  c168 := by kernel_rfl
  c171 := by kernel_rfl
  c173 := by kernel_rfl
  c210 := by kernel_rfl
  c212 := by kernel_rfl
  c213 := by kernel_rfl
  c232 := by kernel_rfl
  c233 := by kernel_rfl }
end Go.Proofs
namespace Go.Proofs.YtggifkdgkjmljaaGreatDoor
open Go.RowKit Go.Shelf
def digN (b : Nat) (D : UInt8 → Option Nat) (M : Nat) (l : List UInt8) : Option Nat := if l = [] ∨ M < l.length then none else foldN b D l 0
theorem foldN_lt {b : Nat} {D : UInt8 → Option Nat} (hD : ∀ c d, D c = some d → d < b) (l : List UInt8) (m v : Nat) (h : foldN b D l m = some v) : v < (m + 1) * b ^ l.length := by
  induction l generalizing m with
  | nil => obtain rfl := Option.some.inj h; simp
  | cons c l ih =>
    unfold foldN at h
    cases hd : D c with
    | none => rw [hd] at h; cases h
    | some d =>
      rw [hd] at h
      have h1 := ih _ h
      have h2 := hD c d hd
      have h3 : b * m + d + 1 ≤ (m + 1) * b := by rw [Nat.add_mul, Nat.mul_comm m b]; omega
      calc v < (b * m + d + 1) * b ^ l.length := h1
        _ ≤ ((m + 1) * b) * b ^ l.length := Nat.mul_le_mul_right _ h3
        _ = (m + 1) * b ^ (l.length + 1) := by rw [Nat.pow_succ, Nat.mul_assoc, Nat.mul_comm b]
theorem foldN_lt' {b M : Nat} {D : UInt8 → Option Nat} (hb : 0 < b) (hD : ∀ c d, D c = some d → d < b) {l : List UInt8} {v : Nat} (h : foldN b D l 0 = some v) (hl : l.length ≤ M) : v < b ^ M := by
  have := foldN_lt hD l 0 v h
  rw [Nat.zero_add, Nat.one_mul] at this
  exact Nat.lt_of_lt_of_le this (Nat.pow_le_pow_right hb hl)
/-- the errors of the inner functions, told outside -/
theorem toError_any (l : List UInt8) (base : Int) (r : Value) (w : World) (hs : l.length ≤ 16384) (hv : VW w) (hr : r = .iface 130 (.int .i64 2) ∨ r = .iface 130 (.int .i64 1)) :
    Calls Tryz.prog 100 #[.string ⟨#[80, 97, 114, 115, 101, 85, 105, 110, 116]⟩, .string ⟨l.toArray⟩, .int .i64 base, .int .i64 64, r] w fun e w' => (∃ t p, e = .returned (.iface t p)) ∧ Below w.heap.size w w' := by
  have hz : (ByteArray.mk l.toArray).size = l.length := by simp [ByteArray.size]
  rcases hr with rfl | rfl
  · obtain ⟨tp, p, hp⟩ := hv.syn
    exact (Any.strconv_toError_syntax Tryz.l245 _ ⟨l.toArray⟩ base 64 (.iface tp p) w (by rw [hz]; omega) (by have h0 := World.var?_cell Tryz.l245.m15 hp 0; simpa using h0) (Or.inr ⟨tp, p, rfl⟩)).mono fun e w' ⟨N, he, _, _, hb⟩ => ⟨⟨_, _, he⟩, hb⟩
  · obtain ⟨tp, p, hp⟩ := hv.rng
    exact (Any.strconv_toError_range Tryz.l245 _ ⟨l.toArray⟩ base 64 (.iface tp p) w (by rw [hz]; omega) (by have h0 := World.var?_cell Tryz.l245.m16 hp 0; simpa using h0) (Or.inr ⟨tp, p, rfl⟩)).mono fun e w' ⟨N, he, _, _, hb⟩ => ⟨⟨_, _, he⟩, hb⟩

set_option maxRecDepth 100000 in
theorem pu16_empty (w : World) : Calls Tryz.prog 99 #[.string ⟨#[]⟩, .int .i64 16, .int .i64 64] w fun e w' => e = .returned (.tuple #[.int .u64 0, .iface 130 (.int .i64 2)]) ∧ w' = w := by
  go_enter Tryz.func99, Tryz.ntmps99
  go_wp2_with fail
  go_ret2
  exact ⟨rfl, rfl⟩
theorem pu16_any (l : List UInt8) (w : World) (hs : l.length ≤ 16384) :
    Calls Tryz.prog 99 #[.string ⟨l.toArray⟩, .int .i64 16, .int .i64 64] w fun e w' => (∃ (n : Int) (r : Value), e = .returned (.tuple #[.int .u64 n, r]) ∧ ((r = .nilIface ∧ (l.length ≤ 8 → ∃ v : Nat, n = v ∧ digN 16 hexD 8 l = some v)) ∨ ((r = .iface 130 (.int .i64 2) ∨ r = .iface 130 (.int .i64 1)) ∧ digN 16 hexD 8 l = none))) ∧ Below w.heap.size w w' := by
  by_cases h0 : l = []
  · subst h0
    exact (pu16_empty w).mono fun e w' ⟨he, hw⟩ => ⟨⟨_, _, he, .inr ⟨.inl rfl, if_pos (.inl rfl)⟩⟩, by rw [hw]; exact Below.refl _ _⟩
  · refine (pu16 l w hs h0).mono fun e w' ⟨⟨n, r, he, h⟩, hb⟩ => ⟨⟨n, r, he, ?_⟩, hb⟩
    rcases h with ⟨h1, h2⟩ | ⟨h1, h2⟩
    · refine .inl ⟨h1, fun hl => ?_⟩
      obtain ⟨v, hv, hf⟩ := h2 hl
      refine ⟨v, hv, ?_⟩
      unfold digN
      rw [if_neg (fun h => h.elim h0 (by omega))]
      exact hf
    · refine .inr ⟨h1, ?_⟩
      unfold digN
      split
      · rfl
      · rename_i hc
        exact h2 (by omega)
set_option maxRecDepth 100000 in
theorem parse16_any (l : List UInt8) (w : World) (hs : l.length ≤ 16384) (hv : VW w) :
    Calls Tryz.prog 90 #[.string ⟨l.toArray⟩, .int .i64 16, .int .i64 64] w fun e w' => (∃ (n : Int) (r : Value), e = .returned (.tuple #[.int .u64 n, r]) ∧ ((r = .nilIface ∧ (l.length ≤ 8 → ∃ v : Nat, n = v ∧ digN 16 hexD 8 l = some v)) ∨ ((∃ t p, r = .iface t p) ∧ digN 16 hexD 8 l = none))) ∧ Below w.heap.size w w' := by
  have HV : Hid (VW w) := hv
  have HP := pu16_any l w hs
  clear hv
  go_enter Tryz.func90, Tryz.ntmps90
  go_wp2_with fail
  refine HP.mono ?_
  rintro e w1 ⟨⟨n, r, rfl, hr⟩, hb1⟩
  rcases hr with ⟨rfl, hr⟩ | ⟨hr, hn⟩
  · have HR : Hid (l.length ≤ 8 → ∃ v : Nat, n = v ∧ digN 16 hexD 8 l = some v) := hr
    clear hr
    go_wp2_with fail
    go_ret2
    exact ⟨⟨_, _, rfl, .inl ⟨rfl, HR.out⟩⟩, hb1⟩
  · have HN : Hid (digN 16 hexD 8 l = none) := hn
    have HT := toError_any l 16 r w1 hs (HV.out.below hb1) hr
    clear hn
    rcases hr with rfl | rfl
    · go_wp2_with fail
      refine HT.mono ?_
      rintro e w2 ⟨⟨t, p, rfl⟩, hb2⟩
      go_wp2_with fail
      go_ret2
      exact ⟨⟨_, _, rfl, .inr ⟨⟨_, _, rfl⟩, HN.out⟩⟩, bel0 hb1 hb2⟩
    · go_wp2_with fail
      refine HT.mono ?_
      rintro e w2 ⟨⟨t, p, rfl⟩, hb2⟩
      go_wp2_with fail
      go_ret2
      exact ⟨⟨_, _, rfl, .inr ⟨⟨_, _, rfl⟩, HN.out⟩⟩, bel0 hb1 hb2⟩
set_option maxRecDepth 100000 in
theorem digitsOf16_any (l : List UInt8) (w : World) (hs : l.length ≤ 16384) (hv : VW w) :
    Calls Tryz.prog 79 #[.string ⟨l.toArray⟩, .int .i64 16, .int .i64 8] w fun e w' => (∃ v : Int, e = .returned (.tuple #[.int .i64 v, .bool (digN 16 hexD 8 l).isSome]) ∧ ∀ n, digN 16 hexD 8 l = some n → v = n) ∧ Below w.heap.size w w' := by
  have HP := parse16_any l w hs hv
  clear hv
  go_enter Tryz.func79, Tryz.ntmps79
  go_wp2_with fail
  refine HP.mono ?_
  rintro e w1 ⟨⟨n, r, rfl, hr⟩, hb1⟩
  rcases hr with ⟨rfl, hr⟩ | ⟨⟨t, p, rfl⟩, hn⟩
  · by_cases hl : l.length ≤ 8
    · obtain ⟨v, rfl, hd⟩ := hr hl
      have hlt : v < 16 ^ 8 := by
        unfold digN at hd
        split at hd
        · cases hd
        · exact foldN_lt' (by decide) (fun c d h => hexD_lt h) hd hl
      have hlt2 : v < 4294967296 := hlt
      have HD : Hid (digN 16 hexD 8 l = some v) := hd
      have hw : IntKind.i64.wrap (v : Int) = (v : Int) := by rw [IntKind.wrap_i64]; omega
      have i1 : (l.length : Int) ≤ 8 := by omega
      clear hd hr hlt
      go_wp2_with fail
      go_ret2
      rw [HD.out]
      exact ⟨⟨_, rfl, fun n hn => by injection hn with hn; rw [hn]⟩, hb1⟩
    · have i1 : ¬ (l.length : Int) ≤ 8 := by omega
      have hi1 : Hid (decide ((l.length : Int) ≤ 8) = false) := decide_eq_false i1
      have HD : Hid (digN 16 hexD 8 l = none) := if_pos (.inr (by omega))
      clear hr
      go_wp2_with fail
      go_ret2
      rw [HD.out, hi1.out]
      exact ⟨⟨_, rfl, fun n hn => by cases hn⟩, hb1⟩
  · have HD : Hid (digN 16 hexD 8 l = none) := hn
    clear hn
    go_wp2_with fail
    go_ret2
    rw [HD.out]
    exact ⟨⟨_, rfl, fun n hn => by cases hn⟩, hb1⟩


set_option maxRecDepth 100000 in
theorem pu2_empty (w : World) : Calls Tryz.prog 99 #[.string ⟨#[]⟩, .int .i64 2, .int .i64 64] w fun e w' => e = .returned (.tuple #[.int .u64 0, .iface 130 (.int .i64 2)]) ∧ w' = w := by
  go_enter Tryz.func99, Tryz.ntmps99
  go_wp2_with fail
  go_ret2
  exact ⟨rfl, rfl⟩
theorem pu2_any (l : List UInt8) (w : World) (hs : l.length ≤ 16384) :
    Calls Tryz.prog 99 #[.string ⟨l.toArray⟩, .int .i64 2, .int .i64 64] w fun e w' => (∃ (n : Int) (r : Value), e = .returned (.tuple #[.int .u64 n, r]) ∧ ((r = .nilIface ∧ (l.length ≤ 32 → ∃ v : Nat, n = v ∧ digN 2 binD 32 l = some v)) ∨ ((r = .iface 130 (.int .i64 2) ∨ r = .iface 130 (.int .i64 1)) ∧ digN 2 binD 32 l = none))) ∧ Below w.heap.size w w' := by
  by_cases h0 : l = []
  · subst h0
    exact (pu2_empty w).mono fun e w' ⟨he, hw⟩ => ⟨⟨_, _, he, .inr ⟨.inl rfl, if_pos (.inl rfl)⟩⟩, by rw [hw]; exact Below.refl _ _⟩
  · refine (pu2 l w hs h0).mono fun e w' ⟨⟨n, r, he, h⟩, hb⟩ => ⟨⟨n, r, he, ?_⟩, hb⟩
    rcases h with ⟨h1, h2⟩ | ⟨h1, h2⟩
    · refine .inl ⟨h1, fun hl => ?_⟩
      obtain ⟨v, hv, hf⟩ := h2 hl
      refine ⟨v, hv, ?_⟩
      unfold digN
      rw [if_neg (fun h => h.elim h0 (by omega))]
      exact hf
    · refine .inr ⟨h1, ?_⟩
      unfold digN
      split
      · rfl
      · rename_i hc
        exact h2 (by omega)
set_option maxRecDepth 100000 in
theorem parse2_any (l : List UInt8) (w : World) (hs : l.length ≤ 16384) (hv : VW w) :
    Calls Tryz.prog 90 #[.string ⟨l.toArray⟩, .int .i64 2, .int .i64 64] w fun e w' => (∃ (n : Int) (r : Value), e = .returned (.tuple #[.int .u64 n, r]) ∧ ((r = .nilIface ∧ (l.length ≤ 32 → ∃ v : Nat, n = v ∧ digN 2 binD 32 l = some v)) ∨ ((∃ t p, r = .iface t p) ∧ digN 2 binD 32 l = none))) ∧ Below w.heap.size w w' := by
  have HV : Hid (VW w) := hv
  have HP := pu2_any l w hs
  clear hv
  go_enter Tryz.func90, Tryz.ntmps90
  go_wp2_with fail
  refine HP.mono ?_
  rintro e w1 ⟨⟨n, r, rfl, hr⟩, hb1⟩
  rcases hr with ⟨rfl, hr⟩ | ⟨hr, hn⟩
  · have HR : Hid (l.length ≤ 32 → ∃ v : Nat, n = v ∧ digN 2 binD 32 l = some v) := hr
    clear hr
    go_wp2_with fail
    go_ret2
    exact ⟨⟨_, _, rfl, .inl ⟨rfl, HR.out⟩⟩, hb1⟩
  · have HN : Hid (digN 2 binD 32 l = none) := hn
    have HT := toError_any l 2 r w1 hs (HV.out.below hb1) hr
    clear hn
    rcases hr with rfl | rfl
    · go_wp2_with fail
      refine HT.mono ?_
      rintro e w2 ⟨⟨t, p, rfl⟩, hb2⟩
      go_wp2_with fail
      go_ret2
      exact ⟨⟨_, _, rfl, .inr ⟨⟨_, _, rfl⟩, HN.out⟩⟩, bel0 hb1 hb2⟩
    · go_wp2_with fail
      refine HT.mono ?_
      rintro e w2 ⟨⟨t, p, rfl⟩, hb2⟩
      go_wp2_with fail
      go_ret2
      exact ⟨⟨_, _, rfl, .inr ⟨⟨_, _, rfl⟩, HN.out⟩⟩, bel0 hb1 hb2⟩
set_option maxRecDepth 100000 in
theorem digitsOf2_any (l : List UInt8) (w : World) (hs : l.length ≤ 16384) (hv : VW w) :
    Calls Tryz.prog 79 #[.string ⟨l.toArray⟩, .int .i64 2, .int .i64 32] w fun e w' => (∃ v : Int, e = .returned (.tuple #[.int .i64 v, .bool (digN 2 binD 32 l).isSome]) ∧ ∀ n, digN 2 binD 32 l = some n → v = n) ∧ Below w.heap.size w w' := by
  have HP := parse2_any l w hs hv
  clear hv
  go_enter Tryz.func79, Tryz.ntmps79
  go_wp2_with fail
  refine HP.mono ?_
  rintro e w1 ⟨⟨n, r, rfl, hr⟩, hb1⟩
  rcases hr with ⟨rfl, hr⟩ | ⟨⟨t, p, rfl⟩, hn⟩
  · by_cases hl : l.length ≤ 32
    · obtain ⟨v, rfl, hd⟩ := hr hl
      have hlt : v < 2 ^ 32 := by
        unfold digN at hd
        split at hd
        · cases hd
        · exact foldN_lt' (by decide) (fun c d h => by rcases binD_or h with ⟨_, rfl⟩ | ⟨_, rfl⟩ <;> omega) hd hl
      have hlt2 : v < 4294967296 := hlt
      have HD : Hid (digN 2 binD 32 l = some v) := hd
      have hw : IntKind.i64.wrap (v : Int) = (v : Int) := by rw [IntKind.wrap_i64]; omega
      have i1 : (l.length : Int) ≤ 32 := by omega
      clear hd hr hlt
      go_wp2_with fail
      go_ret2
      rw [HD.out]
      exact ⟨⟨_, rfl, fun n hn => by injection hn with hn; rw [hn]⟩, hb1⟩
    · have i1 : ¬ (l.length : Int) ≤ 32 := by omega
      have hi1 : Hid (decide ((l.length : Int) ≤ 32) = false) := decide_eq_false i1
      have HD : Hid (digN 2 binD 32 l = none) := if_pos (.inr (by omega))
      clear hr
      go_wp2_with fail
      go_ret2
      rw [HD.out, hi1.out]
      exact ⟨⟨_, rfl, fun n hn => by cases hn⟩, hb1⟩
  · have HD : Hid (digN 2 binD 32 l = none) := hn
    clear hn
    go_wp2_with fail
    go_ret2
    rw [HD.out]
    exact ⟨⟨_, rfl, fun n hn => by cases hn⟩, hb1⟩

end Go.Proofs.YtggifkdgkjmljaaGreatDoor
namespace Go.Proofs.YtggifkdgkjmljaaGreatDoor
open Go.RowKit Go.Shelf
theorem foldN_mem {b : Nat} {D : UInt8 → Option Nat} {c : UInt8} (hc : D c = none) (l : List UInt8) (h : c ∈ l) (m : Nat) : foldN b D l m = none := by
  induction l generalizing m with
  | nil => cases h
  | cons a l ih =>
    unfold foldN
    cases hd : D a with
    | none => rfl
    | some d =>
      rcases List.mem_cons.1 h with e | e
      · subst e; rw [hc] at hd; cases hd
      · exact ih e _
theorem decN_mem {l : List UInt8} {c : UInt8} (hc : isDig c = false) (h : c ∈ l) (t : Nat) : decN l t = none := by
  unfold decN
  rw [if_neg]
  rintro ⟨_, ha, _⟩
  rw [List.all_eq_true] at ha
  rw [ha c h] at hc
  cases hc
/-- a text behind a prefix of two bytes, of which the second is no digit -/
theorem num_pre {b : Nat} {D : UInt8 → Option Nat} {M : Nat} {l : List UInt8} {x : UInt8} (hx : isDig x = false) (hx2 : x ≠ 46) (hD : D 46 = none) (ht : l.take 2 = [48, x])
    (hn : ¬ 0 ≤ Lib.indexByte l 46 → numN l = if 3 ≤ l.length ∧ l.length ≤ M + 2 then foldN b D (l.drop 2) 0 else decN l 4294967295) : numN l = digN b D M (l.drop 2) := by
  obtain ⟨r, rfl⟩ : ∃ r, l = 48 :: x :: r := by
    match l, ht with
    | [], h => simp at h
    | [_], h => simp at h
    | a :: c :: r, h =>
      simp at h
      exact ⟨r, by rw [h.1, h.2]⟩
  have hd : (48 :: x :: r).drop 2 = r := rfl
  rw [hd] at hn ⊢
  have hxm : x ∈ (48 :: x :: r) := by simp
  by_cases hdot : 0 ≤ Lib.indexByte (48 :: x :: r) 46
  · obtain ⟨i, hi⟩ : ∃ i : Nat, Lib.indexByte (48 :: x :: r) 46 = i := ⟨_, (Int.toNat_of_nonneg hdot).symm⟩
    obtain ⟨h1, h2⟩ := Lib.indexByte_some hi
    have hi2 : 2 ≤ i := by
      match i, h1 with
      | 0, h => simp at h
      | 1, h => simp at h; exact absurd h hx2
      | i + 2, _ => omega
    have hmem : (46 : UInt8) ∈ r := by
      obtain ⟨j, rfl⟩ : ∃ j, i = j + 2 := ⟨i - 2, by omega⟩
      simp only [List.getElem?_cons_succ] at h1
      exact List.mem_of_getElem? h1
    have hL : numN (48 :: x :: r) = none := by
      unfold numN
      rw [if_pos hdot, quadK, hi, if_neg (by omega), show ((i : Int)).toNat = i from Int.toNat_natCast i, decN_mem hx]
      obtain ⟨j, rfl⟩ : ∃ j, i = j + 2 := ⟨i - 2, by omega⟩
      simp
    rw [hL]
    unfold digN
    split
    · rfl
    · exact (foldN_mem hD r hmem 0).symm
  · rw [hn hdot]
    unfold digN
    by_cases hr : r = []
    · rw [if_neg (show ¬ (3 ≤ (48 :: x :: r).length ∧ (48 :: x :: r).length ≤ M + 2) by subst hr; simp), if_pos (.inl hr), decN_mem hx hxm]
    · have hl : 0 < r.length := List.length_pos_iff.2 hr
      by_cases hm : M < r.length
      · rw [if_neg (show ¬ (3 ≤ (48 :: x :: r).length ∧ (48 :: x :: r).length ≤ M + 2) by simp; omega), if_pos (.inr hm), decN_mem hx hxm]
      · rw [if_pos (show 3 ≤ (48 :: x :: r).length ∧ (48 :: x :: r).length ≤ M + 2 by simp; omega), if_neg (fun h => h.elim hr hm)]
theorem num_hex {l : List UInt8} (ht : l.take 2 = [48, 120]) : numN l = digN 16 hexD 8 (l.drop 2) := by
  refine num_pre (by decide) (by decide) (by decide) ht (fun hd => ?_)
  unfold numN
  rw [if_neg hd]
  by_cases h : 3 ≤ l.length ∧ l.length ≤ 8 + 2
  · rw [if_pos h, if_pos ⟨h, ht⟩]
  · rw [if_neg h, if_neg (fun e => h e.1), if_neg (fun e => by rw [ht] at e; exact absurd e.2 (by decide))]
theorem num_bin {l : List UInt8} (ht : l.take 2 = [48, 98]) : numN l = digN 2 binD 32 (l.drop 2) := by
  refine num_pre (by decide) (by decide) (by decide) ht (fun hd => ?_)
  unfold numN
  rw [if_neg hd, if_neg (fun e => by rw [ht] at e; exact absurd e.2 (by decide))]
  by_cases h : 3 ≤ l.length ∧ l.length ≤ 32 + 2
  · rw [if_pos h, if_pos ⟨h, ht⟩]
  · rw [if_neg h, if_neg (fun e => h e.1)]
theorem num_dec {l : List UInt8} (hd : ¬ 0 ≤ Lib.indexByte l 46) (h1 : l.take 2 ≠ [48, 120]) (h2 : l.take 2 ≠ [48, 98]) : numN l = decN l 4294967295 := by
  unfold numN
  rw [if_neg hd, if_neg (fun e => h1 e.2), if_neg (fun e => h2 e.2)]
theorem pre2 (a b : UInt8) (l : List UInt8) : Lib.hasPrefix l [a, b] = decide (l.take 2 = [a, b]) := by
  unfold Lib.hasPrefix
  match l with
  | [] => simp
  | [c] => simp [List.isPrefixOf]
  | c :: d :: r =>
    simp only [List.isPrefixOf, List.take_succ_cons, List.take_zero, Bool.and_true]
    by_cases h1 : a = c
    · by_cases h2 : b = d
      · subst h1 h2; simp
      · simp [h1, h2, Ne.symm h2]
    · simp [h1, Ne.symm h1]
theorem cut_any (a b : UInt8) (l : List UInt8) (w : World) : Calls Tryz.prog 78 #[.string ⟨l.toArray⟩, .string ⟨#[a, b]⟩] w fun e w' => e = .returned (.tuple #[.string ⟨(if l.take 2 = [a, b] then l.drop 2 else l).toArray⟩, .bool (decide (l.take 2 = [a, b]))]) ∧ w' = w := by
  have h := Any.strings_CutPrefix Tryz.l103 ⟨l.toArray⟩ ⟨#[a, b]⟩ w
  refine h.mono fun e w' ⟨he, hw⟩ => ⟨?_, hw⟩
  rw [he]
  show Ending.returned (.tuple #[.string ⟨(Lib.trimPrefix l [a, b]).toArray⟩, .bool (Lib.hasPrefix l [a, b])]) = _
  unfold Lib.trimPrefix
  rw [pre2]
  by_cases ht : l.take 2 = [a, b]
  · rw [if_pos (decide_eq_true ht), if_pos ht]; rfl
  · rw [if_neg (by simpa using ht), if_neg ht]
end Go.Proofs.YtggifkdgkjmljaaGreatDoor
namespace Go.Proofs.YtggifkdgkjmljaaGreatDoor
open Go.RowKit Go.Shelf
theorem contains_dot (l : List UInt8) (w : World) : Calls Tryz.prog 80 #[.string ⟨l.toArray⟩, .string ⟨#[46]⟩] w fun e w' => e = .returned (.bool (decide (0 ≤ Lib.indexByte l 46))) ∧ w' = w := Any.strings_Contains_one Tryz.l144 ⟨l.toArray⟩ 46 w
set_option maxRecDepth 100000 in
theorem valueOf_any (l : List UInt8) (w : World) (hs : l.length ≤ 16384) (hv0 : VW w) :
    Calls Tryz.prog 64 #[.string ⟨l.toArray⟩] w fun e w' => (∃ v : Int, e = .returned (.tuple #[.int .i64 v, .bool (numN l).isSome]) ∧ ∀ n, numN l = some n → v = n) ∧ Below w.heap.size w w' := by
  have hv : Hid (VW w) := hv0
  clear hv0
  have HC1 := cut_any 48 120 l w
  have HC2 := cut_any 48 98 l w
  by_cases h1 : l.take 2 = [48, 120]
  · rw [if_pos h1, decide_eq_true h1] at HC1
    have HD := digitsOf16_any (l.drop 2) w (by simp; omega) hv.out
    rw [← num_hex h1] at HD
    clear HC2 h1
    obtain ⟨N, hN⟩ : ∃ N, numN l = N := ⟨_, rfl⟩
    rw [hN] at HD ⊢
    go_enter Tryz.func64, Tryz.ntmps64
    go_wp2_with fail
    refine HC1.mono ?_
    rintro e w1 ⟨rfl, rfl⟩
    go_wp2_with fail
    refine HD.mono ?_
    rintro e w2 ⟨⟨v, rfl, hvn⟩, hb⟩
    have HVN : Hid (∀ n, N = some n → v = n) := hvn
    clear hvn
    go_wp2_with fail
    go_ret2
    exact ⟨⟨v, rfl, HVN.out⟩, hb⟩
  · rw [if_neg h1, decide_eq_false h1] at HC1
    by_cases h2 : l.take 2 = [48, 98]
    · rw [if_pos h2, decide_eq_true h2] at HC2
      have HD := digitsOf2_any (l.drop 2) w (by simp; omega) hv.out
      rw [← num_bin h2] at HD
      clear h1 h2
      obtain ⟨N, hN⟩ : ∃ N, numN l = N := ⟨_, rfl⟩
      rw [hN] at HD ⊢
      go_enter Tryz.func64, Tryz.ntmps64
      go_wp2_with fail
      refine HC1.mono ?_
      rintro e w1 ⟨rfl, rfl⟩
      go_wp2_with fail
      refine HC2.mono ?_
      rintro e w1 ⟨rfl, rfl⟩
      go_wp2_with fail
      refine HD.mono ?_
      rintro e w2 ⟨⟨v, rfl, hvn⟩, hb⟩
      have HVN : Hid (∀ n, N = some n → v = n) := hvn
      clear hvn
      go_wp2_with fail
      go_ret2
      exact ⟨⟨v, rfl, HVN.out⟩, hb⟩
    · rw [if_neg h2, decide_eq_false h2] at HC2
      have HK := contains_dot l w
      by_cases h3 : 0 ≤ Lib.indexByte l 46
      · rw [decide_eq_true h3] at HK
        have HD := quadOf_any l w hs hv.out
        have e0 : numN l = quadK 3 0 l := if_pos h3
        rw [← e0] at HD
        clear h1 h2 h3 e0
        obtain ⟨N, hN⟩ : ∃ N, numN l = N := ⟨_, rfl⟩
        rw [hN] at HD ⊢
        go_enter Tryz.func64, Tryz.ntmps64
        go_wp2_with fail
        refine HC1.mono ?_
        rintro e w1 ⟨rfl, rfl⟩
        go_wp2_with fail
        refine HC2.mono ?_
        rintro e w1 ⟨rfl, rfl⟩
        go_wp2_with fail
        refine HK.mono ?_
        rintro e w1 ⟨rfl, rfl⟩
        go_wp2_with fail
        refine HD.mono ?_
        rintro e w2 ⟨⟨v, rfl, hvn⟩, hb⟩
        have HVN : Hid (∀ n, N = some n → v = n) := hvn
        clear hvn
        go_wp2_with fail
        go_ret2
        exact ⟨⟨v, rfl, HVN.out⟩, hb⟩
      · rw [decide_eq_false h3] at HK
        have HD := decimalOf_any l 4294967295 w hs (by omega) hv.out
        rw [← num_dec h3 h1 h2] at HD
        clear h1 h2 h3
        obtain ⟨N, hN⟩ : ∃ N, numN l = N := ⟨_, rfl⟩
        rw [hN] at HD ⊢
        go_enter Tryz.func64, Tryz.ntmps64
        go_wp2_with fail
        refine HC1.mono ?_
        rintro e w1 ⟨rfl, rfl⟩
        go_wp2_with fail
        refine HC2.mono ?_
        rintro e w1 ⟨rfl, rfl⟩
        go_wp2_with fail
        refine HK.mono ?_
        rintro e w1 ⟨rfl, rfl⟩
        go_wp2_with fail
        refine HD.mono ?_
        rintro e w2 ⟨⟨v, rfl, hvn⟩, hb⟩
        have HVN : Hid (∀ n, N = some n → v = n) := hvn
        clear hvn
        go_wp2_with fail
        go_ret2
        exact ⟨⟨v, rfl, HVN.out⟩, hb⟩
set_option maxRecDepth 100000 in
theorem value_any (l : List UInt8) (w : World) (hm : l.length ≤ 281474976710656) (hv0 : VW w) :
    Calls Tryz.prog 58 #[.string ⟨l.toArray⟩] w fun e w' => e = .returned (.tuple #[.int .i64 (valV l), .int .i64 (valE l)]) ∧ Below w.heap.size w w' := by
  have hv : Hid (VW w) := hv0
  clear hv0
  by_cases hs : 16384 < l.length
  · have e1 : Hid (valV l = 0) := if_pos hs
    have e2 : Hid (valE l = 2) := if_pos hs
    have i1 : (16384 : Int) < (l.length : Int) := by omega
    go_enter Tryz.func58, Tryz.ntmps58
    go_wp2_with fail
    go_ret2
    exact ⟨by rw [e1.out, e2.out]; rfl, Below.refl _ _⟩
  · have i1 : ¬ (16384 : Int) < (l.length : Int) := by omega
    have HN := valueOf_any l w (by omega) hv.out
    cases hn : numN l with
    | none =>
      have e1 : Hid (valV l = 0) := by unfold Hid valV; rw [if_neg hs, hn]
      have e2 : Hid (valE l = 31) := by unfold Hid valE; rw [if_neg hs, hn]
      rw [hn] at HN
      simp only [Option.isSome_none] at HN
      clear hn
      go_enter Tryz.func58, Tryz.ntmps58
      go_wp2_with fail
      refine HN.mono ?_
      rintro e w1 ⟨⟨v, rfl, _⟩, hb1⟩
      go_wp2_with fail
      go_ret2
      exact ⟨by rw [e1.out, e2.out]; rfl, hb1⟩
    | some n =>
      have e1 : Hid (valV l = n) := by unfold Hid valV; rw [if_neg hs, hn]
      have e2 : Hid (valE l = 0) := by unfold Hid valE; rw [if_neg hs, hn]
      rw [hn] at HN
      simp only [Option.isSome_some] at HN
      clear hn
      go_enter Tryz.func58, Tryz.ntmps58
      go_wp2_with fail
      refine HN.mono ?_
      rintro e w1 ⟨⟨v, rfl, hvn⟩, hb1⟩
      obtain rfl := hvn n rfl
      clear hvn
      go_wp2_with fail
      go_ret2
      exact ⟨by rw [e1.out, e2.out]; rfl, hb1⟩
theorem val_1F : valV [48, 120, 49, 70] = 31 ∧ valE [48, 120, 49, 70] = 0 := by
  have h : numN [48, 120, 49, 70] = some 31 := by rw [num_hex rfl]; decide
  constructor
  · unfold valV; rw [if_neg (by decide), h]; rfl
  · unfold valE; rw [if_neg (by decide), h]
end Go.Proofs.YtggifkdgkjmljaaGreatDoor
namespace Go.Proofs.YtggifkdgkjmljaaGreatDoor
open Go.RowKit Go.Shelf
/-- the bytes from a up to b -/
def subL (l : List UInt8) (a b : Nat) : List UInt8 := (l.drop a).take (b - a)
theorem ext_sub (l : List UInt8) (a b : Nat) : (ByteArray.mk l.toArray).extract a b = ⟨(subL l a b).toArray⟩ := ByteArray.ext (by simp [subL, List.take_drop])
theorem subL_len (l : List UInt8) (a b : Nat) : (subL l a b).length ≤ l.length := by unfold subL; simp; omega
/-- a pattern's digit -/
def is01x (c : UInt8) : Bool := c == 48 || c == 49 || c == 120
/-- why what was cut out as a token of that kind is none -/
def faultE (kind : Nat) (t : List UInt8) : Nat :=
  if kind = 2 ∨ kind = 3 then (if (parts t).any (fun n => decide (24 < n.length)) then 36 else 0)
  else if kind = 4 then (valE t).toNat
  else if kind = 5 then (if t.drop 1 = [] ∨ 32 < (t.drop 1).length ∨ (t.drop 1).all is01x = false then 44 else 0)
  else if kind = 7 then (if t = [] then 30 else 0) else 0
/-- the contract of faultOf, in all later worlds -/
def FOK (w0 : World) : Prop := ∀ (kind : Nat) (t : List UInt8) (W : World), 2 ≤ kind → kind ≤ 7 → (kind = 5 → t ≠ []) → t.length ≤ 16384 → Below w0.heap.size w0 W →
  Calls Tryz.prog 55 #[.int .i64 (kind : Int), .string ⟨t.toArray⟩] W fun e w' => e = .returned (.int .i64 (faultE kind t : Int)) ∧ Below W.heap.size W w'
theorem faultE_lt (kind : Nat) (t : List UInt8) : faultE kind t < 1000 := by
  unfold faultE valE
  repeat' split
  all_goals omega
/-- the state behind a token that was cut out whole -/
def wholeR (X : MX) (now fst line head : Nat) (D : List Tok) (kind : Nat) (t : List UInt8) (e : Ending) (w' : World) : Prop :=
  e = .returned (.int .i64 (faultE kind t : Int)) ∧ ∃ v', MS X w' (if faultE kind t = 0 then now else fst) fst line head v' (if faultE kind t = 0 then D ++ [(kind, t, line, fst - head + 1)] else D)
set_option maxRecDepth 100000 in
set_option maxHeartbeats 2000000 in
theorem whole_any {X : MX} (hC : MC X) (hF : FOK X.w0) {W : World} {now fst line head : Nat} {v : Value} {D : List Tok} (h : MS X W now fst line head v D) {i j : Nat} (hi : AT X.l fst i) (hj : AT X.l now j) (hij : i ≤ j) (hjl : j ≤ X.l.length) (hh : head ≤ fst) (hD : D.length ≤ 65536) (kind : Nat) (k2 : 2 ≤ kind) (k7 : kind ≤ 7) (k5 : kind = 5 → i < j) :
    Calls Tryz.prog 47 #[.pointer (some ⟨X.b, 0, none⟩), .int .i64 (kind : Int)] W fun e w' => wholeR X now fst line head D kind (subL X.l i j) e w' := by
  have hM : Hid (MS X W now fst line head v D) := h
  have hc0 := h.c0
  have hc1 := h.c1
  have hc2 := h.c2
  have hc3 := h.c3
  have hxi := h.ca hC hi (by omega)
  have hxj := h.ca hC hj hjl
  have hli := hi.lt
  have hlj := hj.lt
  have hlen := hC.len
  have hle := hi.le
  have n0 : (0 : Int) ≤ (now : Int) := by omega
  have n1 : (now : Int) < ((chars X.l 0).length : Int) := by omega
  have n2 : (0 : Int) ≤ (fst : Int) := by omega
  have n3 : (fst : Int) < ((chars X.l 0).length : Int) := by omega
  have p0 : (0 : Int) ≤ (i : Int) := by omega
  have p1 : (i : Int) ≤ (j : Int) := by omega
  have p2 : (j : Int) ≤ (X.l.length : Int) := by omega
  have hT := ext_sub X.l i j
  obtain ⟨T, hTT⟩ : ∃ T, subL X.l i j = T := ⟨_, rfl⟩
  have hTl : T.length ≤ 16384 := by rw [← hTT]; have := subL_len X.l i j; omega
  have hT5 : kind = 5 → T ≠ [] := fun hk e => by
    have := k5 hk
    have h1 := congrArg List.length (hTT.trans e)
    unfold subL at h1
    simp at h1
    omega
  rw [hTT] at hT ⊢
  have HF : Hid (∀ W', Below X.w0.heap.size X.w0 W' → Calls Tryz.prog 55 #[.int .i64 (kind : Int), .string ⟨T.toArray⟩] W' fun e w' => e = .returned (.int .i64 (faultE kind T : Int)) ∧ Below W'.heap.size W' w') := fun W' hW => hF kind T W' k2 k7 hT5 hTl hW
  have HH : Hid (∀ W', MS X W' now fst line head v D → Calls Tryz.prog 51 #[.pointer (some ⟨X.b, 0, none⟩), .int .i64 (kind : Int), .string ⟨T.toArray⟩, .int .i64 (fst : Int)] W' fun e w' => e = .returned (.tuple #[]) ∧ ∃ v', MS X w' now fst line head v' (D ++ [(kind, T, line, fst - head + 1)])) := fun W' h' => hand_any hC h' kind T fst hh (by omega) hD
  have hfl := faultE_lt kind T
  obtain ⟨f, hf⟩ : ∃ f, faultE kind T = f := ⟨_, rfl⟩
  unfold wholeR
  rw [hf] at HF hfl ⊢
  have hCC : Hid (MC X) := hC
  clear h hi hj hF hTT hC hf hT5 k5
  by_cases f0 : f = 0
  · subst f0
    rw [if_pos rfl, if_pos rfl]
    go_enter Tryz.func47, Tryz.ntmps47
    go_wp2_with fail
    go_quiet (fail)
    go_wp2_with fail
    refine (HF.out _ (by exact (hM.out.drewN _).bel)).mono ?_
    rintro e w1 ⟨rfl, hb1⟩
    have m1 := (hM.out.drewN _).below hb1
    have m3 := m1.c3
    go_wp2_with fail
    refine (HH.out _ m1).mono ?_
    rintro e w2 ⟨rfl, v2, m2⟩
    go_wp2_with fail
    go_ret
    exact ⟨rfl, v2, m2⟩
  · have e0 : ((f : Int) == 0) = false := by rw [beq_eq_false_iff_ne]; omega
    have e1 : ((f : Int) != 0) = true := by rw [bne, e0]; rfl
    rw [if_neg f0, if_neg f0]
    go_enter Tryz.func47, Tryz.ntmps47
    go_wp2_with fail
    go_quiet (fail)
    go_wp2_with fail
    refine (HF.out _ (by exact (hM.out.drewN _).bel)).mono ?_
    rintro e w1 ⟨rfl, hb1⟩
    have m1 := (hM.out.drewN _).below hb1
    have m3 := m1.c3
    have m2 := m1.c2
    have f2 := m1.fz 2
    go_wp2_with fail
    go_ret
    exact ⟨rfl, v, m1.setNow hCC.out fst rfl⟩
end Go.Proofs.YtggifkdgkjmljaaGreatDoor
namespace Go.Proofs.YtggifkdgkjmljaaGreatDoor
open Go.RowKit Go.Shelf
/-- a token, as anybody may write one -/
abbrev ITok := Int × List UInt8 × Int × Int
def icel (t : ITok) : List Value := [.int .i64 t.1, .string ⟨t.2.1.toArray⟩, .int .i64 t.2.2.1, .int .i64 t.2.2.2]
def iagg (t : ITok) : Value := .agg (icel t).toArray
/-- is a token like the wanted one -/
def likeB (t u : ITok) : Bool := (u.1 == 0 || u.1 == t.1) && (u.2.1 == [] || u.2.1 == t.2.1)
set_option maxRecDepth 100000 in
set_option maxHeartbeats 2000000 in
theorem isLike_any (t u : ITok) (w : World) : Calls Tryz.prog 14 #[iagg t, iagg u] w fun e w' => e = .returned (.bool (likeB t u)) ∧ Below w.heap.size w w' := by
  obtain ⟨a, b, c, d⟩ := t
  obtain ⟨e, f, g, h⟩ := u
  show Calls Tryz.prog 14 #[.agg #[.int .i64 a, .string ⟨b.toArray⟩, .int .i64 c, .int .i64 d], .agg #[.int .i64 e, .string ⟨f.toArray⟩, .int .i64 g, .int .i64 h]] w _
  by_cases e1 : e = 0
  · subst e1
    by_cases f1 : f = []
    · have y1 : (f == []) = true := beq_iff_eq.2 f1
      have hr : Hid (likeB (a, b, c, d) (0, f, g, h) = true) := by unfold Hid likeB; simp [f1]
      subst f1
      go_enter Tryz.func14, Tryz.ntmps14
      go_wp2_with fail
      go_ret
      exact ⟨by rw [hr.out]; rfl, ((Below.refl _ _).alloc (Nat.le_refl _) _).alloc (by simp) _⟩
    · have y1 : (f == []) = false := beq_eq_false_iff_ne.2 f1
      by_cases f2 : f = b
      · have y0 : (f == f) = true := beq_self_eq_true f
        have hr : Hid (likeB (a, b, c, d) (0, f, g, h) = true) := by unfold Hid likeB; simp [f2]
        subst f2
        go_enter Tryz.func14, Tryz.ntmps14
        go_wp2_with fail
        go_ret
        exact ⟨by rw [hr.out]; rfl, ((Below.refl _ _).alloc (Nat.le_refl _) _).alloc (by simp) _⟩
      · have y2 : (f == b) = false := beq_eq_false_iff_ne.2 f2
        have hr : Hid (likeB (a, b, c, d) (0, f, g, h) = false) := by unfold Hid likeB; simp [f1, f2]
        go_enter Tryz.func14, Tryz.ntmps14
        go_wp2_with fail
        go_ret
        exact ⟨by rw [hr.out]; rfl, ((Below.refl _ _).alloc (Nat.le_refl _) _).alloc (by simp) _⟩
  · have x1 : (e == 0) = false := beq_eq_false_iff_ne.2 e1
    by_cases e2 : e = a
    · subst e2
      by_cases f1 : f = []
      · have y1 : (f == []) = true := beq_iff_eq.2 f1
        have hr : Hid (likeB (e, b, c, d) (e, f, g, h) = true) := by unfold Hid likeB; simp [f1]
        subst f1
        go_enter Tryz.func14, Tryz.ntmps14
        go_wp2_with fail
        go_ret
        exact ⟨by rw [hr.out]; rfl, ((Below.refl _ _).alloc (Nat.le_refl _) _).alloc (by simp) _⟩
      · have y1 : (f == []) = false := beq_eq_false_iff_ne.2 f1
        by_cases f2 : f = b
        · have y0 : (f == f) = true := beq_self_eq_true f
          have hr : Hid (likeB (e, b, c, d) (e, f, g, h) = true) := by unfold Hid likeB; simp [f2]
          subst f2
          go_enter Tryz.func14, Tryz.ntmps14
          go_wp2_with fail
          go_ret
          exact ⟨by rw [hr.out]; rfl, ((Below.refl _ _).alloc (Nat.le_refl _) _).alloc (by simp) _⟩
        · have y2 : (f == b) = false := beq_eq_false_iff_ne.2 f2
          have hr : Hid (likeB (e, b, c, d) (e, f, g, h) = false) := by unfold Hid likeB; simp [f1, f2]
          go_enter Tryz.func14, Tryz.ntmps14
          go_wp2_with fail
          go_ret
          exact ⟨by rw [hr.out]; rfl, ((Below.refl _ _).alloc (Nat.le_refl _) _).alloc (by simp) _⟩
    · have x2 : (e == a) = false := beq_eq_false_iff_ne.2 e2
      have hr : Hid (likeB (a, b, c, d) (e, f, g, h) = false) := by unfold Hid likeB; simp [e1, e2]
      go_enter Tryz.func14, Tryz.ntmps14
      go_wp2_with fail
      go_ret
      exact ⟨by rw [hr.out]; rfl, ((Below.refl _ _).alloc (Nat.le_refl _) _).alloc (by simp) _⟩
/-- the pairs between which no space is written -/
abbrev joinedT : List (ITok × ITok) := [((0, [], 0, 0), (1, [], 0, 0)), ((1, [], 0, 0), (0, [], 0, 0)), ((0, [40], 0, 0), (0, [], 0, 0)), ((0, [47], 0, 0), (0, [], 0, 0)), ((0, [46, 46], 0, 0), (0, [], 0, 0)), ((0, [58], 0, 0), (0, [], 0, 0)), ((0, [], 0, 0), (0, [41], 0, 0)), ((0, [], 0, 0), (0, [44], 0, 0)), ((0, [], 0, 0), (0, [47], 0, 0)), ((0, [], 0, 0), (0, [46, 46], 0, 0)), ((0, [], 0, 0), (0, [58], 0, 0)), ((0, [33], 0, 0), (2, [], 0, 0)), ((0, [33], 0, 0), (0, [40], 0, 0)), ((0, [33], 0, 0), (0, [33], 0, 0))]
abbrev joinedC : Array Value := #[.int .i64 0, .string ⟨#[]⟩, .int .i64 0, .int .i64 0, .int .i64 1, .string ⟨#[]⟩, .int .i64 0, .int .i64 0, .int .i64 1, .string ⟨#[]⟩, .int .i64 0, .int .i64 0, .int .i64 0, .string ⟨#[]⟩, .int .i64 0, .int .i64 0, .int .i64 0, .string ⟨#[40]⟩, .int .i64 0, .int .i64 0, .int .i64 0, .string ⟨#[]⟩, .int .i64 0, .int .i64 0, .int .i64 0, .string ⟨#[47]⟩, .int .i64 0, .int .i64 0, .int .i64 0, .string ⟨#[]⟩, .int .i64 0, .int .i64 0, .int .i64 0, .string ⟨#[46, 46]⟩, .int .i64 0, .int .i64 0, .int .i64 0, .string ⟨#[]⟩, .int .i64 0, .int .i64 0, .int .i64 0, .string ⟨#[58]⟩, .int .i64 0, .int .i64 0, .int .i64 0, .string ⟨#[]⟩, .int .i64 0, .int .i64 0, .int .i64 0, .string ⟨#[]⟩, .int .i64 0, .int .i64 0, .int .i64 0, .string ⟨#[41]⟩, .int .i64 0, .int .i64 0, .int .i64 0, .string ⟨#[]⟩, .int .i64 0, .int .i64 0, .int .i64 0, .string ⟨#[44]⟩, .int .i64 0, .int .i64 0, .int .i64 0, .string ⟨#[]⟩, .int .i64 0, .int .i64 0, .int .i64 0, .string ⟨#[47]⟩, .int .i64 0, .int .i64 0, .int .i64 0, .string ⟨#[]⟩, .int .i64 0, .int .i64 0, .int .i64 0, .string ⟨#[46, 46]⟩, .int .i64 0, .int .i64 0, .int .i64 0, .string ⟨#[]⟩, .int .i64 0, .int .i64 0, .int .i64 0, .string ⟨#[58]⟩, .int .i64 0, .int .i64 0, .int .i64 0, .string ⟨#[33]⟩, .int .i64 0, .int .i64 0, .int .i64 2, .string ⟨#[]⟩, .int .i64 0, .int .i64 0, .int .i64 0, .string ⟨#[33]⟩, .int .i64 0, .int .i64 0, .int .i64 0, .string ⟨#[40]⟩, .int .i64 0, .int .i64 0, .int .i64 0, .string ⟨#[33]⟩, .int .i64 0, .int .i64 0, .int .i64 0, .string ⟨#[33]⟩, .int .i64 0, .int .i64 0]
def JT (w : World) : Prop := ∃ t fr, w.heap[0]? = some (.cells joinedC t fr)
theorem JT.below {w W : World} (h : JT w) (hb : Below w.heap.size w W) : JT W := by
  obtain ⟨t, fr, h⟩ := h
  exact ⟨t, fr, (hb.block _ (lt_of_get h)).trans h⟩
set_option maxRecDepth 100000 in
theorem idx_join (k : Nat) (z : ITok × ITok) (h : joinedT[k]? = some z) (W : World) : Sem.run Tryz.prog (Instr.index 37 (.agg joinedC) (.int .i64 (k : Int))) W = .ok (.agg (icel z.1 ++ icel z.2).toArray) W := by
  match k, h with
  | 0, h => obtain rfl := Option.some.inj h; rfl
  | 1, h => obtain rfl := Option.some.inj h; rfl
  | 2, h => obtain rfl := Option.some.inj h; rfl
  | 3, h => obtain rfl := Option.some.inj h; rfl
  | 4, h => obtain rfl := Option.some.inj h; rfl
  | 5, h => obtain rfl := Option.some.inj h; rfl
  | 6, h => obtain rfl := Option.some.inj h; rfl
  | 7, h => obtain rfl := Option.some.inj h; rfl
  | 8, h => obtain rfl := Option.some.inj h; rfl
  | 9, h => obtain rfl := Option.some.inj h; rfl
  | 10, h => obtain rfl := Option.some.inj h; rfl
  | 11, h => obtain rfl := Option.some.inj h; rfl
  | 12, h => obtain rfl := Option.some.inj h; rfl
  | 13, h => obtain rfl := Option.some.inj h; rfl
  | k + 14, h => simp at h
def joinB (l r : ITok) : Bool := joinedT.any fun z => likeB l z.1 && likeB r z.2
set_option maxRecDepth 100000 in
set_option maxHeartbeats 4000000 in
theorem isJoined_any (l r : ITok) (w : World) (hj : JT w) : Calls Tryz.prog 10 #[iagg l, iagg r] w fun e w' => e = .returned (.bool (joinB l r)) ∧ Below w.heap.size w w' := by
  obtain ⟨V, hV⟩ : ∃ V : World, (w.alloc (Obj.cells (icel l).toArray 24)).alloc (Obj.cells (icel r).toArray 24) = V := ⟨_, rfl⟩
  have vB : Below w.heap.size w V := by
    rw [← hV]
    exact ((Below.refl _ _).alloc (Nat.le_refl _) _).alloc (by simp) _
  have v0 : V.heap[w.heap.size]? = some (.cells (icel l).toArray 24) := by
    rw [← hV]
    exact allocblk (alloc_get _ _) _
  have v1 : V.heap[w.heap.size + 1]? = some (.cells (icel r).toArray 24) := by
    rw [← hV]
    have := alloc_get (w.alloc (Obj.cells (icel l).toArray 24)) (Obj.cells (icel r).toArray 24)
    simpa using this
  obtain ⟨tt, fr, hg⟩ := hj.below vB
  have HL : Hid (∀ (z : ITok × ITok) (W : World), Calls Tryz.prog 14 #[iagg l, iagg z.1] W fun e w' => e = .returned (.bool (likeB l z.1)) ∧ Below W.heap.size W w') := fun z W => isLike_any l z.1 W
  have HR : Hid (∀ (z : ITok × ITok) (W : World), Calls Tryz.prog 14 #[iagg r, iagg z.2] W fun e w' => e = .returned (.bool (likeB r z.2)) ∧ Below W.heap.size W w') := fun z W => isLike_any r z.2 W
  have XL : Hid (∀ W : World, Below V.heap.size V W → W.cell? ⟨w.heap.size, 0, none⟩ = some (.int .i64 l.1) ∧ W.cell? ⟨w.heap.size, 1, none⟩ = some (.string ⟨l.2.1.toArray⟩) ∧ W.cell? ⟨w.heap.size, 2, none⟩ = some (.int .i64 l.2.2.1) ∧ W.cell? ⟨w.heap.size, 3, none⟩ = some (.int .i64 l.2.2.2)) := fun W hW => by
    have hk := keepblk hW v0
    exact ⟨cell_of_row W _ 0 _ _ _ hk, cell_of_row W _ 1 _ _ _ hk, cell_of_row W _ 2 _ _ _ hk, cell_of_row W _ 3 _ _ _ hk⟩
  have XR : Hid (∀ W : World, Below V.heap.size V W → W.cell? ⟨w.heap.size + 1, 0, none⟩ = some (.int .i64 r.1) ∧ W.cell? ⟨w.heap.size + 1, 1, none⟩ = some (.string ⟨r.2.1.toArray⟩) ∧ W.cell? ⟨w.heap.size + 1, 2, none⟩ = some (.int .i64 r.2.2.1) ∧ W.cell? ⟨w.heap.size + 1, 3, none⟩ = some (.int .i64 r.2.2.2)) := fun W hW => by
    have hk := keepblk hW v1
    exact ⟨cell_of_row W _ 0 _ _ _ hk, cell_of_row W _ 1 _ _ _ hk, cell_of_row W _ 2 _ _ _ hk, cell_of_row W _ 3 _ _ _ hk⟩
  obtain ⟨S, hS⟩ : ∃ S, w.heap.size = S := ⟨_, rfl⟩
  rw [hS] at XL XR
  clear v0 v1 hj
  obtain ⟨la, lb, lc, ld⟩ := l
  obtain ⟨ra, rb, rc, rd⟩ := r
  obtain ⟨q, hq⟩ : ∃ q, joinB (la, lb, lc, ld) (ra, rb, rc, rd) = q := ⟨_, rfl⟩
  have HQ : Hid (joinB (la, lb, lc, ld) (ra, rb, rc, rd) = q) := hq
  rw [hq]
  clear hq
  have hV' : (w.alloc (Obj.cells #[.int .i64 la, .string ⟨lb.toArray⟩, .int .i64 lc, .int .i64 ld] 24)).alloc (Obj.cells #[.int .i64 ra, .string ⟨rb.toArray⟩, .int .i64 rc, .int .i64 rd] 24) = V := hV
  show Calls Tryz.prog 10 #[.agg #[.int .i64 la, .string ⟨lb.toArray⟩, .int .i64 lc, .int .i64 ld], .agg #[.int .i64 ra, .string ⟨rb.toArray⟩, .int .i64 rc, .int .i64 rd]] w _
  clear hV
  go_enter Tryz.func10, Tryz.ntmps10
  go_wp2_with (refine wpList_load_row rfl 37 _ rfl 0 rfl tt _ fr _ hg Tryz.underlying37 rfl (by kernel_rfl) ?_)
  go_loopw [8] (fun vk wr => ∃ k : Nat, vk = .int .i64 k ∧ k ≤ 14 ∧ Hid (∀ (j : Nat) (z : ITok × ITok), j < k → joinedT[j]? = some z → (likeB (la, lb, lc, ld) z.1 && likeB (ra, rb, rc, rd) z.2) = false) ∧ Below V.heap.size V wr) (fun vk _ => 14 - (intOf vk).toNat)
  case atStart => exact ⟨0, rfl, by omega, fun j z hj => by omega, Below.refl _ _⟩
  case round =>
    obtain ⟨k, rfl, hk, hno, hB⟩ := hrel
    by_cases hk5 : k < 14
    · have hk5' : (k : Int) < 14 := by omega
      obtain ⟨z, hz⟩ : ∃ z, joinedT[k]? = some z := ⟨_, List.getElem?_eq_getElem hk5⟩
      have hx0 := fun W => idx_join k z hz W
      have HL1 := HL.out z
      have HR1 := HR.out z
      have HZ : Hid (joinedT[k]? = some z) := hz
      clear hz HL HR
      obtain ⟨⟨a1, b1, c1, d1⟩, ⟨a2, b2, c2, d2⟩⟩ := z
      have hx : ∀ W : World, Sem.run Tryz.prog (Instr.index 37 (.agg joinedC) (.int .i64 (k : Int))) W = .ok (.agg #[.int .i64 a1, .string ⟨b1.toArray⟩, .int .i64 c1, .int .i64 d1, .int .i64 a2, .string ⟨b2.toArray⟩, .int .i64 c2, .int .i64 d2]) W := hx0
      obtain ⟨q1, hq1⟩ : ∃ q1, likeB (la, lb, lc, ld) (a1, b1, c1, d1) = q1 := ⟨_, rfl⟩
      obtain ⟨q2, hq2⟩ : ∃ q2, likeB (ra, rb, rc, rd) (a2, b2, c2, d2) = q2 := ⟨_, rfl⟩
      simp only [hq1] at HL1
      simp only [hq2] at HR1
      have HL2 : Hid (∀ W : World, Calls Tryz.prog 14 #[.agg #[.int .i64 la, .string ⟨lb.toArray⟩, .int .i64 lc, .int .i64 ld], .agg #[.int .i64 a1, .string ⟨b1.toArray⟩, .int .i64 c1, .int .i64 d1]] W fun e w' => e = .returned (.bool q1) ∧ Below W.heap.size W w') := HL1
      have HR2 : Hid (∀ W : World, Calls Tryz.prog 14 #[.agg #[.int .i64 ra, .string ⟨rb.toArray⟩, .int .i64 rc, .int .i64 rd], .agg #[.int .i64 a2, .string ⟨b2.toArray⟩, .int .i64 c2, .int .i64 d2]] W fun e w' => e = .returned (.bool q2) ∧ Below W.heap.size W w') := HR1
      have Hq1 : Hid (likeB (la, lb, lc, ld) (a1, b1, c1, d1) = q1) := hq1
      have Hq2 : Hid (likeB (ra, rb, rc, rd) (a2, b2, c2, d2) = q2) := hq2
      clear hx0 HL1 HR1 hq1 hq2 hg
      have hB2 : ∀ O : Obj, Below V.heap.size V (wr.alloc O) := fun O => hB.alloc hB.size O
      obtain ⟨O, hO⟩ : ∃ O : Obj, Obj.cells #[.int .i64 a1, .string ⟨b1.toArray⟩, .int .i64 c1, .int .i64 d1, .int .i64 a2, .string ⟨b2.toArray⟩, .int .i64 c2, .int .i64 d2] 36 = O := ⟨_, rfl⟩
      obtain ⟨x0, x1, x2, x3⟩ := XL.out (wr.alloc O) (hB2 O)
      have n0 : (wr.alloc O).cell? ⟨wr.heap.size, 0, none⟩ = some (.int .i64 a1) := by rw [← hO, cells_new]; rfl
      have n1 : (wr.alloc O).cell? ⟨wr.heap.size, 1, none⟩ = some (.string ⟨b1.toArray⟩) := by rw [← hO, cells_new]; rfl
      have n2 : (wr.alloc O).cell? ⟨wr.heap.size, 2, none⟩ = some (.int .i64 c1) := by rw [← hO, cells_new]; rfl
      have n3 : (wr.alloc O).cell? ⟨wr.heap.size, 3, none⟩ = some (.int .i64 d1) := by rw [← hO, cells_new]; rfl
      have n4 : (wr.alloc O).cell? ⟨wr.heap.size, 4, none⟩ = some (.int .i64 a2) := by rw [← hO, cells_new]; rfl
      have n5 : (wr.alloc O).cell? ⟨wr.heap.size, 5, none⟩ = some (.string ⟨b2.toArray⟩) := by rw [← hO, cells_new]; rfl
      have n6 : (wr.alloc O).cell? ⟨wr.heap.size, 6, none⟩ = some (.int .i64 c2) := by rw [← hO, cells_new]; rfl
      have n7 : (wr.alloc O).cell? ⟨wr.heap.size, 7, none⟩ = some (.int .i64 d2) := by rw [← hO, cells_new]; rfl
      go_wp2_with fail
      refine (HL2.out _).mono ?_
      rintro e W1 ⟨rfl, hb1⟩
      have hB3 := bel0 (hB2 O) hb1
      obtain ⟨y0, y1, y2, y3⟩ := XR.out W1 hB3
      have m4 : W1.cell? ⟨wr.heap.size, 4, none⟩ = some (.int .i64 a2) := (hb1.cell (by simp)).trans n4
      have m5 : W1.cell? ⟨wr.heap.size, 5, none⟩ = some (.string ⟨b2.toArray⟩) := (hb1.cell (by simp)).trans n5
      have m6 : W1.cell? ⟨wr.heap.size, 6, none⟩ = some (.int .i64 c2) := (hb1.cell (by simp)).trans n6
      have m7 : W1.cell? ⟨wr.heap.size, 7, none⟩ = some (.int .i64 d2) := (hb1.cell (by simp)).trans n7
      clear x0 x1 x2 x3 n0 n1 n2 n3 n4 n5 n6 n7 hO hx
      have HN : ∀ b : Bool, (q1 && q2) = b → b = false → Hid (∀ (j : Nat) (z : ITok × ITok), j < k + 1 → joinedT[j]? = some z → (likeB (la, lb, lc, ld) z.1 && likeB (ra, rb, rc, rd) z.2) = false) := fun b h1 h2 j y hj hy => by
        rcases Nat.lt_or_ge j k with h | h
        · exact hno.out j y h hy
        · obtain rfl : j = k := by omega
          have := HZ.out
          rw [hy] at this
          rw [Option.some.inj this, Hq1.out, Hq2.out, h1, h2]
      cases q1 with
      | false =>
        have HN2 := HN _ rfl rfl
        clear HN hno
        go_wp2_with fail
        go_roundw
        case rel => exact ⟨k + 1, by go_num, by omega, HN2, hB3⟩
        case measure => simp [intOf]; omega
      | true =>
        go_wp2_with fail
        refine (HR2.out _).mono ?_
        rintro e W2 ⟨rfl, hb2⟩
        clear y0 y1 y2 y3 m4 m5 m6 m7
        cases q2 with
        | false =>
          have HN2 := HN _ rfl rfl
          clear HN hno
          go_wp2_with fail
          go_roundw
          case rel => exact ⟨k + 1, by go_num, by omega, HN2, bel0 hB3 hb2⟩
          case measure => simp [intOf]; omega
        | true =>
          obtain rfl : true = q := by
            rw [← HQ.out]
            unfold joinB
            symm
            rw [List.any_eq_true]
            exact ⟨_, List.mem_of_getElem? HZ.out, by rw [Hq1.out, Hq2.out]; rfl⟩
          clear HN hno
          go_wp2_with fail
          go_ret
          exact ⟨rfl, by have h9 := bel0 vB (bel0 hB3 hb2); first | exact h9 | (rw [hS] at h9; exact h9)⟩
    · have hk5' : ¬ (k : Int) < 14 := by omega
      obtain rfl : false = q := by
        rw [← HQ.out]
        unfold joinB
        symm
        rw [Bool.eq_false_iff]
        intro h
        rw [List.any_eq_true] at h
        obtain ⟨z, hm, hz⟩ := h
        obtain ⟨j, hj, e⟩ := List.mem_iff_getElem.1 hm
        have h14 : joinedT.length = 14 := rfl
        have := hno.out j z (by omega) (by rw [List.getElem?_eq_getElem hj, e])
        rw [this] at hz
        cases hz
      clear hno
      go_wp2_with fail
      go_ret
      exact ⟨rfl, by have h9 := bel0 vB hB; first | exact h9 | (rw [hS] at h9; exact h9)⟩
end Go.Proofs.YtggifkdgkjmljaaGreatDoor
