import Derived.Test.YtekjbpemaohipaaGreatDoorXAH
import Derived.Laws.MakeOwn
import Derived.Laws.EntriesVeiled
import Derived.BigQuiet
namespace Go.Proofs.YtekjbpemaohipaaGreatDoor
open Go.RowKit
/-- truths, as they lie -/
def bsA (K : Nat) (md : Nat → Bool) : Array Value := ((List.range K).map (fun j => Value.bool (md j))).toArray
def BMD (W : World) (b K : Nat) (md : Nat → Bool) : Prop := W.heap[b]? = some (.cells (bsA K md) 4 (0, 0))
theorem bsA_at {K : Nat} {md : Nat → Bool} {j : Nat} (hj : j < K) : (bsA K md)[j]? = some (.bool (md j)) := by simp [bsA, hj]
def putB (md : Nat → Bool) (j : Nat) (i : Nat) : Bool := if i = j then true else md i
theorem bsA_put {K : Nat} {md : Nat → Bool} {j : Nat} : (bsA K md).setIfInBounds j (.bool true) = bsA K (putB md j) := by
  apply Array.ext
  · simp [bsA]
  · intro i h1 h2
    have hi : i < K := by simpa [bsA] using h2
    rw [Array.getElem_setIfInBounds (by simpa [bsA] using hi)]
    by_cases e : j = i
    · subst e
      simp [bsA, putB]
    · have e' : ¬ i = j := fun h => e h.symm
      simp [bsA, putB, e, e']
theorem BMD.cell {W : World} {b K : Nat} {md : Nat → Bool} {j : Nat} (h : BMD W b K md) (hj : j < K) : W.cell? ⟨b, j, none⟩ = some (.bool (md j)) ∧ W.frozen? ⟨b, j, none⟩ = false := by
  obtain ⟨c, f⟩ := cells_block h
  exact ⟨(c j).trans (bsA_at hj), f j⟩
theorem BMD.put {W : World} {b K : Nat} {md : Nat → Bool} (j : Nat) (h : BMD W b K md) : BMD (W.setCell ⟨b, j, none⟩ (.bool true)) b K (putB md j) := by
  have h1 := set_get (j := j) (.bool true) h
  rw [bsA_put] at h1
  exact h1
theorem info_boolW : (Tryz.prog.info? 4).map (fun i => (i.zero, i.size, i.bytes)) = some (some (.bool false), 1, 1) := by kernel_rfl
theorem made_bs (K : Nat) : madeCells (Value.cells (.bool false)) (K * 1) = bsA K (fun _ => false) := by
  apply Array.ext
  · simp [madeCells, bsA]
  · intro i h1 h2
    simp [madeCells, bsA, Value.cells, Nat.mod_one]
theorem make_bools (K : Nat) (hK : K ≤ 100000) (w : World) : (Instr.makeSlice 41 (.int .i64 (K : Int)) (.int .i64 (K : Int))).run Tryz.prog w = .ok (.slice (some ⟨w.heap.size, 0, none⟩) K K) (w.alloc (.cells (bsA K (fun _ => false)) 4)) := by
  obtain ⟨i0, hi, hz0, hz1, hz2⟩ := info_parts info_boolW
  have h := run_make (P := Tryz.prog) w 41 4 i0 _ Tryz.underlying41 hi hz0 .i64 .i64 (K : Int) (K : Int) (by omega) (Int.le_refl _) (by rw [hz2]; omega) (by omega)
  rw [Int.toNat_natCast, hz1, made_bs] at h
  exact h
theorem quiet_litW {P : Program} {id : Nat} {Q : Exit → Act → World → Prop} {a : Act} {w : World} {l : List Oper} {C : World → Prop} (hm : P.follows .mixedOrders = true) (hB : Region.lexB .any l.toArray = true) (hC : C w.drew)
    (h : wpQuiet P l.toArray C (fun a' => ∀ w', C w' → Q .normal a' w') l a) : (Code.region id l.toArray true).wp P Q a w :=
  wp_region_quiet (C := C) hm hB hC (by simpa using h)
/-- a row of texts lies there -/
def LST (w : World) (p : Option Addr) (L : List (List UInt8)) : Prop := ∀ W : World, Below w.heap.size w W → ∀ (i : Nat) (x : List UInt8), L[i]? = some x → ∃ ad, p = some ad ∧ W.cell? (ad.add i) = some (.string ⟨x.toArray⟩)
/-- what the marks say when the first i headers were looked at -/
def MDI (b : Int) (L : List (List UInt8)) (ih sB : List UInt8 → Bool) (ow : List UInt8 → List UInt8) (num : List UInt8 → Nat) (i : Nat) (md : Nat → Bool) : Prop := b ≤ 8 → ∀ j, md j = true ↔ ∃ i' y, i' < i ∧ L[i']? = some y ∧ ih y = true ∧ sB y = true ∧ num (ow y) = j
theorem MDI.zero {b : Int} {L : List (List UInt8)} {ih sB : List UInt8 → Bool} {ow : List UInt8 → List UInt8} {num : List UInt8 → Nat} : MDI b L ih sB ow num 0 (fun _ => false) := fun _ j => ⟨(fun h => by cases h), (fun h => by obtain ⟨_, _, h, _⟩ := h; omega)⟩
theorem MDI.skip {b : Int} {L : List (List UInt8)} {ih sB : List UInt8 → Bool} {ow : List UInt8 → List UInt8} {num : List UInt8 → Nat} {i : Nat} {md : Nat → Bool} {x : List UInt8} (h : MDI b L ih sB ow num i md) (hx : L[i]? = some x) (hn : b ≤ 8 → ¬ (ih x = true ∧ sB x = true)) : MDI b L ih sB ow num (i + 1) md := fun hb j => by
  rw [h hb j]
  constructor
  · rintro ⟨i', y, h1, h2⟩
    exact ⟨i', y, by omega, h2⟩
  · rintro ⟨i', y, h1, h2, h3, h4, h5⟩
    by_cases e : i' = i
    · subst e
      rw [hx] at h2
      injection h2 with h2
      subst h2
      exact absurd ⟨h3, h4⟩ (hn hb)
    · exact ⟨i', y, by omega, h2, h3, h4, h5⟩
theorem MDI.put {b : Int} {L : List (List UInt8)} {ih sB : List UInt8 → Bool} {ow : List UInt8 → List UInt8} {num : List UInt8 → Nat} {i : Nat} {md : Nat → Bool} {x : List UInt8} (h : MDI b L ih sB ow num i md) (hx : L[i]? = some x) (h1 : ih x = true) (h2 : sB x = true) : MDI b L ih sB ow num (i + 1) (putB md (num (ow x))) := fun hb j => by
  unfold putB
  constructor
  · intro hj
    split at hj
    · rename_i e
      exact ⟨i, x, by omega, hx, h1, h2, e.symm⟩
    · obtain ⟨i', y, g1, g2⟩ := (h hb j).1 hj
      exact ⟨i', y, by omega, g2⟩
  · rintro ⟨i', y, g1, g2, g3, g4, g5⟩
    split
    · rfl
    · rename_i e
      refine (h hb j).2 ⟨i', y, ?_, g2, g3, g4, g5⟩
      by_cases e2 : i' = i
      · subst e2
        rw [hx] at g2
        injection g2 with g2
        subst g2
        exact absurd g5.symm e
      · omega
/-- what is known where the law goes on -/
structure WG (b B1 F1 E2 : Int) (l word r : List UInt8) (uB sB vB ih : List UInt8 → Bool) (ow : List UInt8 → List UInt8) (num : List UInt8 → Nat) (PQ : World → Option Addr → Nat → Nat → Prop) (UQ : World → Option Addr → Nat → Nat → Bool → Prop) (VQ : World → Option Addr → Nat → Nat → Prop) (q : Option Addr) (len cap : Nat) (w : World) : Prop where
  f1 : F1 = 0
  b1 : B1 = b
  e2 : E2 = 0 ∨ E2 = 3
  bf : ∀ W p n c, PQ W p n c → Calls Tryz.prog 8 #[.agg #[.int .i64 b, .slice p n c, .bool false], .agg #[.int .i64 (r.length : Int), .int .u64 (FW r 0 : Int), .int .u64 (FW r 1 : Int), .int .u64 (FW r 2 : Int), .int .u64 (FW r 3 : Int), .int .u64 (OW r 0 : Int), .int .u64 (OW r 1 : Int), .int .u64 (OW r 2 : Int), .int .u64 (OW r 3 : Int)]] W fun e w' => ∃ pu nu cu lo, e = .returned (.tuple #[.agg #[.int .i64 b, .slice pu nu cu, .bool lo], .int .i64 0]) ∧ UQ w' pu nu cu lo ∧ Below W.heap.size W w'
  af : ∀ W p n c, PQ W p n c → Calls Tryz.prog 9 #[.agg #[.int .i64 b, .slice p n c, .bool false], .agg #[.int .i64 (r.length : Int), .int .u64 (FW r 0 : Int), .int .u64 (FW r 1 : Int), .int .u64 (FW r 2 : Int), .int .u64 (FW r 3 : Int), .int .u64 (OW r 0 : Int), .int .u64 (OW r 1 : Int), .int .u64 (OW r 2 : Int), .int .u64 (OW r 3 : Int)], .int .i64 2048] W fun e w' => ∃ Bv pv nv cv, e = .returned (.tuple #[.agg #[.int .i64 Bv, .slice pv nv cv, .bool false], .int .i64 E2]) ∧ VQ w' pv nv cv ∧ Below W.heap.size W w'
  hd : ∀ W, Below w.heap.size w W → Calls Tryz.prog 10 #[.int .i64 b, .slice q len cap] W fun e w' => ∃ L p m c, e = .returned (.slice p m c) ∧ L.length = m ∧ m ≤ 100000 ∧ LST w' p L ∧ Below W.heap.size W w' ∧ (∀ W x, x ∈ L → Calls Tryz.prog 11 #[.int .i64 b, .string ⟨x.toArray⟩] W fun e w' => e = .returned (.bool (ih x)) ∧ Below W.heap.size W w') ∧ (b ≤ 8 → (∀ x, ih x = true → num (ow x) < m) ∧ (E2 = 0 → ∀ i x, L[i]? = some x → ih x = true ∧ (vB x = true ↔ ∃ i' y, i' < m ∧ L[i']? = some y ∧ ih y = true ∧ sB y = true ∧ num (ow y) = i)))
  ov : ∀ W x, ih x = true → Calls Tryz.prog 12 #[.string ⟨x.toArray⟩, .string ⟨word.toArray⟩] W fun e w' => e = .returned (.string ⟨(ow x).toArray⟩) ∧ Below W.heap.size W w'
  uh : ∀ W pu nu cu lo x, UQ W pu nu cu lo → ih x = true → Calls Tryz.prog 13 #[.agg #[.int .i64 b, .slice pu nu cu, .bool lo], .string ⟨x.toArray⟩] W fun e w' => e = .returned (.bool (uB x)) ∧ Below W.heap.size W w'
  vh : E2 = 0 → ∀ W Bv pv nv cv x, VQ W pv nv cv → ih x = true → Calls Tryz.prog 13 #[.agg #[.int .i64 Bv, .slice pv nv cv, .bool false], .string ⟨x.toArray⟩] W fun e w' => e = .returned (.bool (vB x)) ∧ Below W.heap.size W w'
  sd : ∀ W x, ih x = true → Calls Tryz.prog 14 #[.string ⟨l.toArray⟩, .string ⟨x.toArray⟩] W fun e w' => e = .returned (.bool (sB x)) ∧ Below W.heap.size W w'
  nm : b ≤ 8 → ∀ W x, ih x = true → Calls Tryz.prog 15 #[.string ⟨x.toArray⟩] W fun e w' => e = .returned (.int .i64 (num x : Int)) ∧ Below W.heap.size W w'
  p0 : ∀ x, ih x = true → ih (ow x) = true
  p1 : ∀ x, ih x = true → uB x = sB (ow x)
  p2 : E2 = 0 → ∀ x, ih x = true → sB x = true → vB (ow x) = true
  p3 : E2 = 0 → ∀ x, ih x = true → vB x = true → ow x = x
set_option maxRecDepth 100000 in
set_option maxHeartbeats 16000000 in
theorem writes_core (b B1 E1 F1 E2 : Int) (l word r : List UInt8) (cb : Bool) (uB sB vB ih : List UInt8 → Bool) (ow : List UInt8 → List UInt8) (num : List UInt8 → Nat) (PQ : World → Option Addr → Nat → Nat → Prop) (UQ : World → Option Addr → Nat → Nat → Bool → Prop) (VQ : World → Option Addr → Nat → Nat → Prop) (q : Option Addr) (len cap : Nat) (w : World)
    (hPQ : ∀ W W' p n c, PQ W p n c → Below W.heap.size W W' → PQ W' p n c) (hUQ : ∀ W W' p n c lo, UQ W p n c lo → Below W.heap.size W W' → UQ W' p n c lo) (hVQ : ∀ W W' p n c, VQ W p n c → Below W.heap.size W W' → VQ W' p n c)
    (hA : ∀ W, Calls Tryz.prog 4 #[] W fun e w' => e = .returned (.bool true) ∧ Below W.heap.size W w')
    (hP : ∀ W, Calls Tryz.prog 5 #[.int .i64 b, .string ⟨l.toArray⟩] W fun e w' => ∃ p n c, e = .returned (.tuple #[.agg #[.int .i64 B1, .slice p n c, .bool false], .int .i64 E1]) ∧ PQ w' p n c ∧ Below W.heap.size W w')
    (hT : ∀ W, Calls Tryz.prog 6 #[.string ⟨word.toArray⟩] W fun e w' => e = .returned (.tuple #[.agg #[.int .i64 (r.length : Int), .int .u64 (FW r 0 : Int), .int .u64 (FW r 1 : Int), .int .u64 (FW r 2 : Int), .int .u64 (FW r 3 : Int), .int .u64 (OW r 0 : Int), .int .u64 (OW r 1 : Int), .int .u64 (OW r 2 : Int), .int .u64 (OW r 3 : Int)], .int .i64 F1]) ∧ Below W.heap.size W w')
    (hC : ∀ W, Calls Tryz.prog 7 #[.int .i64 b, .string ⟨word.toArray⟩] W fun e w' => e = .returned (.bool cb) ∧ Below W.heap.size W w')
    (hG : 1 ≤ b → cb = true → E1 = 0 → WG b B1 F1 E2 l word r uB sB vB ih ow num PQ UQ VQ q len cap w) : Calls Tryz.prog 3 #[.int .i64 b, .string ⟨l.toArray⟩, .string ⟨word.toArray⟩, .slice q len cap] w fun e w' => e = .returned (.bool true) ∧ Below w.heap.size w w' := by
  have HA : Hid (∀ W, Calls Tryz.prog 4 #[] W fun e w' => e = .returned (.bool true) ∧ Below W.heap.size W w') := hA
  have HP : Hid (∀ W, Calls Tryz.prog 5 #[.int .i64 b, .string ⟨l.toArray⟩] W fun e w' => ∃ p n c, e = .returned (.tuple #[.agg #[.int .i64 B1, .slice p n c, .bool false], .int .i64 E1]) ∧ PQ w' p n c ∧ Below W.heap.size W w') := hP
  have HT : Hid (∀ W, Calls Tryz.prog 6 #[.string ⟨word.toArray⟩] W fun e w' => e = .returned (.tuple #[.agg #[.int .i64 (r.length : Int), .int .u64 (FW r 0 : Int), .int .u64 (FW r 1 : Int), .int .u64 (FW r 2 : Int), .int .u64 (FW r 3 : Int), .int .u64 (OW r 0 : Int), .int .u64 (OW r 1 : Int), .int .u64 (OW r 2 : Int), .int .u64 (OW r 3 : Int)], .int .i64 F1]) ∧ Below W.heap.size W w') := hT
  have HC : Hid (∀ W, Calls Tryz.prog 7 #[.int .i64 b, .string ⟨word.toArray⟩] W fun e w' => e = .returned (.bool cb) ∧ Below W.heap.size W w') := hC
  have HG0 : Hid (1 ≤ b → cb = true → E1 = 0 → WG b B1 F1 E2 l word r uB sB vB ih ow num PQ UQ VQ q len cap w) := hG
  have HQ : Hid ((∀ W W' p n c, PQ W p n c → Below W.heap.size W W' → PQ W' p n c) ∧ (∀ W W' p n c lo, UQ W p n c lo → Below W.heap.size W W' → UQ W' p n c lo) ∧ (∀ W W' p n c, VQ W p n c → Below W.heap.size W W' → VQ W' p n c)) := ⟨hPQ, hUQ, hVQ⟩
  have hmb := make_bools
  clear hPQ hUQ hVQ hA hP hT hC hG
  go_enter Tryz.func3, Tryz.ntmps3
  go_wp2_with fail
  refine (HA.out _).mono ?_
  rintro e w1 ⟨rfl, hb1⟩
  go_wp2_with fail
  refine (HP.out _).mono ?_
  rintro e w2 ⟨p, n, c, rfl, hpq, hb2⟩
  have HB2 : Hid (PQ w2 p n c ∧ Below w.heap.size w w2) := ⟨hpq, bel0 hb1 hb2⟩
  clear hpq hb1 hb2
  go_wp2_with fail
  refine (HT.out _).mono ?_
  rintro e w3 ⟨rfl, hb3⟩
  have HB3 : Hid (Below (w2.alloc (.cells #[.int .i64 B1, .slice p n c, .bool false] 26 (0, 0))).heap.size (w2.alloc (.cells #[.int .i64 B1, .slice p n c, .bool false] 26 (0, 0))) w3) := hb3
  clear hb3
  by_cases hb : b < 1
  · have HZ : Hid (Below w.heap.size w (w3.alloc (.cells #[.int .i64 (r.length : Int), .int .u64 (FW r 0 : Int), .int .u64 (FW r 1 : Int), .int .u64 (FW r 2 : Int), .int .u64 (FW r 3 : Int), .int .u64 (OW r 0 : Int), .int .u64 (OW r 1 : Int), .int .u64 (OW r 2 : Int), .int .u64 (OW r 3 : Int)] 34 (0, 0)))) := bel0 HB2.out.2 (bel0 (belA (Below.refl _ _) _) (bel0 HB3.out (belA (Below.refl _ _) _)))
    go_wp2_with fail
    go_ret
    exact ⟨rfl, HZ.out⟩
  · go_wp2_with fail
    refine (HC.out _).mono ?_
    rintro e w4 ⟨rfl, hb4⟩
    have HF : Hid (∀ W, Below w4.heap.size w4 W → (∀ j, W.cell? ⟨w2.heap.size, j, none⟩ = (#[.int .i64 B1, .slice p n c, .bool false] : Array Value)[j]?) ∧ (∀ j, W.cell? ⟨w3.heap.size, j, none⟩ = (#[.int .i64 (r.length : Int), .int .u64 (FW r 0 : Int), .int .u64 (FW r 1 : Int), .int .u64 (FW r 2 : Int), .int .u64 (FW r 3 : Int), .int .u64 (OW r 0 : Int), .int .u64 (OW r 1 : Int), .int .u64 (OW r 2 : Int), .int .u64 (OW r 3 : Int)] : Array Value)[j]?) ∧ PQ W p n c ∧ Below w.heap.size w W) := fun W hW => by
      have h3 : Below (w3.alloc (.cells #[.int .i64 (r.length : Int), .int .u64 (FW r 0 : Int), .int .u64 (FW r 1 : Int), .int .u64 (FW r 2 : Int), .int .u64 (FW r 3 : Int), .int .u64 (OW r 0 : Int), .int .u64 (OW r 1 : Int), .int .u64 (OW r 2 : Int), .int .u64 (OW r 3 : Int)] 34 (0, 0))).heap.size (w3.alloc (.cells #[.int .i64 (r.length : Int), .int .u64 (FW r 0 : Int), .int .u64 (FW r 1 : Int), .int .u64 (FW r 2 : Int), .int .u64 (FW r 3 : Int), .int .u64 (OW r 0 : Int), .int .u64 (OW r 1 : Int), .int .u64 (OW r 2 : Int), .int .u64 (OW r 3 : Int)] 34 (0, 0))) W := bel0 hb4 hW
      have h3' : Below w3.heap.size w3 W := bel0 (belA (Below.refl _ _) _) h3
      have h2 : Below (w2.alloc (.cells #[.int .i64 B1, .slice p n c, .bool false] 26 (0, 0))).heap.size (w2.alloc (.cells #[.int .i64 B1, .slice p n c, .bool false] 26 (0, 0))) W := bel0 HB3.out h3'
      have h2' : Below w2.heap.size w2 W := bel0 (belA (Below.refl _ _) _) h2
      exact ⟨(cells_block (keepblk3 h2 (alloc_get _ _))).1, (cells_block (keepblk3 h3 (alloc_get _ _))).1, HQ.out.1 _ _ _ _ _ HB2.out.1 h2', bel0 HB2.out.2 h2'⟩
    clear hb4 HB3 HB2 HA HP HT HC
    cases cb with
    | false =>
      have HZ : Hid (Below w.heap.size w w4) := (HF.out w4 (Below.refl _ _)).2.2.2
      go_wp2_with fail
      go_ret
      exact ⟨rfl, HZ.out⟩
    | true =>
      by_cases hE : E1 = 0
      · subst hE
        have HG : Hid (WG b B1 F1 E2 l word r uB sB vB ih ow num PQ UQ VQ q len cap w) := HG0.out (by omega) rfl rfl
        clear HG0
        obtain rfl := HG.out.f1
        obtain rfl := HG.out.b1
        have HGE0 := HG.out
        clear HG
        rcases HGE0.e2 with rfl | rfl
        · have HGE := HGE0
          clear HGE0
          have HG : Hid (WG B1 B1 0 0 l word r uB sB vB ih ow num PQ UQ VQ q len cap w) := HGE
          clear HGE
          obtain ⟨f1, f2, f3, -⟩ := HF.out w4 (Below.refl _ _)
          go_wp2_with fail
          refine (HG.out.bf _ _ _ _ f3).mono ?_
          rintro e w5 ⟨pu, nu, cu, lo, rfl, hu, hb5⟩
          have HB5 : Hid (UQ w5 pu nu cu lo ∧ Below w4.heap.size w4 w5) := ⟨hu, hb5⟩
          clear f1 f2 f3 hu hb5
          obtain ⟨f1, f2, f3, -⟩ := HF.out (w5.alloc (.cells #[.int .i64 B1, .slice pu nu cu, .bool lo] 26 (0, 0))) (belA HB5.out.2 _)
          go_wp2_with fail
          refine (HG.out.af _ _ _ _ f3).mono ?_
          rintro e w6 ⟨Bv, pv, nv, cv, rfl, hv, hb6⟩
          have HK : Hid (∀ W, Below (w6.alloc (.cells #[.int .i64 Bv, .slice pv nv cv, .bool false] 26 (0, 0))).heap.size (w6.alloc (.cells #[.int .i64 Bv, .slice pv nv cv, .bool false] 26 (0, 0))) W → (∀ j, W.cell? ⟨w5.heap.size, j, none⟩ = (#[.int .i64 B1, .slice pu nu cu, .bool lo] : Array Value)[j]?) ∧ (∀ j, W.cell? ⟨w6.heap.size, j, none⟩ = (#[.int .i64 Bv, .slice pv nv cv, .bool false] : Array Value)[j]?) ∧ UQ W pu nu cu lo ∧ VQ W pv nv cv ∧ Below w.heap.size w W) := fun W hW => by
            have h6 : Below w6.heap.size w6 W := bel0 (belA (Below.refl _ _) _) hW
            have h5 : Below (w5.alloc (.cells #[.int .i64 B1, .slice pu nu cu, .bool lo] 26 (0, 0))).heap.size (w5.alloc (.cells #[.int .i64 B1, .slice pu nu cu, .bool lo] 26 (0, 0))) W := bel0 hb6 h6
            have h5' : Below w5.heap.size w5 W := bel0 (belA (Below.refl _ _) _) h5
            exact ⟨(cells_block (keepblk3 h5 (alloc_get _ _))).1, (cells_block (keepblk3 hW (alloc_get _ _))).1, HQ.out.2.1 _ _ _ _ _ _ HB5.out.1 h5', HQ.out.2.2 _ _ _ _ _ hv h6, (HF.out W (bel0 HB5.out.2 h5')).2.2.2⟩
          clear f1 f2 f3 hv hb6 HF HB5 HQ
          go_wp2_with fail
          refine (HG.out.hd _ (HK.out _ (Below.refl _ _)).2.2.2.2).mono ?_
          rintro e w7 ⟨L, p4, m4, c4, rfl, hLl, hm4, hls, hb7, hih, hb8⟩
          have hmk := hmb m4 hm4
          have HL : Hid (L.length = m4 ∧ LST w7 p4 L ∧ (∀ W x, x ∈ L → Calls Tryz.prog 11 #[.int .i64 B1, .string ⟨x.toArray⟩] W fun e w' => e = .returned (.bool (ih x)) ∧ Below W.heap.size W w') ∧ (B1 ≤ 8 → (∀ x, ih x = true → num (ow x) < m4) ∧ (0 = (0 : Int) → ∀ i x, L[i]? = some x → ih x = true ∧ (vB x = true ↔ ∃ i' y, i' < m4 ∧ L[i']? = some y ∧ ih y = true ∧ sB y = true ∧ num (ow y) = i)))) := ⟨hLl, hls, hih, hb8⟩
          have HK7 : Hid (∀ W, Below w7.heap.size w7 W → (∀ j, W.cell? ⟨w5.heap.size, j, none⟩ = (#[.int .i64 B1, .slice pu nu cu, .bool lo] : Array Value)[j]?) ∧ (∀ j, W.cell? ⟨w6.heap.size, j, none⟩ = (#[.int .i64 Bv, .slice pv nv cv, .bool false] : Array Value)[j]?) ∧ UQ W pu nu cu lo ∧ VQ W pv nv cv ∧ Below w.heap.size w W) := fun W hW => HK.out W (bel0 hb7 hW)
          have HM8 : Hid (BMD (w7.alloc (.cells (bsA m4 (fun _ => false)) 4 (0, 0))) w7.heap.size m4 (fun _ => false) ∧ Below w7.heap.size w7 (w7.alloc (.cells (bsA m4 (fun _ => false)) 4 (0, 0)))) := ⟨alloc_get _ _, belA (Below.refl _ _) _⟩
          obtain ⟨bm, hbm⟩ : ∃ s, w7.heap.size = s := ⟨_, rfl⟩
          clear hLl hls hih hb8 hb7 HK hmb
          go_wp2_with fail
          rw [hbm] at HM8

          clear hmk
          go_loopw [19] (fun v19 wr => ∃ (i : Nat), v19 = .int .i64 (i : Int) ∧ i ≤ m4 ∧ Hid (∃ md, BMD wr bm m4 md ∧ Below w7.heap.size w7 wr ∧ MDI B1 L ih sB ow num i md)) (fun v19 _ => m4 - (intOf v19).toNat)
          case atStart => exact ⟨0, rfl, Nat.zero_le _, _, HM8.out.1, by rw [hbm]; exact HM8.out.2, MDI.zero⟩
          case round =>
            obtain ⟨i, rfl, hi, hrel⟩ := hrel
            obtain ⟨md, hrel⟩ := hrel.out
            have HR : Hid (BMD wr bm m4 md ∧ Below w7.heap.size w7 wr ∧ MDI B1 L ih sB ow num i md) := hrel
            clear hrel
            by_cases hlt : i < m4
            · have i1 : (i : Int) < (m4 : Int) := by omega
              have i0 : (0 : Int) ≤ (i : Int) := by omega
              obtain ⟨x, hx0⟩ : ∃ x, L[i]? = some x := ⟨_, List.getElem?_eq_getElem (by rw [HL.out.1]; exact hlt)⟩
              obtain ⟨ad, rfl, hcx⟩ := HL.out.2.1 wr HR.out.2.1 i x hx0
              have HX0 : Hid (L[i]? = some x) := hx0
              obtain ⟨z, hz⟩ : ∃ z, ih x = z := ⟨_, rfl⟩
              have HI := HL.out.2.2.1 wr x (List.mem_of_getElem? hx0)
              rw [hz] at HI
              clear hx0
              go_wp2_with fail
              refine HI.mono ?_
              rintro e y1 ⟨rfl, hc1⟩
              have HB1 : Hid (Below wr.heap.size wr y1) := hc1
              clear hcx HI hc1
              cases z with
              | false =>
                have HX : Hid (∃ md, BMD y1 bm m4 md ∧ Below w7.heap.size w7 y1 ∧ MDI B1 L ih sB ow num (i + 1) md) := ⟨md, keepblk3 HB1.out HR.out.1, bel0 HR.out.2.1 HB1.out, HR.out.2.2.skip HX0.out (fun _ h => by rw [hz] at h; cases h.1)⟩
                clear hz
                go_wp2_with fail
                go_roundw
                case rel => exact ⟨i + 1, by go_num, by omega, HX⟩
                case measure => simp [intOf]; omega
              | true =>
                have HZ : Hid (ih x = true) := hz
                clear hz
                obtain ⟨g, hg⟩ : ∃ g, ow x = g := ⟨_, rfl⟩
                have HO := HG.out.ov y1 x HZ.out
                rw [hg] at HO
                have HGW : Hid (ow x = g ∧ ih g = true) := ⟨hg, by rw [← hg]; exact HG.out.p0 x HZ.out⟩
                clear hg
                go_wp2_with fail
                refine HO.mono ?_
                rintro e y2 ⟨rfl, hc2⟩
                have HB2 : Hid (Below wr.heap.size wr y2) := bel0 HB1.out hc2
                clear hc2 HO HB1
                obtain ⟨k1, k2, k3, k4, -⟩ := HK7.out y2 (bel0 HR.out.2.1 HB2.out)
                obtain ⟨sg, hsg⟩ : ∃ s, sB g = s := ⟨_, rfl⟩
                have HU := HG.out.uh y2 pu nu cu lo x k3 HZ.out
                rw [HG.out.p1 x HZ.out, HGW.out.1, hsg] at HU
                have HS : Hid (∀ W, Calls Tryz.prog 14 #[.string ⟨l.toArray⟩, .string ⟨g.toArray⟩] W fun e w' => e = .returned (.bool sg) ∧ Below W.heap.size W w') := fun W => by
                  have h := HG.out.sd W g HGW.out.2
                  rw [hsg] at h
                  exact h
                have hss : (sg != sg) = false := by simp
                clear hsg
                go_wp2_with fail
                refine HU.mono ?_
                rintro e y3 ⟨rfl, hc3⟩
                go_wp2_with fail
                refine (HS.out _).mono ?_
                rintro e y4 ⟨rfl, hc4⟩
                have HB4 : Hid (Below wr.heap.size wr y4) := bel0 HB2.out (bel0 hc3 hc4)
                clear k1 k2 k3 k4 HU HS hc3 hc4 HB2
                obtain ⟨k1, k2, k3, k4, -⟩ := HK7.out y4 (bel0 HR.out.2.1 HB4.out)
                obtain ⟨sx, hsx⟩ : ∃ s, sB x = s := ⟨_, rfl⟩
                have HSX : Hid (∀ W, Calls Tryz.prog 14 #[.string ⟨l.toArray⟩, .string ⟨x.toArray⟩] W fun e w' => e = .returned (.bool sx) ∧ Below W.heap.size W w') := fun W => by
                  have h := HG.out.sd W x HZ.out
                  rw [hsx] at h
                  exact h
                have HSE : Hid (sB x = sx) := hsx
                clear hsx
                go_wp2_with fail
                refine (HSX.out _).mono ?_
                rintro e y5 ⟨rfl, hc5⟩
                have HB5 : Hid (Below wr.heap.size wr y5) := bel0 HB4.out hc5
                clear k1 k2 k3 k4 hc5
                obtain ⟨k1, k2, k3, k4, -⟩ := HK7.out y5 (bel0 HR.out.2.1 HB5.out)
                cases sx
                · have hHid : True := trivial
                  obtain ⟨vx, hvx⟩ : ∃ s, vB x = s := ⟨_, rfl⟩
                  have HV2 := HG.out.vh rfl y5 Bv pv nv cv x k4 HZ.out
                  rw [hvx] at HV2
                  have HVX : Hid (vx = true → g = x) := fun h => by rw [← HGW.out.1]; exact HG.out.p3 rfl x HZ.out (by rw [hvx]; exact h)
                  clear hvx
                  go_wp2_with fail
                  refine HV2.mono ?_
                  rintro e y7 ⟨rfl, hc7⟩
                  have HB7 : Hid (Below wr.heap.size wr y7) := bel0 HB5.out hc7
                  clear k1 k2 k3 k4 hc7 HV2
                  cases vx
                  · clear HVX
                    by_cases h8 : B1 ≤ 8
                    · go_wp2_with fail
                      refine (HSX.out _).mono ?_
                      rintro e y8 ⟨rfl, hc8⟩
                      have HB8 : Hid (Below wr.heap.size wr y8) := bel0 HB7.out hc8
                      clear hc8
                      have HX : Hid (∃ md, BMD y8 bm m4 md ∧ Below w7.heap.size w7 y8 ∧ MDI B1 L ih sB ow num (i + 1) md) := ⟨md, keepblk3 HB8.out HR.out.1, bel0 HR.out.2.1 HB8.out, HR.out.2.2.skip HX0.out (fun _ h => by rw [HSE.out] at h; cases h.2)⟩
                      go_wp2_with fail
                      go_roundw
                      case rel => exact ⟨i + 1, by go_num, by omega, HX⟩
                      case measure => simp [intOf]; omega
                    · have HX : Hid (∃ md, BMD y7 bm m4 md ∧ Below w7.heap.size w7 y7 ∧ MDI B1 L ih sB ow num (i + 1) md) := ⟨md, keepblk3 HB7.out HR.out.1, bel0 HR.out.2.1 HB7.out, HR.out.2.2.skip HX0.out (fun h => absurd h h8)⟩
                      go_wp2_with fail
                      go_roundw
                      case rel => exact ⟨i + 1, by go_num, by omega, HX⟩
                      case measure => simp [intOf]; omega
                  · have hgx : (g == x) = true := by rw [HVX.out rfl]; simp
                    clear HVX
                    by_cases h8 : B1 ≤ 8
                    · go_wp2_with fail
                      refine (HSX.out _).mono ?_
                      rintro e y8 ⟨rfl, hc8⟩
                      have HB8 : Hid (Below wr.heap.size wr y8) := bel0 HB7.out hc8
                      clear hc8
                      have HX : Hid (∃ md, BMD y8 bm m4 md ∧ Below w7.heap.size w7 y8 ∧ MDI B1 L ih sB ow num (i + 1) md) := ⟨md, keepblk3 HB8.out HR.out.1, bel0 HR.out.2.1 HB8.out, HR.out.2.2.skip HX0.out (fun _ h => by rw [HSE.out] at h; cases h.2)⟩
                      go_wp2_with fail
                      go_roundw
                      case rel => exact ⟨i + 1, by go_num, by omega, HX⟩
                      case measure => simp [intOf]; omega
                    · have HX : Hid (∃ md, BMD y7 bm m4 md ∧ Below w7.heap.size w7 y7 ∧ MDI B1 L ih sB ow num (i + 1) md) := ⟨md, keepblk3 HB7.out HR.out.1, bel0 HR.out.2.1 HB7.out, HR.out.2.2.skip HX0.out (fun h => absurd h h8)⟩
                      go_wp2_with fail
                      go_roundw
                      case rel => exact ⟨i + 1, by go_num, by omega, HX⟩
                      case measure => simp [intOf]; omega
                · have hHid : True := trivial
                  have HV1 := HG.out.vh rfl y5 Bv pv nv cv g k4 HGW.out.2
                  rw [show vB g = true by rw [← HGW.out.1]; exact HG.out.p2 rfl x HZ.out HSE.out] at HV1
                  go_wp2_with fail
                  refine HV1.mono ?_
                  rintro e y6 ⟨rfl, hc6⟩
                  have HB6 : Hid (Below wr.heap.size wr y6) := bel0 HB5.out hc6
                  clear k1 k2 k3 k4 hc6 HV1
                  obtain ⟨k1, k2, k3, k4, -⟩ := HK7.out y6 (bel0 HR.out.2.1 HB6.out)
                  obtain ⟨vx, hvx⟩ : ∃ s, vB x = s := ⟨_, rfl⟩
                  have HV2 := HG.out.vh rfl y6 Bv pv nv cv x k4 HZ.out
                  rw [hvx] at HV2
                  have HVX : Hid (vx = true → g = x) := fun h => by rw [← HGW.out.1]; exact HG.out.p3 rfl x HZ.out (by rw [hvx]; exact h)
                  clear hvx
                  go_wp2_with fail
                  refine HV2.mono ?_
                  rintro e y7 ⟨rfl, hc7⟩
                  have HB7 : Hid (Below wr.heap.size wr y7) := bel0 HB6.out hc7
                  clear k1 k2 k3 k4 hc7 HV2
                  cases vx
                  · clear HVX
                    by_cases h8 : B1 ≤ 8
                    · go_wp2_with fail
                      refine (HSX.out _).mono ?_
                      rintro e y8 ⟨rfl, hc8⟩
                      have HB8 : Hid (Below wr.heap.size wr y8) := bel0 HB7.out hc8
                      clear hc8
                      have HN := HG.out.nm h8 y8 g HGW.out.2
                      go_wp2_with fail
                      refine HN.mono ?_
                      rintro e y9 ⟨rfl, hc9⟩
                      have HM9 : Hid (BMD y9 bm m4 md ∧ Below w7.heap.size w7 y9) := ⟨keepblk3 (bel0 HB8.out hc9) HR.out.1, bel0 HR.out.2.1 (bel0 HB8.out hc9)⟩
                      clear hc9 HN
                      have hnb := (HL.out.2.2.2 h8).1 x HZ.out
                      rw [HGW.out.1] at hnb
                      obtain ⟨j, hj⟩ : ∃ j, num g = j := ⟨_, rfl⟩
                      rw [hj] at hnb
                      simp only [hj]
                      have HJ : Hid (num (ow x) = j) := by unfold Hid; rw [HGW.out.1]; exact hj
                      clear hj
                      have j1 : (j : Int) < (m4 : Int) := by omega
                      have j0 : (0 : Int) ≤ (j : Int) := by omega
                      obtain ⟨n1, n2⟩ := HM9.out.1.cell hnb
                      have HX : Hid (∃ md, BMD (y9.setCell ⟨bm, j, none⟩ (.bool true)) bm m4 md ∧ Below w7.heap.size w7 (y9.setCell ⟨bm, j, none⟩ (.bool true)) ∧ MDI B1 L ih sB ow num (i + 1) md) := ⟨_, HM9.out.1.put j, HM9.out.2.setCell (p := ⟨bm, j, none⟩) (by show w7.heap.size ≤ bm; omega) _, by have h := HR.out.2.2.put HX0.out HZ.out HSE.out; rw [HJ.out] at h; exact h⟩
                      clear hnb
                      go_wp2_with fail
                      go_roundw
                      case rel => exact ⟨i + 1, by go_num, by omega, HX⟩
                      case measure => simp [intOf]; omega
                    · have HX : Hid (∃ md, BMD y7 bm m4 md ∧ Below w7.heap.size w7 y7 ∧ MDI B1 L ih sB ow num (i + 1) md) := ⟨md, keepblk3 HB7.out HR.out.1, bel0 HR.out.2.1 HB7.out, HR.out.2.2.skip HX0.out (fun h => absurd h h8)⟩
                      go_wp2_with fail
                      go_roundw
                      case rel => exact ⟨i + 1, by go_num, by omega, HX⟩
                      case measure => simp [intOf]; omega
                  · have hgx : (g == x) = true := by rw [HVX.out rfl]; simp
                    clear HVX
                    by_cases h8 : B1 ≤ 8
                    · go_wp2_with fail
                      refine (HSX.out _).mono ?_
                      rintro e y8 ⟨rfl, hc8⟩
                      have HB8 : Hid (Below wr.heap.size wr y8) := bel0 HB7.out hc8
                      clear hc8
                      have HN := HG.out.nm h8 y8 g HGW.out.2
                      go_wp2_with fail
                      refine HN.mono ?_
                      rintro e y9 ⟨rfl, hc9⟩
                      have HM9 : Hid (BMD y9 bm m4 md ∧ Below w7.heap.size w7 y9) := ⟨keepblk3 (bel0 HB8.out hc9) HR.out.1, bel0 HR.out.2.1 (bel0 HB8.out hc9)⟩
                      clear hc9 HN
                      have hnb := (HL.out.2.2.2 h8).1 x HZ.out
                      rw [HGW.out.1] at hnb
                      obtain ⟨j, hj⟩ : ∃ j, num g = j := ⟨_, rfl⟩
                      rw [hj] at hnb
                      simp only [hj]
                      have HJ : Hid (num (ow x) = j) := by unfold Hid; rw [HGW.out.1]; exact hj
                      clear hj
                      have j1 : (j : Int) < (m4 : Int) := by omega
                      have j0 : (0 : Int) ≤ (j : Int) := by omega
                      obtain ⟨n1, n2⟩ := HM9.out.1.cell hnb
                      have HX : Hid (∃ md, BMD (y9.setCell ⟨bm, j, none⟩ (.bool true)) bm m4 md ∧ Below w7.heap.size w7 (y9.setCell ⟨bm, j, none⟩ (.bool true)) ∧ MDI B1 L ih sB ow num (i + 1) md) := ⟨_, HM9.out.1.put j, HM9.out.2.setCell (p := ⟨bm, j, none⟩) (by show w7.heap.size ≤ bm; omega) _, by have h := HR.out.2.2.put HX0.out HZ.out HSE.out; rw [HJ.out] at h; exact h⟩
                      clear hnb
                      go_wp2_with fail
                      go_roundw
                      case rel => exact ⟨i + 1, by go_num, by omega, HX⟩
                      case measure => simp [intOf]; omega
                    · have HX : Hid (∃ md, BMD y7 bm m4 md ∧ Below w7.heap.size w7 y7 ∧ MDI B1 L ih sB ow num (i + 1) md) := ⟨md, keepblk3 HB7.out HR.out.1, bel0 HR.out.2.1 HB7.out, HR.out.2.2.skip HX0.out (fun h => absurd h h8)⟩
                      go_wp2_with fail
                      go_roundw
                      case rel => exact ⟨i + 1, by go_num, by omega, HX⟩
                      case measure => simp [intOf]; omega
            · have i1 : ¬ (i : Int) < (m4 : Int) := by omega
              obtain rfl : i = m4 := by omega
              have HFI : Hid (∀ W, Below w7.heap.size w7 W → Below w.heap.size w W) := fun W hW => (HK7.out W hW).2.2.2.2
              go_wp2_with fail
              go_loopw [22] (fun v22 wz => ∃ (j : Nat), v22 = .int .i64 (j : Int) ∧ j ≤ i ∧ Hid (BMD wz bm i md ∧ Below w7.heap.size w7 wz)) (fun v22 _ => i - (intOf v22).toNat)
              case atStart => exact ⟨0, rfl, Nat.zero_le _, HR.out.1, HR.out.2.1⟩
              case round =>
                rename World => wz
                obtain ⟨j, rfl, hj, HRZ⟩ := hrel
                have HEX : Hid (Below w.heap.size w wz) := HFI.out wz HRZ.out.2
                by_cases hlt : j < i
                · have j1 : (j : Int) < (i : Int) := by omega
                  have j0 : (0 : Int) ≤ (j : Int) := by omega
                  by_cases h8 : B1 ≤ 8
                  · obtain ⟨x, hx0⟩ : ∃ x, L[j]? = some x := ⟨_, List.getElem?_eq_getElem (by rw [HL.out.1]; exact hlt)⟩
                    obtain ⟨ad, rfl, hcx⟩ := HL.out.2.1 wz HRZ.out.2 j x hx0
                    obtain ⟨hz, hv⟩ := (HL.out.2.2.2 h8).2 (by trivial) j x hx0
                    obtain ⟨vx, hvx⟩ : ∃ s, vB x = s := ⟨_, rfl⟩
                    have hmd : md j = vx := by
                      rw [← hvx, Bool.eq_iff_iff, HR.out.2.2 h8 j, hv]
                    have HKQ : Hid (∀ W, Below wz.heap.size wz W → (∀ j, W.cell? ⟨w6.heap.size, j, none⟩ = (#[.int .i64 Bv, .slice pv nv cv, .bool false] : Array Value)[j]?) ∧ W.cell? (ad.add j) = some (.string ⟨x.toArray⟩) ∧ W.cell? ⟨bm, j, none⟩ = some (.bool vx)) := fun W hW => by
                      refine ⟨(HK7.out W (bel0 HRZ.out.2 hW)).2.1, (hW.cell (World.block_lt_of_cell? wz _ hcx)).trans hcx, ?_⟩
                      have := (BMD.cell (show BMD W bm i md from keepblk3 hW HRZ.out.1) hlt).1
                      rw [hmd] at this
                      exact this
                    have HV : ∀ W, Below wz.heap.size wz W → Calls Tryz.prog 13 #[.agg #[.int .i64 Bv, .slice pv nv cv, .bool false], .string ⟨x.toArray⟩] W fun e w' => e = .returned (.bool vx) ∧ Below W.heap.size W w' := fun W hW => by
                      have h := HG.out.vh rfl W Bv pv nv cv x (HK7.out W (bel0 HRZ.out.2 hW)).2.2.2.1 hz
                      rw [hvx] at h
                      exact h
                    have hvv : (vx != vx) = false := by simp
                    clear hcx hz hv hvx hmd hx0
                    go_wp2_with fail
                    refine quiet_litW (C := fun U => Below wz.heap.size wz U) (by kernel_rfl) (by kernel_rfl) (show Below _ _ _ from (Below.refl _ _).drew) ?_
                    go_big_quiet_want
                    refine ⟨.agg #[.int .i64 Bv, .slice pv nv cv, .bool false], fun W hW => ?_, ?_⟩
                    · obtain ⟨s1, s2, s3⟩ := HKQ.out W hW
                      go_simp
                    go_big_quiet_on
                    simp only [Act.put, List.setIfInBounds_toArray, List.set_cons_zero, List.set_cons_succ]
                    go_big_quiet_want
                    go_big_quiet_op
                    go_big_quiet_on
                    go_big_quiet_want
                    go_big_quiet_op
                    go_big_quiet_on
                    go_big_quiet_want
                    refine ⟨.pointer (some (ad.add j)), fun W hW => ?_, ?_⟩
                    · go_simp
                    go_big_quiet_on
                    simp only [Act.put, List.setIfInBounds_toArray, List.set_cons_zero, List.set_cons_succ]
                    go_big_quiet_want
                    refine ⟨.string ⟨x.toArray⟩, fun W hW => ?_, ?_⟩
                    · obtain ⟨s1, s2, s3⟩ := HKQ.out W hW
                      go_simp
                    go_big_quiet_on
                    simp only [Act.put, List.setIfInBounds_toArray, List.set_cons_zero, List.set_cons_succ]
                    go_big_quiet_want
                    refine ⟨.bool vx, fun W hW => ?_, ?_⟩
                    · go_simp
                      refine (HV W hW).mono ?_
                      rintro e w7 ⟨rfl, hb⟩
                      exact ⟨rfl, bel0 hW hb⟩
                    go_big_quiet_on
                    simp only [Act.put, List.setIfInBounds_toArray, List.set_cons_zero, List.set_cons_succ]
                    go_big_quiet_want
                    go_big_quiet_op
                    go_big_quiet_on
                    go_big_quiet_want
                    go_big_quiet_op
                    go_big_quiet_on
                    go_big_quiet_want
                    refine ⟨.pointer (some ⟨bm, j, none⟩), fun W hW => ?_, ?_⟩
                    · go_simp
                    go_big_quiet_on
                    simp only [Act.put, List.setIfInBounds_toArray, List.set_cons_zero, List.set_cons_succ]
                    go_big_quiet_want
                    refine ⟨.bool vx, fun W hW => ?_, ?_⟩
                    · obtain ⟨s1, s2, s3⟩ := HKQ.out W hW
                      go_simp
                    go_big_quiet_on
                    simp only [Act.put, List.setIfInBounds_toArray, List.set_cons_zero, List.set_cons_succ]
                    go_big_quiet_want
                    refine ⟨.bool false, fun W hW => ?_, ?_⟩
                    · go_simp
                    go_big_quiet_on
                    simp only [Act.put, List.setIfInBounds_toArray, List.set_cons_zero, List.set_cons_succ]
                    refine wpQuiet_nil ?_
                    intro z5 hz5
                    have HX : Hid (BMD z5 bm i md ∧ Below w7.heap.size w7 z5) := ⟨keepblk3 hz5 HRZ.out.1, bel0 HRZ.out.2 hz5⟩
                    clear hz5 HV
                    go_wp2_with fail
                    go_roundw
                    case rel => exact ⟨j + 1, by go_num, by omega, HX⟩
                    case measure => simp [intOf]; omega
                  · go_wp2_with fail
                    go_ret
                    exact ⟨rfl, HEX.out⟩
                · have j1 : ¬ (j : Int) < (i : Int) := by omega
                  go_wp2_with fail
                  go_ret
                  exact ⟨rfl, HEX.out⟩
        · have HGE := HGE0
          clear HGE0
          have HG : Hid (WG B1 B1 0 3 l word r uB sB vB ih ow num PQ UQ VQ q len cap w) := HGE
          clear HGE
          obtain ⟨f1, f2, f3, -⟩ := HF.out w4 (Below.refl _ _)
          go_wp2_with fail
          refine (HG.out.bf _ _ _ _ f3).mono ?_
          rintro e w5 ⟨pu, nu, cu, lo, rfl, hu, hb5⟩
          have HB5 : Hid (UQ w5 pu nu cu lo ∧ Below w4.heap.size w4 w5) := ⟨hu, hb5⟩
          clear f1 f2 f3 hu hb5
          obtain ⟨f1, f2, f3, -⟩ := HF.out (w5.alloc (.cells #[.int .i64 B1, .slice pu nu cu, .bool lo] 26 (0, 0))) (belA HB5.out.2 _)
          go_wp2_with fail
          refine (HG.out.af _ _ _ _ f3).mono ?_
          rintro e w6 ⟨Bv, pv, nv, cv, rfl, hv, hb6⟩
          have HK : Hid (∀ W, Below (w6.alloc (.cells #[.int .i64 Bv, .slice pv nv cv, .bool false] 26 (0, 0))).heap.size (w6.alloc (.cells #[.int .i64 Bv, .slice pv nv cv, .bool false] 26 (0, 0))) W → (∀ j, W.cell? ⟨w5.heap.size, j, none⟩ = (#[.int .i64 B1, .slice pu nu cu, .bool lo] : Array Value)[j]?) ∧ (∀ j, W.cell? ⟨w6.heap.size, j, none⟩ = (#[.int .i64 Bv, .slice pv nv cv, .bool false] : Array Value)[j]?) ∧ UQ W pu nu cu lo ∧ VQ W pv nv cv ∧ Below w.heap.size w W) := fun W hW => by
            have h6 : Below w6.heap.size w6 W := bel0 (belA (Below.refl _ _) _) hW
            have h5 : Below (w5.alloc (.cells #[.int .i64 B1, .slice pu nu cu, .bool lo] 26 (0, 0))).heap.size (w5.alloc (.cells #[.int .i64 B1, .slice pu nu cu, .bool lo] 26 (0, 0))) W := bel0 hb6 h6
            have h5' : Below w5.heap.size w5 W := bel0 (belA (Below.refl _ _) _) h5
            exact ⟨(cells_block (keepblk3 h5 (alloc_get _ _))).1, (cells_block (keepblk3 hW (alloc_get _ _))).1, HQ.out.2.1 _ _ _ _ _ _ HB5.out.1 h5', HQ.out.2.2 _ _ _ _ _ hv h6, (HF.out W (bel0 HB5.out.2 h5')).2.2.2⟩
          clear f1 f2 f3 hv hb6 HF HB5 HQ
          go_wp2_with fail
          refine (HG.out.hd _ (HK.out _ (Below.refl _ _)).2.2.2.2).mono ?_
          rintro e w7 ⟨L, p4, m4, c4, rfl, hLl, hm4, hls, hb7, hih, hb8⟩
          have hmk := hmb m4 hm4
          have HL : Hid (L.length = m4 ∧ LST w7 p4 L ∧ (∀ W x, x ∈ L → Calls Tryz.prog 11 #[.int .i64 B1, .string ⟨x.toArray⟩] W fun e w' => e = .returned (.bool (ih x)) ∧ Below W.heap.size W w') ∧ (B1 ≤ 8 → (∀ x, ih x = true → num (ow x) < m4) ∧ (3 = (0 : Int) → ∀ i x, L[i]? = some x → ih x = true ∧ (vB x = true ↔ ∃ i' y, i' < m4 ∧ L[i']? = some y ∧ ih y = true ∧ sB y = true ∧ num (ow y) = i)))) := ⟨hLl, hls, hih, hb8⟩
          have HK7 : Hid (∀ W, Below w7.heap.size w7 W → (∀ j, W.cell? ⟨w5.heap.size, j, none⟩ = (#[.int .i64 B1, .slice pu nu cu, .bool lo] : Array Value)[j]?) ∧ (∀ j, W.cell? ⟨w6.heap.size, j, none⟩ = (#[.int .i64 Bv, .slice pv nv cv, .bool false] : Array Value)[j]?) ∧ UQ W pu nu cu lo ∧ VQ W pv nv cv ∧ Below w.heap.size w W) := fun W hW => HK.out W (bel0 hb7 hW)
          have HM8 : Hid (BMD (w7.alloc (.cells (bsA m4 (fun _ => false)) 4 (0, 0))) w7.heap.size m4 (fun _ => false) ∧ Below w7.heap.size w7 (w7.alloc (.cells (bsA m4 (fun _ => false)) 4 (0, 0)))) := ⟨alloc_get _ _, belA (Below.refl _ _) _⟩
          obtain ⟨bm, hbm⟩ : ∃ s, w7.heap.size = s := ⟨_, rfl⟩
          clear hLl hls hih hb8 hb7 HK hmb
          go_wp2_with fail
          rw [hbm] at HM8

          clear hmk
          go_loopw [19] (fun v19 wr => ∃ (i : Nat), v19 = .int .i64 (i : Int) ∧ i ≤ m4 ∧ Hid (∃ md, BMD wr bm m4 md ∧ Below w7.heap.size w7 wr ∧ MDI B1 L ih sB ow num i md)) (fun v19 _ => m4 - (intOf v19).toNat)
          case atStart => exact ⟨0, rfl, Nat.zero_le _, _, HM8.out.1, by rw [hbm]; exact HM8.out.2, MDI.zero⟩
          case round =>
            obtain ⟨i, rfl, hi, hrel⟩ := hrel
            obtain ⟨md, hrel⟩ := hrel.out
            have HR : Hid (BMD wr bm m4 md ∧ Below w7.heap.size w7 wr ∧ MDI B1 L ih sB ow num i md) := hrel
            clear hrel
            by_cases hlt : i < m4
            · have i1 : (i : Int) < (m4 : Int) := by omega
              have i0 : (0 : Int) ≤ (i : Int) := by omega
              obtain ⟨x, hx0⟩ : ∃ x, L[i]? = some x := ⟨_, List.getElem?_eq_getElem (by rw [HL.out.1]; exact hlt)⟩
              obtain ⟨ad, rfl, hcx⟩ := HL.out.2.1 wr HR.out.2.1 i x hx0
              have HX0 : Hid (L[i]? = some x) := hx0
              obtain ⟨z, hz⟩ : ∃ z, ih x = z := ⟨_, rfl⟩
              have HI := HL.out.2.2.1 wr x (List.mem_of_getElem? hx0)
              rw [hz] at HI
              clear hx0
              go_wp2_with fail
              refine HI.mono ?_
              rintro e y1 ⟨rfl, hc1⟩
              have HB1 : Hid (Below wr.heap.size wr y1) := hc1
              clear hcx HI hc1
              cases z with
              | false =>
                have HX : Hid (∃ md, BMD y1 bm m4 md ∧ Below w7.heap.size w7 y1 ∧ MDI B1 L ih sB ow num (i + 1) md) := ⟨md, keepblk3 HB1.out HR.out.1, bel0 HR.out.2.1 HB1.out, HR.out.2.2.skip HX0.out (fun _ h => by rw [hz] at h; cases h.1)⟩
                clear hz
                go_wp2_with fail
                go_roundw
                case rel => exact ⟨i + 1, by go_num, by omega, HX⟩
                case measure => simp [intOf]; omega
              | true =>
                have HZ : Hid (ih x = true) := hz
                clear hz
                obtain ⟨g, hg⟩ : ∃ g, ow x = g := ⟨_, rfl⟩
                have HO := HG.out.ov y1 x HZ.out
                rw [hg] at HO
                have HGW : Hid (ow x = g ∧ ih g = true) := ⟨hg, by rw [← hg]; exact HG.out.p0 x HZ.out⟩
                clear hg
                go_wp2_with fail
                refine HO.mono ?_
                rintro e y2 ⟨rfl, hc2⟩
                have HB2 : Hid (Below wr.heap.size wr y2) := bel0 HB1.out hc2
                clear hc2 HO HB1
                obtain ⟨k1, k2, k3, k4, -⟩ := HK7.out y2 (bel0 HR.out.2.1 HB2.out)
                obtain ⟨sg, hsg⟩ : ∃ s, sB g = s := ⟨_, rfl⟩
                have HU := HG.out.uh y2 pu nu cu lo x k3 HZ.out
                rw [HG.out.p1 x HZ.out, HGW.out.1, hsg] at HU
                have HS : Hid (∀ W, Calls Tryz.prog 14 #[.string ⟨l.toArray⟩, .string ⟨g.toArray⟩] W fun e w' => e = .returned (.bool sg) ∧ Below W.heap.size W w') := fun W => by
                  have h := HG.out.sd W g HGW.out.2
                  rw [hsg] at h
                  exact h
                have hss : (sg != sg) = false := by simp
                clear hsg
                go_wp2_with fail
                refine HU.mono ?_
                rintro e y3 ⟨rfl, hc3⟩
                go_wp2_with fail
                refine (HS.out _).mono ?_
                rintro e y4 ⟨rfl, hc4⟩
                have HB4 : Hid (Below wr.heap.size wr y4) := bel0 HB2.out (bel0 hc3 hc4)
                clear k1 k2 k3 k4 HU HS hc3 hc4 HB2
                obtain ⟨k1, k2, k3, k4, -⟩ := HK7.out y4 (bel0 HR.out.2.1 HB4.out)
                obtain ⟨sx, hsx⟩ : ∃ s, sB x = s := ⟨_, rfl⟩
                have HSX : Hid (∀ W, Calls Tryz.prog 14 #[.string ⟨l.toArray⟩, .string ⟨x.toArray⟩] W fun e w' => e = .returned (.bool sx) ∧ Below W.heap.size W w') := fun W => by
                  have h := HG.out.sd W x HZ.out
                  rw [hsx] at h
                  exact h
                have HSE : Hid (sB x = sx) := hsx
                clear hsx
                clear k1 k2 k3 k4
                cases sx
                · have hHid : True := trivial
                  by_cases h8 : B1 ≤ 8
                  · go_wp2_with fail
                    refine (HSX.out _).mono ?_
                    rintro e y8 ⟨rfl, hc8⟩
                    have HB8 : Hid (Below wr.heap.size wr y8) := bel0 HB4.out hc8
                    clear hc8
                    have HX : Hid (∃ md, BMD y8 bm m4 md ∧ Below w7.heap.size w7 y8 ∧ MDI B1 L ih sB ow num (i + 1) md) := ⟨md, keepblk3 HB8.out HR.out.1, bel0 HR.out.2.1 HB8.out, HR.out.2.2.skip HX0.out (fun _ h => by rw [HSE.out] at h; cases h.2)⟩
                    go_wp2_with fail
                    go_roundw
                    case rel => exact ⟨i + 1, by go_num, by omega, HX⟩
                    case measure => simp [intOf]; omega
                  · have HX : Hid (∃ md, BMD y4 bm m4 md ∧ Below w7.heap.size w7 y4 ∧ MDI B1 L ih sB ow num (i + 1) md) := ⟨md, keepblk3 HB4.out HR.out.1, bel0 HR.out.2.1 HB4.out, HR.out.2.2.skip HX0.out (fun h => absurd h h8)⟩
                    go_wp2_with fail
                    go_roundw
                    case rel => exact ⟨i + 1, by go_num, by omega, HX⟩
                    case measure => simp [intOf]; omega
                · have hHid : True := trivial
                  by_cases h8 : B1 ≤ 8
                  · go_wp2_with fail
                    refine (HSX.out _).mono ?_
                    rintro e y8 ⟨rfl, hc8⟩
                    have HB8 : Hid (Below wr.heap.size wr y8) := bel0 HB4.out hc8
                    clear hc8
                    have HN := HG.out.nm h8 y8 g HGW.out.2
                    go_wp2_with fail
                    refine HN.mono ?_
                    rintro e y9 ⟨rfl, hc9⟩
                    have HM9 : Hid (BMD y9 bm m4 md ∧ Below w7.heap.size w7 y9) := ⟨keepblk3 (bel0 HB8.out hc9) HR.out.1, bel0 HR.out.2.1 (bel0 HB8.out hc9)⟩
                    clear hc9 HN
                    have hnb := (HL.out.2.2.2 h8).1 x HZ.out
                    rw [HGW.out.1] at hnb
                    obtain ⟨j, hj⟩ : ∃ j, num g = j := ⟨_, rfl⟩
                    rw [hj] at hnb
                    simp only [hj]
                    have HJ : Hid (num (ow x) = j) := by unfold Hid; rw [HGW.out.1]; exact hj
                    clear hj
                    have j1 : (j : Int) < (m4 : Int) := by omega
                    have j0 : (0 : Int) ≤ (j : Int) := by omega
                    obtain ⟨n1, n2⟩ := HM9.out.1.cell hnb
                    have HX : Hid (∃ md, BMD (y9.setCell ⟨bm, j, none⟩ (.bool true)) bm m4 md ∧ Below w7.heap.size w7 (y9.setCell ⟨bm, j, none⟩ (.bool true)) ∧ MDI B1 L ih sB ow num (i + 1) md) := ⟨_, HM9.out.1.put j, HM9.out.2.setCell (p := ⟨bm, j, none⟩) (by show w7.heap.size ≤ bm; omega) _, by have h := HR.out.2.2.put HX0.out HZ.out HSE.out; rw [HJ.out] at h; exact h⟩
                    clear hnb
                    go_wp2_with fail
                    go_roundw
                    case rel => exact ⟨i + 1, by go_num, by omega, HX⟩
                    case measure => simp [intOf]; omega
                  · have HX : Hid (∃ md, BMD y4 bm m4 md ∧ Below w7.heap.size w7 y4 ∧ MDI B1 L ih sB ow num (i + 1) md) := ⟨md, keepblk3 HB4.out HR.out.1, bel0 HR.out.2.1 HB4.out, HR.out.2.2.skip HX0.out (fun h => absurd h h8)⟩
                    go_wp2_with fail
                    go_roundw
                    case rel => exact ⟨i + 1, by go_num, by omega, HX⟩
                    case measure => simp [intOf]; omega
            · have i1 : ¬ (i : Int) < (m4 : Int) := by omega
              obtain rfl : i = m4 := by omega
              have HFI : Hid (∀ W, Below w7.heap.size w7 W → Below w.heap.size w W) := fun W hW => (HK7.out W hW).2.2.2.2
              go_wp2_with fail
              go_loopw [22] (fun v22 wz => ∃ (j : Nat), v22 = .int .i64 (j : Int) ∧ j ≤ i ∧ Hid (BMD wz bm i md ∧ Below w7.heap.size w7 wz)) (fun v22 _ => i - (intOf v22).toNat)
              case atStart => exact ⟨0, rfl, Nat.zero_le _, HR.out.1, HR.out.2.1⟩
              case round =>
                rename World => wz
                obtain ⟨j, rfl, hj, HRZ⟩ := hrel
                have HEX : Hid (Below w.heap.size w wz) := HFI.out wz HRZ.out.2
                by_cases hlt : j < i
                · have j1 : (j : Int) < (i : Int) := by omega
                  have j0 : (0 : Int) ≤ (j : Int) := by omega
                  by_cases h8 : B1 ≤ 8
                  · go_wp2_with fail
                    go_ret
                    exact ⟨rfl, HEX.out⟩
                  · go_wp2_with fail
                    go_ret
                    exact ⟨rfl, HEX.out⟩
                · have j1 : ¬ (j : Int) < (i : Int) := by omega
                  go_wp2_with fail
                  go_ret
                  exact ⟨rfl, HEX.out⟩
      · have e1 : (E1 != 0) = true := by simpa using hE
        have HZ : Hid (Below w.heap.size w w4) := (HF.out w4 (Below.refl _ _)).2.2.2
        go_wp2_with fail
        go_ret
        exact ⟨rfl, HZ.out⟩
end Go.Proofs.YtekjbpemaohipaaGreatDoor
